import PyProof.Rows.All
import Wide.All
import OpenK.AllK
import Wide.FinOn
import Lean
import PyProof.EqAt
import PyProof.EqKinds
import PyProof.TupleCall
import KE.LcSums
import PyProof.ZipIter
import KE.KTryMore
import PyProof.Rows.CountFlat
import PyProof.Rows.SeqMore2
import PySem.Builtin.Int.W1All
import PyProof.FString5
import PyProof.StrLawsIn
import PyProof.StrBlockI
import PyProof.Rows.Range3
import KE.KEqDict
import PyProof.Rows.RowBridgeK
import KE.KxWritten
import PyProof.ListMulRoad
import PyProof.Rows.ListMulCarried
import PySem.Challenge.RW_widewords_k12_tellings_looked_at
set_option Elab.async false
set_option linter.all false
set_option maxRecDepth 100000
set_option maxHeartbeats 0
namespace L2
open PySem PySem.Spec PyProof.Rows
abbrev Key:=Sum Int Str
def keyIs:Key->Value->Bool
 | .inl k,v=>Value.isInt k v
 | .inr x,v=>Value.isStrOf x v
def keyH (w:World):Key->Int
 | .inl k=>hashInt k
 | .inr x=>hashStr w x
theorem zbb:∀{k:Key} {v:Value},keyIs k v=true->(∃i t,k=Sum.inl i/\v=Value.int i t) \/ (∃x t,k=Sum.inr x/\v=Value.str x t)
 | .inl i,v,h=>by
  obtain ⟨t,e⟩:=Value.isInt_shape (k:=i) (v:=v) h
  exact .inl ⟨i,t,rfl,e⟩
 | .inr x,v,h=>by
  obtain ⟨t,e⟩:=Value.isStrOf_shape (x:=x) (v:=v) h
  exact .inr ⟨x,t,rfl,e⟩
theorem zk3 (i:Int)(t:Tok):keyIs (.inl i) (.int i t)=true:=by simp [keyIs,Value.isInt]
theorem zkL (x:Str)(t:Tok):keyIs (.inr x) (.str x t)=true:=by simp [keyIs,Value.isStrOf]
theorem zon (a b:Int):decide ((Sum.inl a:Key)=Sum.inl b)=(a == b):=by
 by_cases e:a=b
 ·subst e;simp
 ·have h:¬(Sum.inl a:Key)=Sum.inl b:=fun q=>e (Sum.inl.inj q)
  rw [decide_eq_false h]
  exact (beq_eq_false_iff_ne.mpr e).symm
theorem zow (a b:Str):decide ((Sum.inr a:Key)=Sum.inr b)=decide (a=b):=by
 by_cases e:a=b
 ·subst e;simp
 ·have h:¬(Sum.inr a:Key)=Sum.inr b:=fun q=>e (Sum.inr.inj q)
  rw [decide_eq_false h,decide_eq_false e]
theorem zoD (a:Int)(b:Str):decide ((Sum.inl a:Key)=Sum.inr b)=false:=decide_eq_false (fun q=>nomatch q)
theorem zoH (a:Str)(b:Int):decide ((Sum.inr a:Key)=Sum.inl b)=false:=decide_eq_false (fun q=>nomatch q)
def mixKind (prog:Program)(w:World):PySem.KeyKind prog w Key where
 is:=keyIs
 hash:=keyH w
 inj:=fun v a b ha hb=>by
  rcases zbb ha with ⟨i,t,rfl,rfl⟩|⟨x,t,rfl,rfl⟩
  ·rcases zbb hb with ⟨j,u,rfl,e⟩|⟨y,u,rfl,e⟩
   ·injection e with e1 _;rw [e1]
   ·exact nomatch e
  ·rcases zbb hb with ⟨j,u,rfl,e⟩|⟨y,u,rfl,e⟩
   ·exact nomatch e
   ·injection e with e1 _;rw [e1]
 byValue:=fun k v h=>by
  rcases zbb h with ⟨i,t,rfl,rfl⟩|⟨x,t,rfl,rfl⟩ <;> rfl
 pyHash:=fun hv h=>by
  rcases zbb hv with ⟨i,t,rfl,rfl⟩|⟨x,t,rfl,rfl⟩
  ·exact wpAny_pyHash_int h
  ·exact wpAny_pyHash_str h
 eqBool:=fun hu hv h=>by
  rcases zbb hu with ⟨i,t,rfl,rfl⟩|⟨x,t,rfl,rfl⟩
  ·rcases zbb hv with ⟨j,u,rfl,rfl⟩|⟨y,u,rfl,rfl⟩
   ·rw [zon] at h;exact wpAny_eqBool_int h
   ·rw [zoD] at h;exact SeqAt.EqAt.int_str i t y u _ _ _ _ h
  ·rcases zbb hv with ⟨j,u,rfl,rfl⟩|⟨y,u,rfl,rfl⟩
   ·rw [zoH] at h;exact SeqAt.EqAt.str_int x t j u _ _ _ _ h
   ·rw [zow] at h;exact wpAny_eqBool_str h
 «strs»:=fun k x t v h=>by
  rcases zbb h with ⟨i,u,rfl,e⟩|⟨y,u,rfl,e⟩
  ·exact nomatch e
  ·injection e with e1 _
   subst e1
   cases v <;> rfl
theorem ziU (prog:Program)(w:World)(i:Int)(t:Tok):(mixKind prog w).is (.inl i) (.int i t)=true:=zk3 i t
theorem zit (prog:Program)(w:World)(x:Str)(t:Tok):(mixKind prog w).is (.inr x) (.str x t)=true:=zkL x t
inductive V where
 | non|bl (b:Bool)|int (i:Int)|str (x:Str)|byt (b:Array UInt8)|flt (b:UInt64)|ref (a:Addr)|ty (n:String)
 deriving DecidableEq
def RelV:V->Value->Prop
 | .non,u=>u=Value.none
 | .bl b,u=>u=Value.bool b
 | .int i,u=>∃t,u=Value.int i t
 | .str x,u=>∃t,u=Value.str x t
 | .byt b,u=>∃t,u=Value.bytes b t
 | .flt b,u=>∃t,u=Value.float b t
 | .ref a,u=>u=Value.ref a
 | .ty n,u=>u=Value.type n
abbrev Vals:List V->List Value->Prop:=Paired RelV
theorem Vals.length {xs:List V}{us:List Value}(r:Vals xs us):xs.length=us.length:=Paired.length r
theorem Vals.get:∀{xs:List V} {us:List Value} {i:Nat} {x:V},Vals xs us->xs[i]?=some x->∃u,us[i]?=some u/\RelV x u
 |_,_,_,_,.nil,e=>by simp at e
 |_,_,0,_,.cons r _,e=>by simp at e;subst e;exact ⟨_,rfl,r⟩
 |_,_,i+1,x,.cons _ t,e=>by
  obtain ⟨u,h1,h2⟩:=Vals.get (i:=i) (x:=x) t (by simpa using e)
  exact ⟨u,by simpa using h1,h2⟩
theorem Vals.set {x:V}{u:Value}(r:RelV x u):∀{xs:List V} {us:List Value} (i:Nat),Vals xs us->Vals (xs.set i x) (us.set i u)
 |_,_,_,.nil=>.nil
 |_,_,0,.cons _ t=>.cons r t
 |_,_,i+1,.cons q t=>.cons q (Vals.set r i t)
theorem Vals.append:∀{xs ys:List V} {us ws:List Value},Vals xs us->Vals ys ws->Vals (xs++ys) (us++ws)
 |_,_,_,_,.nil,s=>s
 |_,_,_,_,.cons r t,s=>.cons r (Vals.append t s)
theorem Vals.take:∀{xs:List V} {us:List Value} (n:Nat),Vals xs us->Vals (xs.take n) (us.take n)
 |_,_,0,_=>.nil
 |_,_,_+1,.nil=>.nil
 |_,_,n+1,.cons r t=>.cons r (Vals.take n t)
theorem Vals.drop:∀{xs:List V} {us:List Value} (n:Nat),Vals xs us->Vals (xs.drop n) (us.drop n)
 |_,_,0,r=>r
 |_,_,_+1,.nil=>.nil
 |_,_,n+1,.cons _ t=>Vals.drop n t
def RelO:Option V->Option Value->Prop
 |some v,some u=>RelV v u
 |none,none=>True
 |_,_=>False
def KV {κ:Type}:List (κ×V)->List (κ×Value)->Prop:=Paired fun (p:κ×V) (q:κ×Value)=>p.1=q.1/\RelV p.2 q.2
def kV:Key->V
 | .inl i=>.int i
 | .inr x=>.str x
inductive HO where
 | lst (xs:List V)
 | tup (xs:List V)
 | dK (kvs:List (Key×V))|dT (kvs:List (List Key×V))
 | set (S:Int->Bool) (n:Nat)
 | ins (C dx:Addr) (fs:List (Str×V))
 | own (x:Addr)
 | xd (fs:List (Str×V))
 | met (f x:Addr)
 | rng (lo hi:Int)
 | frz (o:Obj) (u:HO)
 | tbl (ps:Array Value)
 | ext (φ:Heap->Prop)
abbrev Hp:=Addr->Option HO
def upd (H:Hp)(a:Addr)(o:HO):Hp:=fun b=>if b=a then some o else H b
theorem zal {H:Hp}{a:Addr}{o:HO}:upd H a o a=some o:=by unfold upd;rw [if_pos rfl]
theorem z4 {H:Hp}{a b:Addr}{o:HO}(h:b≠a):upd H a o b=H b:=by unfold upd;rw [if_neg h]
theorem zm6 {H:Hp}{a:Addr}{o u:HO}:upd (upd H a o) a u=upd H a u:=by
 funext b;unfold upd;split <;> rfl
theorem zoV {H:Hp}{a b:Addr}{o u:HO}(h:H a=some o)(h':H b=some u)(d:o≠u):a≠b:=by
 intro e;subst e;rw [h] at h';exact d (Option.some.inj h')
theorem zad {H:Hp}{a b:Addr}{o:HO}(h:H a=some o)(h':H b=none):a≠b:=by
 intro e;subst e;rw [h] at h';cases h'
section
variable (P:Program)(w:World)
def ObjOk (H:Hp)(h:Heap)(a:Addr):HO->Prop
 | .lst xs=>xs.length<=sizeLine/\∃(its:List Value) (n:Nat),Vals xs its/\h.get? a=some { cls:=.type "list",data:=.seq its.toArray n }
 | .tup xs=>xs.length<=sizeLine/\∃its:List Value,Vals xs its/\IsTup h a its.toArray
 | .dK kvs=>kvs.length<=sizeLine/\(a == sysModules)=false/\∃vs,KV kvs vs/\h.DictOf (mixKind P w) a vs
 | .dT kvs=>kvs.length<=sizeLine/\(a == sysModules)=false/\∃xs:List (List Key×Addr×Value),
   Paired (fun (p:List Key×V) (q:List Key×Addr×Value)=>p.1=q.1/\H q.2.1=some (.tup (p.1.map kV))/\RelV p.2 q.2.2) kvs xs /\
   ∃o es ep,h.get? a=some o/\o.ExactDict/\o.data=.dict es ep/\es.toList=xs.map (entryOfKey (tupleKind (mixKind P w)))/\(xs.map (·.1)).Nodup
 | .set S n=>h.SetOf (intKind P w) a S n
 | .ins C dx fs=>H dx=some (.own a)/\fs.length<=1000/\dx≠a/\h.get? a=some (PySem.W.instObj C dx) /\
   ∃mA,h.Ns1 dx mA/\(∀f,RelO (fs.lookup f) (mA f))/\PySem.Within mA (fs.map (·.1))
 | .own _=>∃o,h.get? a=some o
 | .xd fs=>∃mA,h.Ns1 a mA/\∀f,RelO (fs.lookup f) (mA f)
 | .rng lo hi=>∃t u v,h.get? a=some { cls:=.type "range",data:=.fields #[.int lo t,.int hi u,.int 1 v] }
 | .frz o u=>h.get? a=some o/\ObjOk H h a u
 | .tbl ps=>h.get? a=some { cls:=.none,data:=.fields ps }
 | .met f x=>h.get? a=some (PySem.W.methodObj (.ref f) (.ref x))
 | .ext φ=>φ h/\(∃o,h.get? a=some o)/\∀h1 h2:Heap,φ h1->(∀o,h1.get? a=some o->h2.get? a=some o)->φ h2
def HOk (H:Hp)(h:Heap):Prop:=∀a o,H a=some o->ObjOk P w H h a o
end
section
variable {P:Program}{w:World}{H H':Hp}{h h':Heap}{a:Addr}{o:HO}
theorem ObjOk.lt (x:ObjOk P w H h a o):a<h.objs.size:=by
 cases o with
 |lst xs=>obtain ⟨_,_,_,_,e⟩:=x;exact Heap.lt_size e
 |tup xs=>obtain ⟨_,_,_,p⟩:=x;exact p.lt
 |dK kvs=>obtain ⟨_,_,_,_,o,_,_,e,_⟩:=x;exact Heap.lt_size e
 |dT kvs=>obtain ⟨_,_,_,_,o,_,_,e,_⟩:=x;exact Heap.lt_size e
 |set S n=>obtain ⟨o,_,_,_,e,_⟩:=x;exact Heap.lt_size e
 |ins C dx fs=>obtain ⟨_,_,_,e,_⟩:=x;exact Heap.lt_size e
 |own y=>obtain ⟨_,e⟩:=x;exact Heap.lt_size e
 |xd fs=>obtain ⟨_,⟨_,_,_,e,_⟩,_⟩:=x;exact Heap.lt_size e
 |rng lo hi=>obtain ⟨_,_,_,e⟩:=x;exact Heap.lt_size e
 |frz ob u=>obtain ⟨e,_⟩:=x;exact Heap.lt_size e
 |tbl ps=>exact Heap.lt_size (show h.get? a=some _ from x)
 |met f y=>exact Heap.lt_size (show h.get? a=some _ from x)
 |ext φ=>obtain ⟨_,⟨_,e⟩,_⟩:=x;exact Heap.lt_size e
theorem Paired.mapP {α β:Type}{F G:α->β->Prop}:∀{l₁:List α} {l₂:List β},Paired F l₁ l₂->(∀a b,F a b->G a b)->Paired G l₁ l₂
 |_,_,.nil,_=>.nil
 |_,_,.cons r t,f=>.cons (f _ _ r) (Paired.mapP t f)
theorem ObjOk.stay (x:ObjOk P w H h a o)(k:∀b u,(b=a \/ H b=some (.own a))->h.get? b=some u->h'.get? b=some u)
  (ho:∀b,H b=some (.own a)->H' b=some (.own a)) (ht:∀b xs,H b=some (.tup xs)->H' b=some (.tup xs)):ObjOk P w H' h' a o:=by
 induction o with
 |lst xs=>obtain ⟨z,its,n,r,e⟩:=x;exact ⟨z,its,n,r,k _ _ (.inl rfl) e⟩
 |tup xs=>obtain ⟨z,its,r,ob,e,c⟩:=x;exact ⟨z,its,r,ob,k _ _ (.inl rfl) e,c⟩
 |dK kvs=>obtain ⟨z,y,vs,r,ob,es,ep,e,c⟩:=x;exact ⟨z,y,vs,r,ob,es,ep,k _ _ (.inl rfl) e,c⟩
 |dT kvs =>
  obtain ⟨z,y,xs,r,ob,es,ep,e,c⟩:=x
  exact ⟨z,y,xs,Paired.mapP r fun p q z=>⟨z.1,ht _ _ z.2.1,z.2.2⟩,ob,es,ep,k _ _ (.inl rfl) e,c⟩
 |set S n=>obtain ⟨ob,es,ep,t,e,c⟩:=x;exact ⟨ob,es,ep,t,k _ _ (.inl rfl) e,c⟩
 |ins C dx fs =>
  obtain ⟨d,z,ne,e,mA,⟨od,es,ep,e2,c⟩,r⟩:=x
  exact ⟨ho _ d,z,ne,k _ _ (.inl rfl) e,mA,⟨od,es,ep,k _ _ (.inr d) e2,c⟩,r⟩
 |own y=>obtain ⟨ob,e⟩:=x;exact ⟨ob,k _ _ (.inl rfl) e⟩
 |xd fs=>obtain ⟨mA,⟨od,es,ep,e,c⟩,r⟩:=x;exact ⟨mA,⟨od,es,ep,k _ _ (.inl rfl) e,c⟩,r⟩
 |rng lo hi=>obtain ⟨t,u,v,e⟩:=x;exact ⟨t,u,v,k _ _ (.inl rfl) e⟩
 |frz ob u ih=>obtain ⟨e,q⟩:=x;exact ⟨k _ _ (.inl rfl) e,ih q⟩
 |tbl ps =>
  have e:h.get? a=some { cls:=.none,data:=.fields ps }:=x
  show h'.get? a=some { cls:=.none,data:=.fields ps }
  exact k a _ (.inl rfl) e
 |met f y =>
  have e:h.get? a=some (PySem.W.methodObj (.ref f) (.ref y)):=x
  show h'.get? a=some (PySem.W.methodObj (.ref f) (.ref y))
  exact k a _ (.inl rfl) e
 |ext φ=>obtain ⟨p,⟨o,e⟩,st⟩:=x;exact ⟨st _ _ p fun o q=>k _ _ (.inl rfl) q,⟨o,k _ _ (.inl rfl) e⟩,st⟩
theorem HOk.lt (x:HOk P w H h)(e:H a=some o):a<h.objs.size:=(x a o e).lt
theorem HOk.fresh (x:HOk P w H h)(e:h.objs.size<=a):H a=none:=by
 cases q:H a with
 |none=>rfl
 |some u=>exact absurd (Nat.lt_of_lt_of_le (x.lt q) e) (Nat.lt_irrefl _)
theorem HOk.kept (x:HOk P w H h)(k:∀b u,h.get? b=some u->h'.get? b=some u):HOk P w H h':=fun a o e =>
 (x a o e).stay (fun b u _ q=>k b u q) (fun _ q=>q) fun _ _ q=>q
theorem HOk.laid (x:HOk P w H h)(k:∀b u,h.get? b=some u->h'.get? b=some u)(hp:h.objs.size<=a)(new:ObjOk P w (upd H a o) h' a o):HOk P w (upd H a o) h':=fun b u e=>by
 have hn:=x.fresh hp
 by_cases hb:b=a
 ·subst hb;rw [zal] at e;cases e;exact new
 ·rw [z4 hb] at e
  exact (x b u e).stay (fun c v _ q=>k c v q) (fun c q=>by rw [z4 (zad q hn)];exact q) fun c xs q=>by rw [z4 (zad q hn)];exact q
end
def Rd (H:Hp)(a:Addr)(u:HO):Prop:=H a=some u \/ ∃o,H a=some (.frz o u)
theorem Rd.of {H:Hp}{a:Addr}{u:HO}(h:H a=some u):Rd H a u:=.inl h
theorem Rd.ok {P:Program}{w:World}{H:Hp}{h:Heap}{a:Addr}{u:HO}(r:Rd H a u)(x:HOk P w H h):ObjOk P w H h a u:=by
 rcases r with r|⟨o,r⟩
 ·exact x a u r
 ·obtain ⟨_,q⟩:=x a _ r
  exact q
def Mut:Option HO->Prop
 |some (.lst _)=>True
 |some (.dK _)=>True
 |some (.dT _)=>True
 |some (.set _ _)=>True
 |some (.ins _ _ _)=>True
 |some (.ext _)=>True
 |_=>False
section
variable {P:Program}{w:World}{H:Hp}{h h':Heap}{x e:Addr}{o':HO}
theorem HOk.write (ok:HOk P w H h)(mu:Mut (H x))(he:e=x \/ H e=some (.own x))(k:∀b u,b≠e->h.get? b=some u->h'.get? b=some u)(heo:∃u,h'.get? e=some u)
  (new:ObjOk P w (upd H x o') h' x o'):HOk P w (upd H x o') h':=fun b u q=>by
 have nown:∀c y,H c=some (.own y)->c≠x:=fun c y r z=>by subst z;rw [r] at mu;exact mu
 have ntup:∀c xs,H c=some (.tup xs)->c≠x:=fun c xs r z=>by subst z;rw [r] at mu;exact mu
 by_cases hb:b=x
 ·subst hb;rw [zal] at q;cases q;exact new
 ·rw [z4 hb] at q
  by_cases hbe:b=e
  ·have q':H b=some (.own x):=by
    rcases he with z|z
    ·exact absurd (hbe.trans z) hb
    ·rw [hbe];exact z
   rw [q] at q';cases q'
   obtain ⟨v,hv⟩:=heo
   exact ⟨v,by rw [hbe];exact hv⟩
  ·refine (ok b u q).stay (fun c v hc r=>k c v ?_ r) (fun c r=>by rw [z4 (nown c b r)];exact r) fun c xs r=>by rw [z4 (ntup c xs r)];exact r
   rcases hc with rfl|hc
   ·exact hbe
   ·rintro rfl
    rcases he with z|z
    ·exact nown c b hc z
    ·rw [hc] at z;cases z;exact hb rfl
end
structure Un (fs ex:List Addr)(H H':Hp)(h h':Heap):Prop where
 keep:∀b o,h.get? b=some o->H b=none->b∉fs->b∉ex->h'.get? b=some o
 slot:∀b o,h.get? b=some o->H b=none->b∈fs->b∉ex->∃sl,h'.get? b=some { o with slots:=sl }
 free:∀b o,h.get? b=some o->H b=none->b∉ex->H' b=none
 there:∀b o,h.get? b=some o->b∉ex->∃o',h'.get? b=some o'
 tups:∀b xs,H b=some (.tup xs)->H' b=some (.tup xs)
 frzs:∀b o u,H b=some (.frz o u)->H' b=some (.frz o u)
 tbls:∀b ps,H b=some (.tbl ps)->∃more,H' b=some (.tbl (ps++more))
section
variable {fs fs' ex ex':List Addr}{H H1 H2:Hp}{h h1 h2 h':Heap}{a x e:Addr}{o:HO}
theorem Un.any (u:Un fs ex H H1 h h1){b:Addr}{ob:Obj}(q:h.get? b=some ob)(n:H b=none)(hx:b∉ex):∃sl,h1.get? b=some { ob with slots:=sl }:=by
 by_cases hb:b∈fs
 ·exact u.slot b ob q n hb hx
 ·exact ⟨ob.slots,u.keep b ob q n hb hx⟩
theorem Un.kept (k:∀b u,h.get? b=some u->h'.get? b=some u):Un fs ex H H h h' :=
 ⟨fun b ob q _ _ _=>k b ob q,fun b ob q _ _ _=>⟨ob.slots,k b ob q⟩,fun _ _ _ n _=>n,fun b ob q _=>⟨ob,k b ob q⟩,fun _ _ q=>q,fun _ _ _ q=>q,fun _ ps q=>⟨#[],by rw [q];simp⟩⟩
theorem Un.refl:Un fs ex H H h h:=Un.kept fun _ _ q=>q
theorem Un.laid (k:∀b u,h.get? b=some u->h'.get? b=some u)(hp:h.objs.size<=a)(hn:H a=none):Un fs ex H (upd H a o) h h' where
 keep:=fun b u q _ _ _=>k b u q
 slot:=fun b u q _ _ _=>⟨u.slots,k b u q⟩
 free:=fun b u q n _=>by rw [z4 (Nat.ne_of_lt (Nat.lt_of_lt_of_le (Heap.lt_size q) hp))];exact n
 there:=fun b u q _=>⟨u,k b u q⟩
 tups:=fun b xs q=>by rw [z4 (zad q hn)];exact q
 frzs:=fun b u xs q=>by rw [z4 (zad q hn)];exact q
 tbls:=fun b ps q=>⟨#[],by rw [z4 (zad q hn),q];simp⟩
theorem Un.write (mu:Mut (H x))(he:e=x \/ H e=some (.own x))(k:∀b u,b≠e->h.get? b=some u->h'.get? b=some u)(heo:∃u,h'.get? e=some u):Un fs ex H (upd H x o) h h':=by
 have hx:∀b,H b=none->b≠x:=fun b n z=>by subst z;rw [n] at mu;exact mu
 have hb:∀b,H b=none->b≠e:=fun b n z=>by
  subst z
  rcases he with r|r
  ·exact hx b n r
  ·rw [n] at r;cases r
 have hm:∀b u,H b=some u->¬Mut (some u)->b≠x:=fun b u q nm z=>by subst z;rw [q] at mu;exact nm mu
 refine ⟨fun b u q n _ _=>k b u (hb b n) q,fun b u q n _ _=>⟨u.slots,k b u (hb b n) q⟩,fun b u q n _=>by rw [z4 (hx b n)];exact n,fun b u q _=>?_,
  fun b xs q=>by rw [z4 (hm b _ q fun z=>z)];exact q,fun b u xs q=>by rw [z4 (hm b _ q fun z=>z)];exact q,fun b ps q=>⟨#[],by rw [z4 (hm b _ q fun z=>z),q];simp⟩⟩
 by_cases hbe:b=e
 ·subst hbe;exact heo
 ·exact ⟨u,k b u hbe q⟩
end
def trk (h:Heap)(H:Hp):List Addr:=(List.range h.objs.size).filter fun a=>(H a).isSome
def hidT (h:Heap)(H:Hp):Heap:=PySem.W.hideAll h (trk h H)
theorem zkb (h:Heap)(H:Hp):(hidT h H).objs.size=h.objs.size:=PySem.W.hideAll_size _ _
theorem zl2 {h:Heap}{H:Hp}{b:Addr}{o:Obj}(e:h.get? b=some o)(n:H b=none):(hidT h H).get? b=some o :=
 PySem.W.hideAll_get _ e fun hm=>by
  have q:(H b).isSome=true:=(List.mem_filter.mp hm).2
  rw [n] at q;simp at q
theorem znx {h:Heap}{H:Hp}{b:Addr}{o:Obj}(e:(hidT h H).get? b=some o):h.get? b=some o/\H b=none:=by
 have e':h.get? b=some o:=PySem.W.of_hideAll (trk h H) e
 refine ⟨e',?_⟩
 cases q:H b with
 |none=>rfl
 |some x =>
  have hm:b∈trk h H:=List.mem_filter.mpr ⟨List.mem_range.mpr (Heap.lt_size e'),by simp [q]⟩
  have z:(hidT h H).get? b=none:=PySem.W.hideAll_none (trk h H) hm
  rw [z] at e;cases e
structure Mod (K:PySem.W.Frag)(mg:Str->Option Value)(base:Heap):Prop where
 kin:K.In base
 glob:base.Ns mainGlobals mg
 blt:∃mb,base.Ns builtinsNs mb/\∀x:Str,x ≠ "__name__"->mb x=bootBuiltins x
 nolimit:base.NoLimit
structure Cx where
 prog:Program
 w:World
 K:PySem.W.Frag
 mg:Str->Option Value
 base:Heap
 A:Around
 N:List Str
 s₀:Shared
 H₀:Hp
 env:Env
 outer:List Env
 stack:List Env
 ex:List Addr
 fn:Str->Bool
 calm:Bool
 pn:List (Addr×Obj)
 xe:Value->Shared->Prop
def frs (l:List Env):List Addr:=l.filterMap (·.frame)
abbrev Cx.fs (X:Cx):List Addr:=frs X.outer
def Vis (sc:Scope)(x:Str):Prop:=sc.names.lookup x=some .local \/ sc.names.lookup x=some .cell \/ sc.names.lookup x=some .free
def Loc (sc:Scope)(x:Str):Prop:=sc.names.lookup x=some .local \/ sc.names.lookup x=some .cell
def Look (env:Env)(h:Heap)(m:Str->Option Value)(x:Str)(u:Value):Prop :=
 (env.kindOf x=some .local/\m x=some u) \/ ((env.kindOf x=some .cell \/ env.kindOf x=some .free)/\∃c,env.cells.lookup x=some c/\h.IsCell c (some u))
structure Cx.Ok (X:Cx):Prop where
 mod:Mod X.K X.mg X.base
 kind:X.env.scope.kind=.function
 glob:X.env.globals=mainGlobals
 blt:X.env.builtins=builtinsNs
 above:X.s₀.heap.objs.size<=X.env.locals
 inj:∀x y c,X.env.cells.lookup x=some c->X.env.cells.lookup y=some c->x=y
 has:∀x,(X.env.kindOf x=some .cell \/ X.env.kindOf x=some .free)->∃c,X.env.cells.lookup x=some c
 cab:∀x c,X.fn x=true->X.env.cells.lookup x=some c->X.s₀.heap.objs.size<=c
 hd:X.calm=true->X.A.handled=none
 frames:X.A.frames=some X.stack
 stk:X.stack=X.outer \/ (X.stack=X.env::X.outer/\X.env.frame=some X.env.locals)
 exf:∀b∈X.ex,b≠X.env.locals/\∀x c,X.env.cells.lookup x=some c->c≠b
 bs:∀b o,X.base.get? b=some o->X.s₀.heap.get? b=some o/\X.H₀ b=none
 bsz:X.base.objs.size<=X.s₀.heap.objs.size
 noex:∀b o,X.base.get? b=some o->b∉X.ex
 exfs:∀b∈X.ex,b∉X.fs
 funs:X.s₀.heap.FunFrames X.base X.outer
 frf:∀b∈X.fs,X.H₀ b=none
structure Inv (X:Cx)(pins:List (Addr×Obj))(σ:List (Option V))(H:Hp)(s:Shared):Prop where
 ok:X.Ok
 os:s.os=X.s₀.os
 bare:AllBare s.gens
 base:Un X.fs X.ex X.H₀ H X.s₀.heap s.heap
 loc:∃m,s.heap.Ns X.env.locals m/\∀(i:Nat) (x:Str) (v:V),X.N[i]?=some x->σ[i]?=some (some v)->Vis X.env.scope x->∃u,RelV v u/\Look X.env s.heap m x u
 cell:∀x c,X.env.cells.lookup x=some c->∃v,s.heap.IsCell c v
 free:H X.env.locals=none
 freeC:∀x c,X.env.cells.lookup x=some c->H c=none
 pin:∀p∈X.pn++pins,s.heap.get? p.1=some p.2/\H p.1=none/\p.1≠X.env.locals/\p.1∉X.fs/\∀v,p.2.data ≠ .cell v
 hok:HOk X.prog X.w H s.heap
 len:σ.length=X.N.length
section
variable {X:Cx}{pins:List (Addr×Obj)}{σ:List (Option V)}{H H':Hp}{s:Shared}{h':Heap}
theorem Cx.Ok.nofr (ok:X.Ok){b:Addr}{o:Obj}(e:X.base.get? b=some o):b∉X.fs:=fun hb=>by
 have:=(ok.funs.mem hb).1
 rw [e] at this;cases this
theorem Inv.bs (I:Inv X pins σ H s):∀b o,X.base.get? b=some o->s.heap.get? b=some o/\H b=none:=fun b o e =>
 ⟨I.base.keep b o (I.ok.bs b o e).1 (I.ok.bs b o e).2 (I.ok.nofr e) (I.ok.noex b o e),I.base.free b o (I.ok.bs b o e).1 (I.ok.bs b o e).2 (I.ok.noex b o e)⟩
theorem Inv.bk (I:Inv X pins σ H s):∀b o,X.base.get? b=some o->s.heap.get? b=some o:=fun b o e=>(I.bs b o e).1
theorem Inv.mod (I:Inv X pins σ H s):Mod X.K X.mg X.base:=I.ok.mod
theorem Inv.kIn (I:Inv X pins σ H s):X.K.In s.heap:=I.ok.mod.kin.keeps I.bk
theorem Inv.lt (I:Inv X pins σ H s):X.env.locals<s.heap.objs.size:=let ⟨_,hn,_⟩:=I.loc;hn.lt
theorem Inv.sz (I:Inv X pins σ H s):X.s₀.heap.objs.size<=s.heap.objs.size:=Nat.le_trans I.ok.above (Nat.le_of_lt I.lt)
theorem Inv.nofs (I:Inv X pins σ H s){a:Addr}(h:s.heap.objs.size<=a):a∉X.fs:=fun hb=>by
 obtain ⟨_,o,ho,_⟩:=I.ok.funs.mem hb
 exact absurd (Nat.lt_of_lt_of_le (Heap.lt_size ho) (Nat.le_trans I.sz h)) (Nat.lt_irrefl _)
theorem Inv.cne (I:Inv X pins σ H s):∀x c,X.env.cells.lookup x=some c->c≠X.env.locals:=fun x c e z=>by
 obtain ⟨v,o,ho,hd⟩:=I.cell x c e
 obtain ⟨m,⟨o',es,ep,ho',hd',_⟩,_⟩:=I.loc
 rw [z,ho'] at ho;cases ho;rw [hd'] at hd;cases hd
theorem Inv.funs (I:Inv X pins σ H s):s.heap.FunFrames X.base X.outer:=by
 have all:∀(l:List Env),(∀b∈frs l,b∈X.fs)->X.s₀.heap.FunFrames X.base l->s.heap.FunFrames X.base l:=by
  intro l
  induction l with
  |nil=>intro _ _;trivial
  |cons env r ih =>
   intro hs hl
   obtain ⟨hk,⟨L,o,hf,hn,ho,hd⟩,hr⟩:=hl
   have hL:L∈X.fs:=hs L (by unfold frs;rw [List.filterMap_cons,hf];exact List.mem_cons_self)
   obtain ⟨sl,e⟩:=I.base.slot L o ho (I.ok.frf L hL) hL fun z=>I.ok.exfs L z hL
   exact ⟨hk,⟨L,_,hf,hn,e,hd⟩,ih (fun b hb=>hs b (by unfold frs;rw [List.filterMap_cons,hf];exact List.mem_cons_of_mem _ hb)) hr⟩
 exact all X.outer (fun _ hb=>hb) I.ok.funs
theorem Inv.stack (I:Inv X pins σ H s):s.heap.FunFrames X.base X.stack:=by
 rcases I.ok.stk with e|⟨e,hf⟩
 ·rw [e];exact I.funs
 ·rw [e]
  obtain ⟨m,hn,_⟩:=I.loc
  refine .cons (by rw [I.ok.kind];decide) hf hn ?_ I.funs
  exact Heap.get?_none_of_le (Nat.le_trans I.ok.bsz I.ok.above)
theorem Inv.stkSub (I:Inv X pins σ H s):∀b∈frs X.stack,b∈X.env.locals::X.fs:=fun b hb=>by
 rcases I.ok.stk with e|⟨e,hf⟩
 ·rw [e] at hb;exact List.mem_cons_of_mem _ hb
 ·rw [e] at hb
  unfold frs at hb
  rw [List.filterMap_cons,hf] at hb
  exact hb
theorem Inv.stkFree (I:Inv X pins σ H s):∀b∈frs X.stack,H b=none:=fun b hb=>by
 rcases List.mem_cons.mp (I.stkSub b hb) with e|hb
 ·rw [e];exact I.free
 ·obtain ⟨_,o,ho,_⟩:=I.ok.funs.mem hb
  exact I.base.free b o ho (I.ok.frf b hb) fun z=>I.ok.exfs b z hb
theorem Inv.step {g':Array GenState}{t':Nat}{d':Drawn}{ch:List Addr}(I:Inv X pins σ H s)
  (hch:∀b∈ch,(b∈X.ex \/ X.s₀.heap.objs.size<=b)/\b≠X.env.locals/\(∀x c,X.env.cells.lookup x=some c->c≠b)/\∀p∈X.pn++pins,p.1≠b)
  (keep:∀b o,b≠X.env.locals->b∉X.fs->b∉ch->s.heap.get? b=some o->H b=none->h'.get? b=some o)
  (slot:∀b o,b≠X.env.locals->b∈X.fs->b∉ch->s.heap.get? b=some o->H b=none->∃sl,h'.get? b=some { o with slots:=sl }) (free:∀b o,b∉ch->s.heap.get? b=some o->H b=none->H' b=none)
  (there:∀b o,b∉ch->s.heap.get? b=some o->∃o',h'.get? b=some o')
  (tups:∀b xs,H b=some (.tup xs)->H' b=some (.tup xs)) (frzs:∀b o u,H b=some (.frz o u)->H' b=some (.frz o u)) (tbls:∀b ps,H b=some (.tbl ps)->∃more,H' b=some (.tbl (ps++more)))
  (ns:∀m,s.heap.Ns X.env.locals m->h'.Ns X.env.locals m) (hok:HOk X.prog X.w H' h') (hg:AllBare g') :
  Inv X pins σ H' { s with heap:=h',gens:=g',drawn:=d',toks:=t' }:=by
 have neL:∀b o,X.s₀.heap.get? b=some o->b≠X.env.locals:=fun b o e=>Nat.ne_of_lt (Nat.lt_of_lt_of_le (Heap.lt_size e) I.ok.above)
 have neC:∀b o,X.s₀.heap.get? b=some o->b∉X.ex->b∉ch:=fun b o e hx hb=>by
  rcases (hch b hb).1 with z|z
  ·exact hx z
  ·exact absurd (Nat.lt_of_lt_of_le (Heap.lt_size e) z) (Nat.lt_irrefl _)
 have cellK:∀x c,X.env.cells.lookup x=some c->∀v,s.heap.IsCell c v->h'.IsCell c v:=fun x c e v ⟨o,ho,hd⟩=>by
  have nch:c∉ch:=fun z=>(hch c z).2.2.1 x c e rfl
  by_cases hc:c∈X.fs
  ·obtain ⟨sl,q⟩:=slot c o (I.cne x c e) hc nch ho (I.freeC x c e)
   exact ⟨_,q,hd⟩
  ·exact ⟨o,keep c o (I.cne x c e) hc nch ho (I.freeC x c e),hd⟩
 refine ⟨I.ok,I.os,hg,⟨fun b o e n hb hx=>?_,fun b o e n hb hx=>?_,fun b o e n hx=>?_,fun b o e hx=>?_,fun b xs e=>tups b xs (I.base.tups b xs e),fun b o xs e=>frzs b o xs (I.base.frzs b o xs e),fun b ps e=>?_⟩,?_,fun x c e=>?_,?_,fun x c e=>?_,fun p hp=>?_,hok,I.len⟩
 ·exact keep b o (neL b o e) hb (neC b o e hx) (I.base.keep b o e n hb hx) (I.base.free b o e n hx)
 ·obtain ⟨sl,e1⟩:=I.base.slot b o e n hb hx
  obtain ⟨sl',e2⟩:=slot b _ (neL b o e) hb (neC b o e hx) e1 (I.base.free b o e n hx)
  exact ⟨sl',e2⟩
 ·obtain ⟨o',e1⟩:=I.base.there b o e hx
  exact free b o' (neC b o e hx) e1 (I.base.free b o e n hx)
 ·obtain ⟨o',e1⟩:=I.base.there b o e hx
  exact there b o' (neC b o e hx) e1
 ·obtain ⟨m1,e1⟩:=I.base.tbls b ps e
  obtain ⟨m2,e2⟩:=tbls b _ e1
  exact ⟨m1++m2,by rw [e2,Array.append_assoc]⟩
 ·obtain ⟨m,hn,hl⟩:=I.loc
  refine ⟨m,ns m hn,fun i x v e1 e2 e3=>?_⟩
  obtain ⟨u,r,l⟩:=hl i x v e1 e2 e3
  refine ⟨u,r,?_⟩
  rcases l with l|⟨k,c,e,z⟩
  ·exact .inl l
  ·exact .inr ⟨k,c,e,cellK x c e _ z⟩
 ·obtain ⟨v,z⟩:=I.cell x c e
  exact ⟨v,cellK x c e v z⟩
 ·obtain ⟨m,⟨o,_,_,ho,_⟩,_⟩:=I.loc
  exact free _ o (fun z=>(hch _ z).2.1 rfl) ho I.free
 ·obtain ⟨v,o,ho,hd⟩:=I.cell x c e
  exact free c o (fun z=>(hch c z).2.2.1 x c e rfl) ho (I.freeC x c e)
 ·obtain ⟨e,n,ne,nf,d⟩:=I.pin p hp
  have nch:p.1∉ch:=fun z=>(hch p.1 z).2.2.2 p hp rfl
  exact ⟨keep p.1 p.2 ne nf nch e n,free p.1 p.2 nch e n,ne,nf,d⟩
theorem Inv.un {t':Nat}(I:Inv X pins σ H s)(u:Un X.fs [] H H' s.heap h')(hok:HOk X.prog X.w H' h'):Inv X pins σ H' { s with heap:=h',toks:=t' }:=by
 obtain ⟨m,⟨o,es,ep,ho,r⟩,_⟩:=id I.loc
 obtain ⟨sl,hL⟩:=u.any ho I.free (by simp)
 exact I.step (g':=s.gens) (d':=s.drawn) (ch:=[]) (fun _ z=>nomatch z) (fun b o _ hb _ e n=>u.keep b o e n hb (by simp)) (fun b o _ hb _ e n=>u.slot b o e n hb (by simp)) (fun b o _ e n=>u.free b o e n (by simp)) (fun b o _ e=>u.there b o e (by simp)) u.tups u.frzs u.tbls (fun m' hm=>by
  obtain ⟨o',es',ep',ho',r'⟩:=hm
  rw [ho] at ho';cases ho'
  exact ⟨_,es',ep',hL,r'⟩) hok I.bare
theorem Inv.call {g':Array GenState}{t':Nat}{d':Drawn}{ch:List Addr}(I:Inv X pins σ H s)(u:Un (frs X.stack) ch H H' s.heap h')(hok:HOk X.prog X.w H' h')(hg:AllBare g')
  (hch:∀b∈ch,(b∈X.ex \/ X.s₀.heap.objs.size<=b)/\b≠X.env.locals/\(∀x c,X.env.cells.lookup x=some c->c≠b)/\∀p∈X.pn++pins,p.1≠b) :
  Inv X pins σ H' { s with heap:=h',gens:=g',drawn:=d',toks:=t' }:=by
 obtain ⟨m,⟨o,es,ep,ho,r⟩,_⟩:=id I.loc
 obtain ⟨sl,hL⟩:=u.any ho I.free fun z=>(hch _ z).2.1 rfl
 exact I.step (ch:=ch) hch (fun b o hL hb hc e n=>u.keep b o e n (fun z=>(List.mem_cons.mp (I.stkSub b z)).elim hL hb) hc) (fun b o _ _ hc e n=>u.any e n hc) (fun b o hc e n=>u.free b o e n hc) (fun b o hc e=>u.there b o e hc) u.tups u.frzs u.tbls (fun m' hm=>by
  obtain ⟨o',es',ep',ho',r'⟩:=hm
  rw [ho] at ho';cases ho'
  exact ⟨_,es',ep',hL,r'⟩) hok hg
theorem Inv.turned {t':Nat}{it:Addr}(I:Inv X pins σ H s)(k:∀b o,b≠it->s.heap.get? b=some o->h'.get? b=some o)(hn:H it=none)(hL:it≠X.env.locals)
  (h1:it∈X.ex \/ X.s₀.heap.objs.size<=it) (h2:∀x c,X.env.cells.lookup x=some c->c≠it) (h3:∀p∈X.pn++pins,p.1≠it):Inv X pins σ H { s with heap:=h',toks:=t' }:=by
 have nit:∀b u,H b=some u->b≠it:=fun b u e z=>by rw [z,hn] at e;cases e
 refine I.step (g':=s.gens) (d':=s.drawn) (ch:=[it]) (fun b hb=>?_) (fun b o _ _ hc e _=>k b o (fun z=>hc (by simp [z])) e) (fun b o _ _ hc e _=>⟨o.slots,k b o (fun z=>hc (by simp [z])) e⟩) (fun _ _ _ _ n=>n)
  (fun b o hc e=>⟨o,k b o (fun z=>hc (by simp [z])) e⟩) (fun _ _ e=>e) (fun _ _ _ e=>e) (fun b ps e=>⟨#[],by rw [e];simp⟩) (fun m hm=>?_) (fun b u e=>?_) I.bare
 ·have e:b=it:=by simpa using hb
  subst e
  exact ⟨h1,hL,h2,h3⟩
 ·obtain ⟨o,es,ep,ho,r⟩:=hm
  exact ⟨o,es,ep,k _ o (Ne.symm hL) ho,r⟩
 ·refine (I.hok b u e).stay (fun c v hc q=>k c v ?_ q) (fun _ q=>q) fun _ _ q=>q
  rcases hc with z|z
  ·rw [z];exact nit b u e
  ·exact nit c _ z
theorem Inv.tok (I:Inv X pins σ H s)(t:Nat):Inv X pins σ H { s with toks:=t }:=I.un (h':=s.heap) (t':=t) Un.refl I.hok
theorem Inv.kept {t':Nat}(I:Inv X pins σ H s)(k:∀b u,s.heap.get? b=some u->h'.get? b=some u):Inv X pins σ H { s with heap:=h',toks:=t' }:=I.un (Un.kept k) (I.hok.kept k)
theorem Inv.laid {a:Addr}{o:HO}{t':Nat}(I:Inv X pins σ H s)(k:∀b u,s.heap.get? b=some u->h'.get? b=some u)(hp:s.heap.objs.size<=a)(new:ObjOk X.prog X.w (upd H a o) h' a o) :
  Inv X pins σ (upd H a o) { s with heap:=h',toks:=t' }:=I.un (Un.laid k hp (I.hok.fresh hp)) (I.hok.laid k hp new)
theorem Inv.write {x e:Addr}{o:HO}{t':Nat}(I:Inv X pins σ H s)(mu:Mut (H x))(he:e=x \/ H e=some (.own x))(k:∀b u,b≠e->s.heap.get? b=some u->h'.get? b=some u)(heo:∃u,h'.get? e=some u)
  (new:ObjOk X.prog X.w (upd H x o) h' x o):Inv X pins σ (upd H x o) { s with heap:=h',toks:=t' }:=I.un (Un.write mu he k heo) (I.hok.write mu he k heo new)
theorem Inv.pins_of {pins':List (Addr×Obj)}(I:Inv X pins σ H s)(h:∀p∈pins',s.heap.get? p.1=some p.2/\H p.1=none/\p.1≠X.env.locals/\p.1∉X.fs/\∀v,p.2.data ≠ .cell v):Inv X pins' σ H s :=
 ⟨I.ok,I.os,I.bare,I.base,I.loc,I.cell,I.free,I.freeC,fun p hp=>(List.mem_append.mp hp).elim (fun z=>I.pin p (List.mem_append_left _ z)) (h p),I.hok,I.len⟩
theorem zjl {N:List Str}(hN:N.Nodup){i j:Nat}{x:Str}(a:N[i]?=some x)(b:N[j]?=some x):i=j:=by
 obtain ⟨h1,e1⟩:=List.getElem?_eq_some_iff.mp a
 obtain ⟨h2,e2⟩:=List.getElem?_eq_some_iff.mp b
 exact (List.getElem_inj hN).mp (e1.trans e2.symm)
theorem zkO {M:Model}{A:Around}{E:Value->Shared->Prop}{i:Nat}{x:Str}{v:V}{u:Value}{Q:Unit->Shared->Prop}(I:Inv X pins σ H s)(hN:X.N.Nodup)(hi:X.N[i]?=some x)(hx:Loc X.env.scope x)(r:RelV v u)
  (h:∀s',Inv X pins (σ.set i (some v)) H s'->(∃a,Heap.SameBut a s.heap s'.heap/\(a=X.env.locals \/ X.env.cells.lookup x=some a))->Q () s') (hf:X.fn x=true \/ X.env.scope.names.lookup x=some .local:=by first|exact .inl rfl|exact .inr rfl|assumption):wpAny M A (storeName X.env x u) Q E s:=by
 obtain ⟨m,hn,hl⟩:=id I.loc
 have hcls:(X.env.scope.kind == .class || (X.env.scope.kind == .module && X.env.locals != X.env.globals))=false:=by rw [I.ok.kind];rfl
 have hiσ:i<σ.length:=by rw [I.len];exact (List.getElem?_eq_some_iff.mp hi).1
 have cne:=I.cne
 have tracked:∀{a:Addr} {h':Heap},(∃o,s.heap.get? a=some o/\H a=none)->Heap.SameBut a s.heap h'->HOk X.prog X.w H h':=fun {a h'} ha hs b ob e=>by
  obtain ⟨_,_,hfree⟩:=ha
  refine (I.hok b ob e).stay (fun c w' hc q=>(hs.2 c ?_).trans q) (fun _ q=>q) fun _ _ q=>q
  rintro rfl
  rcases hc with rfl|hc
  ·rw [hfree] at e;cases e
  ·rw [hfree] at hc;cases hc
 rcases hx with hk|hk
 ·refine wpAny_storeName_local hk hn (fun h' hn' hs=>?_) hcls
  obtain ⟨oL,_,_,hoL,_⟩:=id hn
  refine h _ ⟨I.ok,I.os,I.bare,⟨fun b o e n hb hx=>?_,fun b o e n hb hx=>?_,I.base.free,fun b o e hx=>?_,I.base.tups,I.base.frzs,I.base.tbls⟩,⟨_,hn',fun j y v' e1 e2 e3=>?_⟩,fun y c e=>?_,I.free,I.freeC,fun p hp=>?_,tracked ⟨oL,hoL,I.free⟩ hs,by simpa using I.len⟩ ⟨_,hs,.inl rfl⟩
  ·exact (hs.2 b (Nat.ne_of_lt (Nat.lt_of_lt_of_le (Heap.lt_size e) I.ok.above))).trans (I.base.keep b o e n hb hx)
  ·obtain ⟨sl,e1⟩:=I.base.slot b o e n hb hx
   exact ⟨sl,(hs.2 b (Nat.ne_of_lt (Nat.lt_of_lt_of_le (Heap.lt_size e) I.ok.above))).trans e1⟩
  ·obtain ⟨o',e1⟩:=I.base.there b o e hx
   exact ⟨o',(hs.2 b (Nat.ne_of_lt (Nat.lt_of_lt_of_le (Heap.lt_size e) I.ok.above))).trans e1⟩
  ·by_cases hj:j=i
   ·subst hj
    rw [hi] at e1;cases e1
    rw [List.getElem?_set_self hiσ] at e2
    cases e2
    exact ⟨u,r,.inl ⟨hk,by simp⟩⟩
   ·rw [List.getElem?_set_ne (Ne.symm hj)] at e2
    obtain ⟨u',r',q⟩:=hl j y v' e1 e2 e3
    refine ⟨u',r',?_⟩
    rcases q with ⟨k,e⟩|⟨k,c,e,z⟩
    ·refine .inl ⟨k,?_⟩
     have:y≠x:=fun e=>hj (zjl hN e1 (e ▸ hi))
     simp [this,e]
    ·exact .inr ⟨k,c,e,z.sameBut hs (cne y c e)⟩
  ·obtain ⟨w',z⟩:=I.cell y c e
   exact ⟨w',z.sameBut hs (cne y c e)⟩
  ·obtain ⟨e,n,ne,nf,d⟩:=I.pin p hp
   exact ⟨(hs.2 p.1 ne).trans e,n,ne,nf,d⟩
 ·have hfn:X.fn x=true:=by
   rcases hf with z|z
   ·exact z
   ·rw [z] at hk;cases hk
  obtain ⟨c,hc⟩:=I.ok.has x (.inl hk)
  obtain ⟨w',z⟩:=I.cell x c hc
  refine wpAny_storeName_cell I.ok.kind hk hc z (fun h' hc' hs=>?_)
  obtain ⟨oc,hoc,hocd⟩:=id z
  refine h { s with heap:=h' } ⟨I.ok,I.os,I.bare,⟨fun b o e n hb hx=>?_,fun b o e n hb hx=>?_,I.base.free,fun b o e hx=>?_,I.base.tups,I.base.frzs,I.base.tbls⟩,⟨m,hn.sameBut hs (Ne.symm (cne x c hc)),fun j y v' e1 e2 e3=>?_⟩,fun y c' e=>?_,I.free,I.freeC,fun p hp=>?_,tracked ⟨oc,hoc,I.freeC x c hc⟩ hs,by simpa using I.len⟩ ⟨c,hs,.inr hc⟩
  ·exact (hs.2 b (Nat.ne_of_lt (Nat.lt_of_lt_of_le (Heap.lt_size e) (I.ok.cab x c hfn hc)))).trans (I.base.keep b o e n hb hx)
  ·obtain ⟨sl,e1⟩:=I.base.slot b o e n hb hx
   exact ⟨sl,(hs.2 b (Nat.ne_of_lt (Nat.lt_of_lt_of_le (Heap.lt_size e) (I.ok.cab x c hfn hc)))).trans e1⟩
  ·obtain ⟨o',e1⟩:=I.base.there b o e hx
   exact ⟨o',(hs.2 b (Nat.ne_of_lt (Nat.lt_of_lt_of_le (Heap.lt_size e) (I.ok.cab x c hfn hc)))).trans e1⟩
  ·by_cases hj:j=i
   ·subst hj
    rw [hi] at e1;cases e1
    rw [List.getElem?_set_self hiσ] at e2
    cases e2
    exact ⟨u,r,.inr ⟨.inl hk,c,hc,hc'⟩⟩
   ·rw [List.getElem?_set_ne (Ne.symm hj)] at e2
    obtain ⟨u',r',q⟩:=hl j y v' e1 e2 e3
    refine ⟨u',r',?_⟩
    rcases q with q|⟨k,c',e,z'⟩
    ·exact .inl q
    ·refine .inr ⟨k,c',e,z'.sameBut hs ?_⟩
     rintro rfl
     exact hj (zjl hN e1 (I.ok.inj _ _ _ e hc ▸ hi))
  ·by_cases hcc:c'=c
   ·subst hcc;exact ⟨_,hc'⟩
   ·obtain ⟨w2,z2⟩:=I.cell y c' e
    exact ⟨w2,z2.sameBut hs hcc⟩
  ·obtain ⟨e,n,ne,nf,d⟩:=I.pin p hp
   refine ⟨(hs.2 p.1 ?_).trans e,n,ne,nf,d⟩
   intro q
   rw [q,hoc] at e
   have q':oc=p.2:=Option.some.inj e
   exact d w' (by rw [<- q'];exact hocd)
theorem zel {M:Model}{A:Around}{E:Value->Shared->Prop}{i:Nat}{x:Str}{v:V}{u:Value}{Q:Unit->Shared->Prop}(I:Inv X pins σ H s)(hN:X.N.Nodup)(hi:X.N[i]?=some x)(hx:Loc X.env.scope x)(r:RelV v u)
  (h:∀s',Inv X pins (σ.set i (some v)) H s'->Q () s') (hf:X.fn x=true \/ X.env.scope.names.lookup x=some .local:=by first|exact .inl rfl|exact .inr rfl|assumption):wpAny M A (storeName X.env x u) Q E s :=
 zkO I hN hi hx r (fun s' I' _=>h s' I') hf
theorem Inv.call' {s':Shared}{ch:List Addr}(I:Inv X pins σ H s)(ho:s'.os=s.os)(u:Un (frs X.stack) ch H H' s.heap s'.heap)(hok:HOk X.prog X.w H' s'.heap)(hg:AllBare s'.gens)
  (hch:∀b∈ch,(b∈X.ex \/ X.s₀.heap.objs.size<=b)/\b≠X.env.locals/\(∀x c,X.env.cells.lookup x=some c->c≠b)/\∀p∈X.pn++pins,p.1≠b):Inv X pins σ H' s':=by
 obtain ⟨h',g',d',t',o'⟩:=s'
 have e:o'=s.os:=ho
 subst e
 exact I.call (g':=g') (t':=t') (d':=d') u hok hg hch
end
abbrev XK:=Value->Option Addr->Hp->Prop
abbrev St:=List (Option V)
abbrev VK:=V->Hp->Prop
abbrev TE:=St->Hp->VK->Prop
abbrev TT:=St->Hp->(Bool->Hp->Prop)->Prop
abbrev TA:=St->Hp->(List V->Hp->Prop)->Prop
structure Ends where
 nx:St->Hp->Prop
 rt:VK
 bk:St->Hp->Prop:=fun _ _=>False
 ct:St->Hp->Prop:=fun _ _=>False
abbrev TS:=Ends->St->Hp->Prop
def EP (X:Cx)(pins:List (Addr×Obj))(σ:St)(Q:VK)(u:Value)(s':Shared):Prop:=∃v H',Inv X pins σ H' s'/\RelV v u/\Q v H'
def TP (X:Cx)(pins:List (Addr×Obj))(σ:St)(Q:Bool->Hp->Prop)(b:Bool)(s':Shared):Prop:=∃H',Inv X pins σ H' s'/\Q b H'
def AP (X:Cx)(pins:List (Addr×Obj))(σ:St)(Q:List V->Hp->Prop)(us:List Value)(s':Shared):Prop:=∃vs H',Inv X pins σ H' s'/\Vals vs us/\Q vs H'
def SP (X:Cx)(pins:List (Addr×Obj))(D:Ends)(f:Flow)(s':Shared):Prop :=
 match f with
 | .next=>∃σ' H',Inv X pins σ' H' s'/\D.nx σ' H'
 | .brk=>∃σ' H',Inv X pins σ' H' s'/\D.bk σ' H'
 | .cont=>∃σ' H',Inv X pins σ' H' s'/\D.ct σ' H'
 | .ret u=>∃v σ' H',Inv X pins σ' H' s'/\RelV v u/\D.rt v H'
def PE (X:Cx)(e:Expr)(t:TE):Prop :=
 ∀(pins:List (Addr×Obj)) (s:Shared) (σ:St) (H:Hp) (Q:VK),Inv X pins σ H s->t σ H Q->wpAny (model X.prog X.w) X.A (eval e X.env) (EP X pins σ Q) X.xe s
def PT (X:Cx)(e:Expr)(t:TT):Prop :=
 ∀(pins:List (Addr×Obj)) (s:Shared) (σ:St) (H:Hp) (Q:Bool->Hp->Prop),Inv X pins σ H s->t σ H Q->wpAny (model X.prog X.w) X.A (isTrue e X.env (eval e X.env)) (TP X pins σ Q) X.xe s
def PW (X:Cx)(e:Expr)(t:TT):Prop :=
 ∀(whole:Sem Value) (pins:List (Addr×Obj)) (s:Shared) (σ:St) (H:Hp) (Q:Bool->Hp->Prop),Inv X pins σ H s->t σ H Q->wpAny (model X.prog X.w) X.A (isTrue e X.env whole) (TP X pins σ Q) X.xe s
theorem PW.pt {X:Cx}{e:Expr}{t:TT}(h:PW X e t):PT X e t:=h _
def PA (X:Cx)(es:List Expr)(t:TA):Prop :=
 ∀(pos:Pos) (pins:List (Addr×Obj)) (s:Shared) (σ:St) (H:Hp) (Q:List V->Hp->Prop),Inv X pins σ H s->t σ H Q->wpAny (model X.prog X.w) X.A (spliced (backTo pos (starEach es X.env))) (AP X pins σ Q) X.xe s
def PS (X:Cx)(st:Stmt)(t:TS):Prop :=
 ∀(pins:List (Addr×Obj)) (s:Shared) (σ:St) (H:Hp) (D:Ends),Inv X pins σ H s->t D σ H->wpAny (model X.prog X.w) X.A (exec st X.env) (SP X pins D) X.xe s
def PSs (X:Cx)(st:List Stmt)(t:TS):Prop :=
 ∀(pins:List (Addr×Obj)) (s:Shared) (σ:St) (H:Hp) (D:Ends),Inv X pins σ H s->t D σ H->wpAny (model X.prog X.w) X.A (execs st X.env) (SP X pins D) X.xe s
theorem thn {α:Type}{t:Sem α}{Q Q':α->Shared->Prop}{M:Model}{A:Around}{E:Value->Shared->Prop}{s:Shared}(h:wpAny M A t Q E s)(hQ:∀a s,Q a s->Q' a s):wpAny M A t Q' E s:=wpAny_mono h hQ fun _ _ x=>x
section
variable {X:Cx}
theorem bin {a b:Expr}{ta tb:TE}(ha:PE X a ta)(hb:PE X b tb){pins:List (Addr×Obj)}{s:Shared}{σ:St}{H:Hp}{R:V->V->Hp->Prop}(I:Inv X pins σ H s)(h:ta σ H fun x H1=>tb σ H1 fun y H2=>R x y H2)
  {α:Type} {Q:α->Shared->Prop} {f:Value->Value->Sem α}
  (hf:∀v u s2 x y H2,Inv X pins σ H2 s2->RelV x v->RelV y u->R x y H2->wpAny (model X.prog X.w) X.A (f v u) Q X.xe s2) :
  wpAny (model X.prog X.w) X.A (eval a X.env) (fun v s₁=>wpAny (model X.prog X.w) X.A (eval b X.env) (fun u s₂=>wpAny (model X.prog X.w) X.A (f v u) Q X.xe s₂) X.xe s₁) X.xe s:=by
 refine thn (ha pins s σ H _ I h) fun v s1 ⟨x,H1,I1,r1,q1⟩=>?_
 refine thn (hb pins s1 σ H1 _ I1 q1) fun u s2 ⟨y,H2,I2,r2,q2⟩=>?_
 exact hf v u s2 x y H2 I2 r1 r2 q2
def tVar (i:Nat):TE:=fun σ H Q=>∃v,σ[i]?=some (some v)/\Q v H
def tC (v:V):TE:=fun _ H Q=>Q v H
theorem zoI {i:Nat}{x:Str}{pos:Pos}(hN:X.N[i]?=some x)(hv:Vis X.env.scope x)(hd:(x == ("__debug__":Str))=false:=by decide)(hcd:(x == ("__classdict__":Str))=false:=by decide):PE X (.Name x pos) (tVar i):=by
 intro pins s σ H Q I h
 obtain ⟨v,e,h⟩:=h
 obtain ⟨m,hn,hl⟩:=I.loc
 obtain ⟨u,r,l⟩:=hl i x v hN e hv
 have fin:EP X pins σ Q u s:=⟨v,H,I,r,h⟩
 rcases l with ⟨hk,hm⟩|⟨hk,c,hc,hcell⟩
 ·exact wpAny_Name (wpAny_loadName_local I.ok.kind hk hn hm fin) hd
 ·rcases hk with hk|hk
  ·exact wpAny_Name (wpAny_loadName_cell I.ok.kind hk hc hcell fin) hd
  ·exact wpAny_Name (wpAny_loadName_free I.ok.kind hk hc hcell fin hcd) hd
theorem pe_int {i j pos}:PE X (.Constant (.int i) j pos) (tC (.int i)):=fun _ _ _ H _ I h=>wpAny_Constant_int ⟨.int i,H,I.tok _,⟨_,rfl⟩,h⟩
theorem pe_bl {b j pos}:PE X (.Constant (.bool b) j pos) (tC (.bl b)):=fun _ _ _ H _ I h=>Constant_bool ⟨.bl b,H,I,rfl,h⟩
theorem pe_non {j pos}:PE X (.Constant .none j pos) (tC .non):=fun _ _ _ H _ I h=>Constant_none ⟨.non,H,I,rfl,h⟩
theorem pe_str {x j pos}:PE X (.Constant (.str x) j pos) (tC (.str x)):=fun _ _ _ H _ I h=>Calls.Constant_str ⟨.str x,H,I.tok _,⟨_,rfl⟩,h⟩
def Gl (X:Cx)(x:Str):Prop:=X.env.kindOf x=some .globalImplicit
theorem zkf {E:Value->Shared->Prop}{pins:List (Addr×Obj)}{s:Shared}{σ:St}{H:Hp}{x:Str}{u:Value}{pos:Pos}{Q:Value->Shared->Prop}(I:Inv X pins σ H s)(hg:Gl X x)(hm:X.mg x=some u)(h:Q u s)
  (hd:(x == ("__debug__":Str))=false:=by decide):wpAny (model X.prog X.w) X.A (eval (.Name x pos) X.env) Q E s :=
 Calls.Name_function_global I.ok.kind hg (Calls.loadGlobal_global (by rw [I.ok.glob];exact I.mod.glob.keeps I.bk) hm h) hd
theorem zg9 {E:Value->Shared->Prop}{pins:List (Addr×Obj)}{s:Shared}{σ:St}{H:Hp}{x:Str}{u:Value}{pos:Pos}{Q:Value->Shared->Prop}(I:Inv X pins σ H s)(hg:Gl X x)(hm:X.mg x=none)(hv:bootBuiltins x=some u)(h:Q u s)
  (hn:x ≠ "__name__":=by decide) (hd:(x == ("__debug__":Str))=false:=by decide):wpAny (model X.prog X.w) X.A (eval (.Name x pos) X.env) Q E s:=by
 obtain ⟨mb,h1,h2⟩:=I.mod.blt
 exact Calls.Name_function_global I.ok.kind hg (Calls.loadGlobal_builtin (by rw [I.ok.glob];exact I.mod.glob.keeps I.bk) hm (by rw [I.ok.blt];exact h1.keeps I.bk) ((h2 x hn).trans hv) h) hd
theorem ziv {x:Str}{v:V}{u:Value}{pos:Pos}(hg:Gl X x)(hm:X.mg x=some u)(r:RelV v u)(hd:(x == ("__debug__":Str))=false:=by decide):PE X (.Name x pos) (tC v) :=
 fun _ _ _ H _ I h=>zkf I hg hm ⟨v,H,I,r,h⟩ hd
theorem znk {x:Str}{v:V}{u:Value}{pos:Pos}(hg:Gl X x)(hm:X.mg x=none)(hv:bootBuiltins x=some u)(r:RelV v u)(hn:x ≠ "__name__":=by decide)(hd:(x == ("__debug__":Str))=false:=by decide):PE X (.Name x pos) (tC v) :=
 fun _ _ _ H _ I h=>zg9 I hg hm hv ⟨v,H,I,r,h⟩ hn hd
variable {a b:Expr}{ta tb:TE}{pos:Pos}
variable {tA tB':TT}{rest:List Expr}
def tAnd (t u:TT):TT:=fun σ H Q=>t σ H fun c H1=>if c=true then u σ H1 Q else Q false H1
def tOr (t u:TT):TT:=fun σ H Q=>t σ H fun c H1=>if c=true then Q true H1 else u σ H1 Q
def tNot (t:TT):TT:=fun σ H Q=>t σ H fun c H1=>Q (!c) H1
theorem zmF (ha:PT X a tA):PW X (.BoolOp .And [a] pos) tA:=by
 intro wh pins s σ H Q I h
 refine isTrue_and (thn (ha pins s σ H Q I h) fun c s1 e=>?_)
 cases c with
 |true=>exact isTrue_and_nil e
 |false=>exact e
theorem zn1 (ha:PT X a tA):PW X (.BoolOp .Or [a] pos) tA:=by
 intro wh pins s σ H Q I h
 refine isTrue_or (thn (ha pins s σ H Q I h) fun c s1 e=>?_)
 cases c with
 |false=>exact isTrue_or_nil e
 |true=>exact e
theorem zou (ha:PT X a tA)(hb:PW X (.BoolOp .And (b::rest) pos) tB'):PW X (.BoolOp .And (a::b::rest) pos) (tAnd tA tB'):=by
 intro wh pins s σ H Q I h
 refine isTrue_and (thn (ha pins s σ H _ I h) fun c s1 ⟨H1,I1,q1⟩=>?_)
 cases c with
 |true=>exact hb wh pins s1 σ H1 Q I1 q1
 |false=>exact ⟨H1,I1,q1⟩
theorem zoZ (ha:PT X a tA)(hb:PW X (.BoolOp .Or (b::rest) pos) tB'):PW X (.BoolOp .Or (a::b::rest) pos) (tOr tA tB'):=by
 intro wh pins s σ H Q I h
 refine isTrue_or (thn (ha pins s σ H _ I h) fun c s1 ⟨H1,I1,q1⟩=>?_)
 cases c with
 |true=>exact ⟨H1,I1,q1⟩
 |false=>exact hb wh pins s1 σ H1 Q I1 q1
theorem zob (ha:PT X a tA):PT X (.UnaryOp .Not a pos) (tNot tA):=by
 intro pins s σ H Q I h
 exact isTrue_not (ha pins s σ H (fun c H1=>Q (!c) H1) I h)
def tAndV (ta tb:TE):TE:=fun σ H Q=>ta σ H fun x H1=>∃c,x=.bl c/\if c=true then tb σ H1 Q else Q (.bl false) H1
def tOrV (ta tb:TE):TE:=fun σ H Q=>ta σ H fun x H1=>∃c,x=.bl c/\if c=true then Q (.bl true) H1 else tb σ H1 Q
def tNotV (ta:TE):TE:=fun σ H Q=>ta σ H fun x H1=>∃c,x=.bl c/\Q (.bl (!c)) H1
theorem zn9 {op}{t:TE}(h:PE X a t):PE X (.BoolOp op [a] pos) t:=fun pins s σ H Q I hw=>BoolOp_one (h pins s σ H Q I hw)
theorem zn8 (ha:PE X a ta)(hb:PE X (.BoolOp .And (b::rest) pos) tb):PE X (.BoolOp .And (a::b::rest) pos) (tAndV ta tb):=by
 intro pins s σ H Q I h
 refine BoolOp_and (thn (ha pins s σ H _ I h) fun v s1 ⟨x,H1,I1,r1,q1⟩=>?_)
 obtain ⟨c,rfl,q1⟩:=q1
 cases r1
 refine wpAny_truthy_bool ?_
 cases c with
 |true=>exact hb pins s1 σ H1 Q I1 q1
 |false=>exact ⟨.bl false,H1,I1,rfl,q1⟩
theorem zo5 (ha:PE X a ta)(hb:PE X (.BoolOp .Or (b::rest) pos) tb):PE X (.BoolOp .Or (a::b::rest) pos) (tOrV ta tb):=by
 intro pins s σ H Q I h
 refine BoolOp_or (thn (ha pins s σ H _ I h) fun v s1 ⟨x,H1,I1,r1,q1⟩=>?_)
 obtain ⟨c,rfl,q1⟩:=q1
 cases r1
 refine wpAny_truthy_bool ?_
 cases c with
 |false=>exact hb pins s1 σ H1 Q I1 q1
 |true=>exact ⟨.bl true,H1,I1,rfl,q1⟩
theorem zol (ha:PE X a ta):PE X (.UnaryOp .Not a pos) (tNotV ta):=by
 intro pins s σ H Q I h
 refine UnaryOp_ (thn (ha pins s σ H _ I h) fun v s1 ⟨x,H1,I1,r1,q1⟩=>?_)
 obtain ⟨c,rfl,q1⟩:=q1
 cases r1
 exact not_of (wpAny_truthy_bool ⟨.bl (!c),H1,I1,rfl,q1⟩)
def tIf (t:TT)(ta tb:TE):TE:=fun σ H Q=>t σ H fun c H1=>if c=true then ta σ H1 Q else tb σ H1 Q
theorem zln {c:Expr}(hc:PT X c tA)(ha:PE X a ta)(hb:PE X b tb):PE X (.IfExp c a b pos) (tIf tA ta tb):=by
 intro pins s σ H Q I h
 refine wpAny_IfExp (thn (hc pins s σ H _ I h) fun d s1 ⟨H1,I1,q1⟩=>?_)
 cases d with
 |true=>exact ha pins s1 σ H1 Q I1 q1
 |false=>exact hb pins s1 σ H1 Q I1 q1
end
def SqL (K:PySem.W.Frag)(H:Hp)(a:Addr)(xs:List V):Prop :=
 Rd H a (.lst xs) \/
  ∃(o:Obj) (its:Array Value) (n:Nat),K.lookup a=some o/\o.cls=.type "list"/\o.dict=none/\o.data=.seq its n/\its.size<=sizeLine/\Vals xs its.toList
def SqT (K:PySem.W.Frag)(H:Hp)(a:Addr)(xs:List V):Prop :=
 Rd H a (.tup xs) \/
  ∃(o:Obj) (its:Array Value) (n:Nat),K.lookup a=some o/\o.cls=.type "tuple"/\o.data=.seq its n/\its.size<=sizeLine/\Vals xs its.toList
def absV:Value->Option V
 | .none=>some .non
 | .bool b=>some (.bl b)
 | .int i _=>some (.int i)
 | .str x _=>some (.str x)
 | .bytes b _=>some (.byt b)
 | .float b _=>some (.flt b)
 | .ref a=>some (.ref a)
 | .type n=>some (.ty n)
 |_=>none
theorem RelV.abs {x:V}{u:Value}(r:RelV x u):absV u=some x:=by
 cases x with
 |non=>cases r;rfl
 |bl _=>cases r;rfl
 |int _=>obtain ⟨t,rfl⟩:=r;rfl
 |str _=>obtain ⟨t,rfl⟩:=r;rfl
 |byt _=>obtain ⟨t,rfl⟩:=r;rfl
 |flt _=>obtain ⟨t,rfl⟩:=r;rfl
 |ref _=>cases r;rfl
 |ty _=>cases r;rfl
theorem RelV.inj {x y:V}{u:Value}(r:RelV x u)(q:RelV y u):x=y:=Option.some.inj (r.abs.symm.trans q.abs)
theorem Vals.inj:∀{xs ys:List V} {us:List Value},Vals xs us->Vals ys us->xs=ys
 |_,_,_,.nil,.nil=>rfl
 |_,_,_,.cons r t,.cons r' t'=>by rw [r.inj r',Vals.inj t t']
section
variable {X:Cx}{pins:List (Addr×Obj)}{σ:St}{H:Hp}{s:Shared}{a:Addr}{xs ys:List V}
theorem SqL.of {K:PySem.W.Frag}(h:H a=some (.lst xs)):SqL K H a xs:=.inl (.inl h)
theorem Inv.list (I:Inv X pins σ H s)(h:SqL X.K H a xs):∃its:List Value,Vals xs its/\PlainL s.heap a its.toArray/\xs.length<=sizeLine:=by
 rcases h with h|⟨o,its,n,hk,hc,hd,hs,hz,r⟩
 ·obtain ⟨z,its,n,r,e⟩:=h.ok I.hok
  exact ⟨its,r,⟨_,n,e,rfl,rfl,rfl⟩,z⟩
 ·refine ⟨its.toList,r,⟨o,n,I.kIn a o hk,hc,hd,by simpa using hs⟩,?_⟩
  have e:=r.length
  simp only [Array.length_toList] at e
  omega
theorem Inv.tuple (I:Inv X pins σ H s)(h:SqT X.K H a xs):∃its:List Value,Vals xs its/\IsTup s.heap a its.toArray/\xs.length<=sizeLine:=by
 rcases h with h|⟨o,its,n,hk,hc,hs,hz,r⟩
 ·obtain ⟨z,its,r,p⟩:=h.ok I.hok
  exact ⟨its,r,p,z⟩
 ·refine ⟨its.toList,r,⟨o,I.kIn a o hk,hc,n,by simpa using hs⟩,?_⟩
  have e:=r.length
  simp only [Array.length_toList] at e
  omega
theorem Inv.list_inj (I:Inv X pins σ H s)(h:SqL X.K H a xs)(h':SqL X.K H a ys):xs=ys:=by
 obtain ⟨its,r,⟨o,n,e,_,_,d⟩,_⟩:=I.list h
 obtain ⟨its',r',⟨o',n',e',_,_,d'⟩,_⟩:=I.list h'
 rw [e] at e';cases e'
 rw [d] at d'
 injection d' with d1 _
 have:its=its':=by simpa using congrArg Array.toList d1
 subst this
 exact r.inj r'
theorem Inv.tuple_inj (I:Inv X pins σ H s)(h:SqT X.K H a xs)(h':SqT X.K H a ys):xs=ys:=by
 obtain ⟨its,r,⟨o,e,_,n,d⟩,_⟩:=I.tuple h
 obtain ⟨its',r',⟨o',e',_,n',d'⟩,_⟩:=I.tuple h'
 rw [e] at e';cases e'
 rw [d] at d'
 injection d' with d1 _
 have:its=its':=by simpa using congrArg Array.toList d1
 subst this
 exact r.inj r'
end
section
variable {X:Cx}{pins:List (Addr×Obj)}{σ:St}{H:Hp}{s:Shared}{E:Value->Shared->Prop}
end
section
variable {X:Cx}{st:Stmt}{rest:List Stmt}{t u:TS}{e:Expr}{te:TE}{pos:Pos}
def tNext:TS:=fun D σ H=>D.nx σ H
def tSeq (t u:TS):TS:=fun D σ H=>t { D with nx:=u D } σ H
theorem pss_nil:PSs X [] tNext:=fun _ _ σ H _ I h=>wpAny_execs_nil ⟨σ,H,I,h⟩
theorem zlS (h1:PS X st t)(h2:PSs X rest u):PSs X (st::rest) (tSeq t u):=by
 intro pins s σ H D I h
 refine wpAny_execs_cons (thn (h1 pins s σ H { D with nx:=u D } I h) fun f s1 q=>?_)
 cases f with
 |next =>
  obtain ⟨σ',H',I',q⟩:=q
  exact h2 pins s1 σ' H' D I' q
 |ret v=>exact q
 |brk=>exact q
 |cont=>exact q
theorem Inv.quiet {pins:List (Addr×Obj)}{σ:St}{H:Hp}{s:Shared}(I:Inv X pins σ H s):interactive X.env=false:=by simp [interactive,I.ok.kind]
def tDrop (te:TE):TS:=fun D σ H=>te σ H fun _ H1=>D.nx σ H1
theorem zmW (he:PE X e te)(hs:swapsWith e none pos.line X.env=pure false:=by rfl):PS X (.Expr e pos) (tDrop te):=by
 intro pins s σ H D I h
 exact wpAny_Expr_any (thn (he pins s σ H _ I h) fun v s1 ⟨x,H1,I1,r1,q1⟩=>⟨σ,H1,I1,q1⟩) I.quiet hs
def tRet (te:TE):TS:=fun D σ H=>te σ H D.rt
theorem zoh (he:PE X e te):PS X (.Return (some e) pos) (tRet te):=by
 intro pins s σ H D I h
 exact wpAny_Return_some (thn (he pins s σ H _ I h) fun v s1 ⟨x,H1,I1,r1,q1⟩=>⟨x,σ,H1,I1,r1,q1⟩)
def tIfS (c:TT)(t u:TS):TS:=fun D σ H=>c σ H fun b H1=>if b=true then t D σ H1 else u D σ H1
theorem zoU {c:Expr}{a b:List Stmt}{tc:TT}(hc:PT X c tc)(ha:PSs X a t)(hb:PSs X b u):PS X (.If c a b pos) (tIfS tc t u):=by
 intro pins s σ H D I h
 refine wpAny_If (thn (hc pins s σ H _ I h) fun d s1 ⟨H1,I1,q1⟩=>?_)
 cases d with
 |true=>exact ha pins s1 σ H1 D I1 q1
 |false=>exact hb pins s1 σ H1 D I1 q1
end
abbrev TG:=V->St->Hp->(St->Hp->Prop)->Prop
abbrev TGs:=List V->St->Hp->(St->Hp->Prop)->Prop
def PG (X:Cx)(target:Expr)(t:TG):Prop :=
 ∀(pins:List (Addr×Obj)) (s:Shared) (σ:St) (H:Hp) (v:V) (u:Value) (Q:St->Hp->Prop),Inv X pins σ H s->RelV v u->t v σ H Q ->
  wpAny (model X.prog X.w) X.A (assign target X.env u) (fun _ s'=>∃σ' H',Inv X pins σ' H' s'/\Q σ' H') X.xe s
def PGs (X:Cx)(ts:List Expr)(t:TGs):Prop :=
 ∀(pins:List (Addr×Obj)) (s:Shared) (σ:St) (H:Hp) (vs:List V) (us:List Value) (Q:St->Hp->Prop),Inv X pins σ H s->Vals vs us->t vs σ H Q ->
  wpAny (model X.prog X.w) X.A (assignInOrder ((assignEach ts X.env).map (·.2)) us) (fun _ s'=>∃σ' H',Inv X pins σ' H' s'/\Q σ' H') X.xe s
abbrev TSet:=V->V->V->Hp->(Hp->Prop)->Prop
def PSet (X:Cx)(t:TSet):Prop :=
 ∀(pins:List (Addr×Obj)) (s:Shared) (σ:St) (H:Hp) (o i v:V) (ov iv u:Value) (Q:Hp->Prop),Inv X pins σ H s->RelV o ov->RelV i iv->RelV v u->t o i v H Q ->
  wpAny (model X.prog X.w) X.A (setItem ov iv u) (fun _ s'=>∃H',Inv X pins σ H' s'/\Q H') X.xe s
abbrev TIp:=V->V->Hp->VK->Prop
def PIp (X:Cx)(op:Operator)(t:TIp):Prop :=
 ∀(pins:List (Addr×Obj)) (s:Shared) (σ:St) (H:Hp) (x y:V) (v u:Value) (Q:VK),Inv X pins σ H s->RelV x v->RelV y u->t x y H Q ->
  wpAny (model X.prog X.w) X.A (inplaceOp op v u) (EP X pins σ Q) X.xe s
section
variable {X:Cx}{pos:Pos}
def gName (i:Nat):TG:=fun v σ H Q=>Q (σ.set i (some v)) H
theorem zjR {i:Nat}{x:Str}(hN:X.N.Nodup)(hi:X.N[i]?=some x)(hx:Loc X.env.scope x)(hf:X.fn x=true \/ X.env.scope.names.lookup x=some .local:=by first|exact .inl rfl|exact .inr rfl|assumption):PG X (.Name x pos) (gName i):=by
 intro pins s σ H v u Q I r h
 exact wpAny_assign_Name (zel I hN hi hx r (fun s' I'=>⟨_,H,I',h⟩) hf)
def gNil:TGs:=fun vs σ H Q=>vs=[]/\Q σ H
def gCons (t:TG)(u:TGs):TGs:=fun vs σ H Q=>∃v r,vs=v::r/\t v σ H fun σ' H'=>u r σ' H' Q
theorem pgs_nil:PGs X [] gNil:=by
 intro pins s σ H vs us Q I r h
 obtain ⟨e,h⟩:=h
 subst e
 cases r
 exact assignInOrder_nil ⟨σ,H,I,h⟩
theorem zhr {e:Expr}{es:List Expr}{t:TG}{u:TGs}(h1:PG X e t)(h2:PGs X es u)
  (hs:(assignEach (e::es) X.env).map (·.2)=assign e X.env::(assignEach es X.env).map (·.2):=by rfl):PGs X (e::es) (gCons t u):=by
 intro pins s σ H vs us Q I r h
 obtain ⟨v,vr,e1,h⟩:=h
 subst e1
 cases r with
 |cons r rr =>
  rw [hs]
  refine assignInOrder_cons (thn (h1 pins s σ H _ _ _ I r h) fun _ s1 ⟨σ1,H1,I1,q1⟩=>?_)
  exact h2 pins s1 σ1 H1 _ _ Q I1 rr q1
def gTup (K:PySem.W.Frag)(n:Nat)(t:TGs):TG:=fun v σ H Q=>∃a xs,v=.ref a/\SqT K H a xs/\xs.length=n/\t xs σ H Q
theorem zmy {es:List Expr}{k:Nat}{t:TGs}{n:Nat}(hc:X.calm=true)(h:PGs X es t)
  (hn:(assignEach es X.env).length=n:=by rfl) (hst:(assignEach es X.env).findIdx? (·.1)=none:=by rfl):PG X (.Tuple es k pos) (gTup X.K n t):=by
 intro pins s σ H v u Q I r hw
 obtain ⟨a,xs,e1,hq,hl,hw⟩:=hw
 subst e1
 cases r
 obtain ⟨its,rv,ht,hz⟩:=I.tuple hq
 refine assign_Tuple_tuple (I.ok.hd hc) ht (by simp [hn,<- hl,rv.length]) hst fun h' hx=>?_
 have I1:Inv X pins σ H { s with heap:=h' }:=I.kept (t':=s.toks) fun b o e=>hx b o (Nat.ne_of_lt (Heap.lt_size e)) e
 exact h pins _ σ H xs _ Q I1 (by simpa using rv) hw
def gSub (to ti:TE)(t:TSet):TG:=fun v σ H Q=>to σ H fun o H1=>ti σ H1 fun i H2=>t o i v H2 fun H3=>Q σ H3
theorem zmh {o i:Expr}{to ti:TE}{t:TSet}(ho:PE X o to)(hi:PE X i ti)(hs:PSet X t)
  (ha:∀v,assign (.Subscript o i pos) X.env v=(do
   let ov <- holding [v] (eval o X.env)
   let iv <- holding [v,ov] (eval i X.env)
   standAt pos
   holding [v,ov,iv] (setItem ov iv v)
   release [v,ov,iv] []):=by intro _;rfl):PG X (.Subscript o i pos) (gSub to ti t):=by
 intro pins s σ H v u Q I r h
 rw [ha]
 refine wpAny_bind (wpAny_holding (thn (ho pins s σ H _ I h) fun ov s1 ⟨x,H1,I1,r1,q1⟩=>?_))
 refine wpAny_bind (wpAny_holding (thn (hi pins s1 σ H1 _ I1 q1) fun iv s2 ⟨y,H2,I2,r2,q2⟩=>?_))
 refine wpAny_bind (wpAny_standAt (wpAny_bind (wpAny_holding (thn (hs pins s2 σ H2 x y v ov iv u _ I2 r1 r2 r q2) fun _ s3 ⟨H3,I3,q3⟩=>?_))))
 exact wpAny_release ⟨σ,H3,I3,q3⟩
def tAsg (te:TE)(g:TG):TS:=fun D σ H=>te σ H fun x H1=>g x σ H1 D.nx
theorem zjZ {tg e:Expr}{te:TE}{g:TG}(he:PE X e te)(hg:PG X tg g)(hs:swapsWithSole [tg] e pos.line X.env=pure false:=by rfl)(hw:swappedStores [tg] e X.env=pure none:=by rfl)
  (h1:(assignEach [tg] X.env).map (·.2)=[assign tg X.env]:=by rfl):PS X (.Assign [tg] e pos) (tAsg te g):=by
 intro pins s σ H D I h
 refine wpAny_Assign_stores (thn (he pins s σ H _ I h) fun v s1 ⟨x,H1,I1,r1,q1⟩=>?_) hs hw
 rw [h1]
 exact thn (hg pins s1 σ H1 x v _ I1 r1 q1) fun _ s2 q=>q
theorem zof {i:Nat}{x:Str}{e:Expr}{te:TE}{pos':Pos}(hN:X.N.Nodup)(hi:X.N[i]?=some x)(hx:Loc X.env.scope x)(he:PE X e te)(hs:swapsWith e (some (.Name x pos')) pos.line X.env=pure false:=by rfl)(hf:X.fn x=true \/ X.env.scope.names.lookup x=some .local:=by first|exact .inl rfl|exact .inr rfl|assumption) :
  PS X (.Assign [.Name x pos'] e pos) (tAsg te (gName i)):=by
 intro pins s σ H D I h
 refine wpAny_Assign_Name (thn (he pins s σ H _ I h) fun v s1 ⟨y,H1,I1,r1,q1⟩=>?_) hs
 exact zel I1 hN hi hx r1 (fun s2 I2=>⟨_,H1,I2,q1⟩) hf
def tPar (i j:Nat)(ta:TA):TS:=fun D σ H=>ta σ H fun vs H1=>∃v w,vs=[v,w]/\D.nx ((σ.set i (some v)).set j (some w)) H1
theorem zoy {i j:Nat}{x y:Str}{a b:Expr}{ta:TA}{px py pt:Pos}{kt k2 pt2}(hc:X.calm=true)(hN:X.N.Nodup)(hi:X.N[i]?=some x)(hj:X.N[j]?=some y)(hij:i≠j)
  (hx:X.env.scope.names.lookup x=some .local) (hy:X.env.scope.names.lookup y=some .local) (ha:PA X [a,b] ta)
  (hw:swappedStores [.Tuple [.Name x px,.Name y py] kt pt] (.Tuple [a,b] k2 pt2) X.env=pure (some [x,y]))
  (hs:swapsWithSole [.Tuple [.Name x px,.Name y py] kt pt] (.Tuple [a,b] k2 pt2) pos.line X.env=pure false:=by rfl) :
  PS X (.Assign [.Tuple [.Name x px,.Name y py] kt pt] (.Tuple [a,b] k2 pt2) pos) (tPar i j ta):=by
 intro pins s σ H D I h
 rw [exec_Assign_arm]
 refine wpAny_bind (wpAny_standAt ?_)
 rw [hs]
 refine wpAny_bind (wpAny_pure ?_)
 rw [if_neg (by decide)]
 refine wpAny_bind (Tuple_ (thn (ha _ pins s σ H _ I h) fun us s1 ⟨vs,H1,I1,r1,q1⟩=>?_))
 obtain ⟨v,w,e1,q1⟩:=q1
 subst e1
 obtain ⟨u1,u2,rfl,rv,rw'⟩:∃u1 u2,us=[u1,u2]/\RelV v u1/\RelV w u2:=by
  cases r1 with
  |cons p q =>
   cases q with
   |cons p' q' =>
    cases q'
    exact ⟨_,_,rfl,p,p'⟩
 refine wpAny_newObj_type ?_ (by show 2<=sizeLine;decide)
 have I2:Inv X pins σ H1 { s1 with heap:=s1.heap.push { cls:=.type "tuple",data:=.seq [u1,u2].toArray } }:=I1.kept (t':=s1.toks) fun b o e=>Heap.get?_push_of_some _ e
 rw [hw]
 refine wpAny_bind (wpAny_pure ?_)
 show wpAny (model X.prog X.w) X.A (do rule "assign.swapped-stores";let items <- unpackItems (.ref s1.heap.objs.size) 2 none;assignInOrder [fun v=>bindName X.env y v,fun v=>bindName X.env x v] items.reverse;pure Flow.next) _ _ _
 refine wpAny_bind (wpAny_rule (wpAny_bind (unpackItems_tuple (items:=#[u1,u2]) (I.ok.hd hc) (IsTup.new s1.heap _) fun h' hx'=>?_)))
 have I3:=I2.kept (h':=h') (t':=s1.toks) fun b o e=>hx' b o (Nat.ne_of_lt (Heap.lt_size e)) e
 show wpAny _ _ (assignInOrder [fun v=>bindName X.env y v,fun v=>bindName X.env x v] [u2,u1] >>= fun _=>pure Flow.next) _ _ _
 refine wpAny_bind (assignInOrder_cons (wpAny_bindName (zel I3 hN hj (.inl hy) rw' (fun s2 I4=>?_) (.inr hy))))
 refine assignInOrder_cons (wpAny_bindName (zel I4 hN hi (.inl hx) rv (fun s3 I5=>assignInOrder_nil (wpAny_pure ?_)) (.inr hx)))
 rw [List.set_comm _ _ (Ne.symm hij)] at I5
 exact ⟨_,H1,I5,q1⟩
def tAug (i:Nat)(te:TE)(ti:TIp):TS:=fun D σ H=>∃x,σ[i]?=some (some x)/\te σ H fun y H1=>ti x y H1 fun z H2=>D.nx (σ.set i (some z)) H2
theorem zoa {i:Nat}{x:Str}{e:Expr}{te:TE}{op:Operator}{ti:TIp}{pos':Pos}(hN:X.N.Nodup)(hi:X.N[i]?=some x)(hx:Loc X.env.scope x)(he:PE X e te)(ho:PIp X op ti)(hf:X.fn x=true \/ X.env.scope.names.lookup x=some .local:=by first|exact .inl rfl|exact .inr rfl|assumption) :
  PS X (.AugAssign (.Name x pos') op e pos) (tAug i te ti):=by
 intro pins s σ H D I h
 obtain ⟨v,e1,h⟩:=h
 obtain ⟨m,hn,hl⟩:=I.loc
 have vis:Vis X.env.scope x:=by rcases hx with k|k;exact .inl k;exact .inr (.inl k)
 obtain ⟨u,r,l⟩:=hl i x v hi e1 vis
 refine wpAny_AugAssign_Name ?_
 have go:wpAny (model X.prog X.w) X.A (eval e X.env) (fun w s₂=>wpAny (model X.prog X.w) X.A (inplaceOp op u w) (fun r s₃=>wpAny (model X.prog X.w) X.A (storeName X.env x r) (fun _=>SP X pins D .next) X.xe s₃) X.xe s₂) X.xe s:=by
  refine thn (he pins s σ H _ I h) fun w s1 ⟨y,H1,I1,r1,q1⟩=>?_
  refine thn (ho pins s1 σ H1 v y u w _ I1 r r1 q1) fun z s2 ⟨zv,H2,I2,r2,q2⟩=>?_
  exact zel I2 hN hi hx r2 (fun s3 I3=>⟨_,H2,I3,q2⟩) hf
 rcases l with ⟨hk,hm⟩|⟨hk,c,hc,hcell⟩
 ·exact wpAny_loadName_local I.ok.kind hk hn hm go
 ·rcases hk with hk|hk
  ·exact wpAny_loadName_cell I.ok.kind hk hc hcell go
  ·rcases hx with k|k
   ·have:X.env.scope.names.lookup x=some .free:=hk
    rw [k] at this;cases this
   ·have:X.env.scope.names.lookup x=some .free:=hk
    rw [k] at this;cases this
def ipI (f:Int->Int->Int):TIp:=fun x y H Q=>∃i j,x=.int i/\y=.int j/\Q (.int (f i j)) H
theorem zn0:PIp X .Add (ipI fun i j=>i+j):=by
 intro pins s σ H x y v u Q I r1 r2 h
 obtain ⟨i,j,e1,e2,q⟩:=h
 subst e1;subst e2
 obtain ⟨t,rfl⟩:=r1
 obtain ⟨t',rfl⟩:=r2
 exact iadd_int ⟨.int _,H,I.tok _,⟨_,rfl⟩,q⟩
end
section
variable {X:Cx}{pos:Pos}
def tWhile (c:TT)(tb:TS):TS:=fun D σ H=>∃W:Nat->St->Hp->Prop,(∃m,W m σ H)/\∀m σ H,W m σ H ->
 c σ H fun b H1=>if b=true then ∃N:St->Hp->Prop,(∀σ' H',N σ' H'->∃m',m' < m/\W m' σ' H')/\tb { D with nx:=N,ct:=N,bk:=D.nx } σ H1 else D.nx σ H1
theorem zl1 {c:Expr}{body:List Stmt}{tc:TT}{tb:TS}(hp:PassesOwn (model X.prog X.w) X.A X.env X.xe)(hc:PT X c tc)(hb:PSs X body tb):PS X (.While c body [] pos) (tWhile tc tb):=by
 intro pins s σ H D I h
 obtain ⟨W,⟨m0,w0⟩,turn⟩:=h
 refine wpAny_While (codeAny_whileLoop (fun n s'=>∃σ' H',Inv X pins σ' H' s'/\W n σ' H') ?_ m0 ⟨σ,H,I,w0⟩)
 rintro n s1 ⟨σ1,H1,I1,w1⟩
 refine wpAny_passesOwn hp (thn (hc pins s1 σ1 H1 _ I1 (turn n σ1 H1 w1)) fun b s2 ⟨H2,I2,q2⟩=>?_)
 cases b with
 |true =>
  obtain ⟨N,hN,q2⟩:=q2
  rw [if_pos rfl]
  refine wpAny_passesOwn hp (thn (hb pins s2 σ1 H2 _ I2 q2) fun f s3 q3=>?_)
  cases f with
  |next =>
   obtain ⟨σ3,H3,I3,n3⟩:=q3
   obtain ⟨m',hm,w3⟩:=hN σ3 H3 n3
   exact ⟨m',hm,σ3,H3,I3,w3⟩
  |cont =>
   obtain ⟨σ3,H3,I3,n3⟩:=q3
   obtain ⟨m',hm,w3⟩:=hN σ3 H3 n3
   exact ⟨m',hm,σ3,H3,I3,w3⟩
  |brk=>exact q3
  |ret v=>exact q3
 |false =>
  rw [if_neg Bool.false_ne_true]
  exact wpAny_execs_nil ⟨σ1,H2,I2,q2⟩
end
structure It where
 go:Nat->Hp->Prop
 yld:Nat->Hp->V->Hp->Prop
 stop:Nat->Hp->Prop
def FpOk (X:Cx)(pins:List (Addr×Obj))(H:Hp)(b:Addr):Prop :=
 H b=none/\b≠X.env.locals/\b∉X.fs/\(b∈X.ex \/ X.s₀.heap.objs.size<=b)/\(∀x c,X.env.cells.lookup x=some c->c≠b)/\∀p∈X.pn++pins,p.1≠b
theorem Inv.fpOk {X:Cx}{pins:List (Addr×Obj)}{σ:St}{H H':Hp}{s:Shared}{b:Addr}(I:Inv X pins σ H s)(hb:s.heap.objs.size<=b)(hn:H' b=none):FpOk X pins H' b:=by
 refine ⟨hn,Nat.ne_of_gt (Nat.lt_of_lt_of_le I.lt hb),I.nofs hb,.inr (Nat.le_trans I.sz hb),fun x c e z=>?_,fun p hp z=>?_⟩
 ·obtain ⟨v,q⟩:=I.cell x c e
  exact absurd (Nat.lt_of_lt_of_le q.lt (by rw [z];exact hb)) (Nat.lt_irrefl _)
 ·exact absurd (Nat.lt_of_lt_of_le (Heap.lt_size (I.pin p hp).1) (by rw [z];exact hb)) (Nat.lt_irrefl _)
structure Turn (P:Program)(w:World)(K:PySem.W.Frag)(tg:Expr)(J:It)(fp:List Addr)(it:Addr)(tn:Nat->Heap->Prop):Prop where
 mem:it∈fp
 obj:∀i h,tn i h->∀b∈fp,∃o,h.get? b=some o/\∀v,o.data ≠ .cell v
 keep:∀i h h',tn i h->(∀b∈fp,∀o,h.get? b=some o->h'.get? b=some o)->tn i h'
 item:∀(X:Cx),X.prog=P->X.w=w->X.K=K->X.calm=true->∀(i:Nat) (pins:List (Addr×Obj)) (s:Shared) (σ:St) (H:Hp) (E:Value->Shared->Prop),Inv X pins σ H s->(∀b∈fp,FpOk X pins H b)->tn i s.heap->J.go i H ->
  wpAny (model P w) X.A (pyNext (.ref it)) (fun r s1=>∃u,r=some u /\
   wpAny (model P w) X.A (letOwnedTupleGo tg (.ref it) u) (fun _ s2=>∃x H',Inv X pins σ H' s2/\RelV x u/\J.yld i H x H'/\tn (i+1) s2.heap/\∀b∈fp,H' b=none) E s1) E s
 done:∀(X:Cx),X.prog=P->X.w=w->X.K=K->X.calm=true->∀(i:Nat) (pins:List (Addr×Obj)) (s:Shared) (σ:St) (H:Hp) (E:Value->Shared->Prop),Inv X pins σ H s->(∀b∈fp,FpOk X pins H b)->tn i s.heap->J.stop i H ->
  wpAny (model P w) X.A (pyNext (.ref it)) (fun r s1=>r=none/\Inv X pins σ H s1) E s
 self:∀(A:Around) (i:Nat) (s:Shared) (Q:Value->Shared->Prop) (E:Value->Shared->Prop),tn i s.heap->Q (.ref it) s->wpAny (model P w) A (pyIter (.ref it)) Q E s
abbrev TI:=St->Hp->(It->Hp->Prop)->Prop
def PIE (X:Cx)(pins:List (Addr×Obj))(σ:St)(tg:Expr)(R:It->Hp->Prop)(itv:Value)(s2:Shared):Prop :=
 ∃(it:Addr) (fp:List Addr) (tn:Nat->Heap->Prop) (J:It) (H':Hp),itv=.ref it/\Inv X pins σ H' s2/\Turn X.prog X.w X.K tg J fp it tn/\tn 0 s2.heap/\(∀b∈fp,FpOk X pins H' b)/\R J H'
def PI (X:Cx)(tg iter:Expr)(wi:TI):Prop :=
 ∀(pins:List (Addr×Obj)) (s:Shared) (σ:St) (H:Hp) (R:It->Hp->Prop),Inv X pins σ H s->wi σ H R ->
  wpAny (model X.prog X.w) X.A (eval iter X.env) (fun v s1=>wpAny (model X.prog X.w) X.A (pyIter v) (PIE X pins σ tg R) X.xe s1) X.xe s
theorem zmI {M:Model}{A:Around}{E:Value->Shared->Prop}{s:Shared}{tg:Expr}{it:Addr}{u:Value}{o:Obj}{n:String}{vs:Array Value}{Q:Unit->Shared->Prop}(ho:s.heap.get? it=some o)(hc:o.cls=.type n)(hd:o.data=.fields vs)
  (hn:["enumerate","zip","dict_itemiterator","dict_reverseitemiterator","odict_iterator","itertools.zip_longest","itertools.pairwise"].contains n=false) (hQ:Q () s):wpAny M A (letOwnedTupleGo tg (.ref it) u) Q E s:=by
 unfold letOwnedTupleGo
 cases tg <;> first
  | exact wpAny_pure hQ
  | (cases u <;> first
    | exact wpAny_pure hQ
    | (refine wpAny_bind (wpAny_load ho ?_)
       rw [hc,hd]
       show wpAny M A (if (["enumerate","zip","dict_itemiterator","dict_reverseitemiterator","odict_iterator","itertools.zip_longest","itertools.pairwise"].contains n && vs[0]? == some (rawInt _))=true then _ else _) Q E s
       rw [if_neg (by intro h;rw [hn,Bool.false_and] at h;cases h)]
       exact wpAny_pure hQ))
def Itl (K:PySem.W.Frag)(a:Addr):It :=
 ⟨fun i H=>∃xs x,SqL K H a xs/\xs[i]?=some x,fun i H x H'=>H'=H/\∀xs,SqL K H a xs->xs[i]?=some x,fun i H=>∃xs,SqL K H a xs/\xs.length<=i⟩
def Itt (K:PySem.W.Frag)(a:Addr):It :=
 ⟨fun i H=>∃xs x,SqT K H a xs/\xs[i]?=some x,fun i H x H'=>H'=H/\∀xs,SqT K H a xs->xs[i]?=some x,fun i H=>∃xs,SqT K H a xs/\xs.length<=i⟩
def Itr (lo:Int)(n:Nat):It:=⟨fun i _=>i<n,fun i H x H'=>H'=H/\x=.int (lo+i),fun i _=>n<=i⟩
theorem zj2 {P:Program}{w:World}{K:PySem.W.Frag}{tg:Expr}(a it:Addr):Turn P w K tg (Itl K a) [it] it (fun i h=>h.IsListIter it a i) where
 mem:=by simp
 obj:=fun i h st b hb=>by
  have e:b=it:=by simpa using hb
  subst e
  obtain ⟨o,e,c,d⟩:=st
  exact ⟨o,e,fun v z=>by rw [d] at z;cases z⟩
 keep:=fun i h h' st k=>st.at fun o e=>k it (by simp) o e
 item:=by
  intro X hP hw hK hc i pins s σ H E I hf st hg
  subst hP hw hK
  obtain ⟨xs,x,hq,hx⟩:=hg
  obtain ⟨its,rv,p,hz⟩:=I.list hq
  obtain ⟨u,hu,ru⟩:=rv.get hx
  obtain ⟨f0,f1,f2,f3,f4,f5⟩:=hf it (by simp)
  refine wpAny_pyNext_list_item st p.isList (x:=u) (by simpa using hu) fun h' st' sb=>?_
  have I1:Inv X pins σ H { s with heap:=h' }:=I.turned (t':=s.toks) (fun b o hb e=>(sb.2 b hb).trans e) f0 f1 f3 f4 f5
  obtain ⟨o,e,c,d⟩:=id st'
  exact ⟨u,rfl,zmI (s:={ s with heap:=h' }) e c d (by decide) ⟨x,H,I1,ru,⟨rfl,fun ys hy=>by rw [I.list_inj hy hq];exact hx⟩,st',fun b hb=>(hf b hb).1⟩⟩
 done:=by
  intro X hP hw hK hc i pins s σ H E I hf st hg
  subst hP hw hK
  obtain ⟨xs,hq,hx⟩:=hg
  obtain ⟨its,rv,p,hz⟩:=I.list hq
  obtain ⟨f0,f1,f2,f3,f4,f5⟩:=hf it (by simp)
  have hl:=rv.length
  exact wpAny_pyNext_list_end (I.ok.hd hc) st p.isList (by simp;omega) fun h' eb=>⟨rfl,I.turned (t':=s.toks) (fun b o hb e=>eb b o hb e) f0 f1 f3 f4 f5⟩
 self:=fun _ _ _ _ _ st h=>wpAny_pyIter_listiter st h
theorem zjJ {P:Program}{w:World}{K:PySem.W.Frag}{tg:Expr}(a it:Addr):Turn P w K tg (Itt K a) [it] it (fun i h=>h.IsTupleIter it a i) where
 mem:=by simp
 obj:=fun i h st b hb=>by
  have e:b=it:=by simpa using hb
  subst e
  obtain ⟨o,e,c,d⟩:=st
  exact ⟨o,e,fun v z=>by rw [d] at z;cases z⟩
 keep:=fun i h h' st k=>st.at fun o e=>k it (by simp) o e
 item:=by
  intro X hP hw hK hc i pins s σ H E I hf st hg
  subst hP hw hK
  obtain ⟨xs,x,hq,hx⟩:=hg
  obtain ⟨its,rv,p,hz⟩:=I.tuple hq
  obtain ⟨u,hu,ru⟩:=rv.get hx
  obtain ⟨f0,f1,f2,f3,f4,f5⟩:=hf it (by simp)
  refine wpAny_pyNext_tuple_item st (show s.heap.IsTuple a its.toArray from p) (x:=u) (by simpa using hu) fun h' st' sb=>?_
  have I1:Inv X pins σ H { s with heap:=h' }:=I.turned (t':=s.toks) (fun b o hb e=>(sb.2 b hb).trans e) f0 f1 f3 f4 f5
  obtain ⟨o,e,c,d⟩:=id st'
  exact ⟨u,rfl,zmI (s:={ s with heap:=h' }) e c d (by decide) ⟨x,H,I1,ru,⟨rfl,fun ys hy=>by rw [I.tuple_inj hy hq];exact hx⟩,st',fun b hb=>(hf b hb).1⟩⟩
 done:=by
  intro X hP hw hK hc i pins s σ H E I hf st hg
  subst hP hw hK
  obtain ⟨xs,hq,hx⟩:=hg
  obtain ⟨its,rv,p,hz⟩:=I.tuple hq
  obtain ⟨f0,f1,f2,f3,f4,f5⟩:=hf it (by simp)
  have hl:=rv.length
  exact wpAny_pyNext_tuple_end (I.ok.hd hc) st (show s.heap.IsTuple a its.toArray from p) (by simp;omega) fun h' eb=>⟨rfl,I.turned (t':=s.toks) (fun b o hb e=>eb b o hb e) f0 f1 f3 f4 f5⟩
 self:=fun _ _ _ _ _ st h=>wpAny_pyIter_tupleiter st h
theorem zju {P:Program}{w:World}{K:PySem.W.Frag}{tg:Expr}(it:Addr)(lo:Int)(n:Nat):Turn P w K tg (Itr lo n) [it] it (fun i h=>IsRangeIter h it (lo+(i:Nat)*1) ((n:Int) - (i:Nat)) 1) where
 mem:=by simp
 obj:=fun i h st b hb=>by
  have e:b=it:=by simpa using hb
  subst e
  exact ⟨_,st,fun v z=>by
   have z':Data.fields _=Data.cell v:=z
   cases z'⟩
 keep:=fun i h h' st k=>k it (by simp) _ st
 item:=by
  intro X hP hw hK hc i pins s σ H E I hf st hg
  subst hP hw hK
  obtain ⟨f0,f1,f2,f3,f4,f5⟩:=hf it (by simp)
  have W:=Walks.range (prog:=X.prog) (w:=X.w) (I.ok.hd hc) it lo 1 n
  refine W.item i s _ _ hg st fun v h' tk hv st' kk=>?_
  obtain ⟨t,rfl⟩:=hv
  have I1:Inv X pins σ H { s with heap:=h',toks:=tk }:=I.turned (fun b o hb e=>kk b o (by simpa using hb) e) f0 f1 f3 f4 f5
  refine ⟨_,rfl,zmI (s:={ s with heap:=h',toks:=tk }) (n:="range_iterator") st' rfl rfl (by decide) ⟨.int (lo+i),H,I1,⟨t,?_⟩,⟨rfl,rfl⟩,st',fun b hb=>(hf b hb).1⟩⟩
  rw [Int.mul_one]
 done:=by
  intro X hP hw hK hc i pins s σ H E I hf st hg
  subst hP hw hK
  obtain ⟨f0,f1,f2,f3,f4,f5⟩:=hf it (by simp)
  exact wpAny_pyNext_range_end (I.ok.hd hc) st (by have:n<=i:=hg;omega) fun h' eb=>⟨rfl,I.turned (t':=s.toks) (fun b o hb e=>eb b o hb e) f0 f1 f3 f4 f5⟩
 self:=fun _ _ _ _ _ st h=>wpAny_pyIter_rangeiter st h
section
variable {X:Cx}{tg:Expr}
theorem zls {pins:List (Addr×Obj)}{σ:St}{H:Hp}{s:Shared}{R:It->Hp->Prop}{E:Value->Shared->Prop}{lo hi:Int}{t u v:Tok}{tk:Nat}(I:Inv X pins σ H s)(h1:-(2 ^ 62)<=lo)(h2:lo<2 ^ 62)(h3:-(2 ^ 62)<=hi)(h4:hi<2 ^ 62)
  (q:R (Itr lo (hi - lo).toNat) H):wpAny (model X.prog X.w) X.A (pyIter (.ref s.heap.objs.size)) (PIE X pins σ tg R) E { s with heap:=s.heap.push { cls:=.type "range",data:=.fields #[.int lo t,.int hi u,.int 1 v] },toks:=tk }:=by
 refine wpAny_pyIter_range (IsRange.new ..) (small_one h1 h2 h3 h4) ?_
 have I1:Inv X pins σ H { s with heap:=s.heap.push { cls:=.type "range",data:=.fields #[.int lo t,.int hi u,.int 1 v] },toks:=tk }:=I.kept fun b o e=>Heap.get?_push_of_some _ e
 refine ⟨(s.heap.push { cls:=.type "range",data:=.fields #[.int lo t,.int hi u,.int 1 v] }).objs.size,[(s.heap.push { cls:=.type "range",data:=.fields #[.int lo t,.int hi u,.int 1 v] }).objs.size],_,_,H,rfl,
  I1.kept (t':=tk) fun b o e=>Heap.get?_push_of_some _ e,zju _ lo (hi - lo).toNat,?_,fun b hb=>?_,q⟩
 ·have e1:lo+((0:Nat):Int)*1=lo:=by simp
  have e2:(((hi - lo).toNat:Nat):Int) - ((0:Nat):Int)=Builtin.Range.rangeSize lo hi 1:=by rw [rangeSize_one];split <;> omega
  show IsRangeIter _ _ (lo+((0:Nat):Int)*1) ((((hi - lo).toNat:Nat):Int) - ((0:Nat):Int)) 1
  rw [e1,e2]
  exact Heap.get?_push_size _ rfl
 ·have e:b=(s.heap.push { cls:=.type "range",data:=.fields #[.int lo t,.int hi u,.int 1 v] }).objs.size:=by simpa using hb
  subst e
  exact I1.fpOk (Nat.le_refl _) (I1.hok.fresh (Nat.le_refl _))
def iRng1 (ta:TA):TI:=fun σ H R=>ta σ H fun vs H1=>∃j:Int,vs=[.int j]/\-(2 ^ 62)<=j/\j<2 ^ 62/\R (Itr 0 j.toNat) H1
theorem zj3 {a:Expr}{ta:TA}{p pos:Pos}(hg:Gl X "range")(hm:X.mg "range"=none)(ha:PA X [a] ta)(hs:starEach [a] X.env=[(false,eval a X.env)]:=by rfl):PI X tg (.Call (.Name "range" p) [a] [] pos) (iRng1 ta):=by
 intro pins s σ H R I h
 refine Call_ (zg9 I hg hm boot_range (PyProof.Rows.callWith_type1 (thn (ha pos pins s σ H _ I h) fun us s1 ⟨vs,H1,I1,r1,q1⟩=>?_) hs rfl))
 obtain ⟨j,e,q1,q2,q⟩:=q1
 subst e
 cases r1 with
 |cons r rr =>
  cases rr
  obtain ⟨t,rfl⟩:=r
  exact call_range_1 (zls I1 (by omega) (by omega) q1 q2 (by simpa using q))
def tFor (wi:TI)(g:TG)(tb:TS):TS:=fun D σ H=>wi σ H fun J H1=>∃W:Nat->Nat->St->Hp->Prop,(∃m,W 0 m σ H1)/\∀i m σ H,W i m σ H ->
 (J.stop i H/\D.nx σ H) \/ (J.go i H/\∃N:St->Hp->Prop,(∀σ' H',N σ' H'->∃m',m' < m/\W (i+1) m' σ' H')/\∀x H',J.yld i H x H'->g x σ H' fun σ2 H2=>tb { D with nx:=N,ct:=N,bk:=D.nx } σ2 H2)
def pinsAt (fp:List Addr)(h:Heap):List (Addr×Obj):=fp.filterMap fun b=>(h.get? b).map fun o=>(b,o)
theorem zeh {fp:List Addr}{h:Heap}{b:Addr}{o:Obj}(hb:b∈fp)(e:h.get? b=some o):(b,o)∈pinsAt fp h:=List.mem_filterMap.mpr ⟨b,hb,by rw [e];rfl⟩
theorem zj0 {fp:List Addr}{h:Heap}{p:Addr×Obj}(hp:p∈pinsAt fp h):p.1∈fp/\h.get? p.1=some p.2:=by
 obtain ⟨b,hb,e⟩:=List.mem_filterMap.mp hp
 cases q:h.get? b with
 |none=>rw [q] at e;cases e
 |some o =>
  rw [q] at e
  have e':(b,o)=p:=Option.some.inj e
  subst e'
  exact ⟨hb,q⟩
theorem Inv.pinned {pins:List (Addr×Obj)}{σ:St}{H:Hp}{s:Shared}{fp:List Addr}(I:Inv X pins σ H s)(hf:∀b∈fp,FpOk X pins H b)(ho:∀b∈fp,∃o,s.heap.get? b=some o/\∀v,o.data ≠ .cell v):Inv X (pins++pinsAt fp s.heap) σ H s :=
 I.pins_of fun p hp=>(List.mem_append.mp hp).elim (fun z=>I.pin p (List.mem_append_right _ z)) fun z=>by
  obtain ⟨hb,e⟩:=zj0 z
  obtain ⟨f0,f1,f2,_⟩:=hf p.1 hb
  obtain ⟨o,e',d⟩:=ho p.1 hb
  rw [e] at e';cases e'
  exact ⟨e,f0,f1,f2,d⟩
theorem Inv.unpinned {pins pl:List (Addr×Obj)}{σ:St}{H:Hp}{s:Shared}(I:Inv X (pins++pl) σ H s):Inv X pins σ H s:=I.pins_of fun p hp=>I.pin p (List.mem_append_right _ (List.mem_append_left _ hp))
theorem znX {iter:Expr}{body:List Stmt}{wi:TI}{g:TG}{tb:TS}{pos:Pos}(hp:PassesOwn (model X.prog X.w) X.A X.env X.xe)(hc:X.calm=true)(hi:PI X tg iter wi)(hg:PG X tg g)(hb:PSs X body tb)
  (hs:∀x,foldedSetIterable iter X.env x=pure x:=by intro _;rfl):PS X (.For tg iter body [] pos) (tFor wi g tb):=by
 intro pins s σ H D I h
 refine wpAny_For (thn (hi pins s σ H _ I h) fun v s1 h1=>thn h1 fun itv s2 h2=>?_) hs
 obtain ⟨it,fp,tn,J,H2,e,I2,T,st2,f2,W,⟨m0,w0⟩,turn⟩:=h2
 subst e
 have stat:∀{H':Hp},(∀b∈fp,H' b=none)->∀b∈fp,FpOk X pins H' b:=fun hn b hb=>⟨hn b hb,(f2 b hb).2⟩
 refine codeAny_forLoop_any (fun n s'=>∃i σ' H',Inv X pins σ' H' s'/\tn i s'.heap/\(∀b∈fp,H' b=none)/\W i n σ' H') ?_ m0 ⟨0,σ,H2,I2,st2,fun b hb=>(f2 b hb).1,w0⟩
 rintro n s3 ⟨i,σ3,H3,I3,st3,fr3,w3⟩
 rcases turn i n σ3 H3 w3 with ⟨stop,qn⟩|⟨go,N,hN,step⟩
 ·refine wpAny_passesOwn hp (thn (T.done X rfl rfl rfl hc i pins s3 σ3 H3 X.xe I3 (stat fr3) st3 stop) fun r s4 ⟨hr,I4⟩=>?_)
  subst hr
  exact wpAny_execs_nil ⟨σ3,H3,I4,qn⟩
 ·refine wpAny_passesOwn hp (thn (T.item X rfl rfl rfl hc i pins s3 σ3 H3 X.xe I3 (stat fr3) st3 go) fun r s4 ⟨u,hr,h4⟩=>?_)
  subst hr
  refine wpAny_passesOwn hp (thn h4 fun _ s5 ⟨x,H5,I5,r5,y5,st5,fr5⟩=>?_)
  have I5':=I5.pinned (stat fr5) (T.obj _ _ st5)
  refine wpAny_passesOwn hp (thn (hg _ s5 σ3 H5 x u _ I5' r5 (step x H5 y5)) fun _ s6 ⟨σ6,H6,I6,q6⟩=>?_)
  refine wpAny_passesOwn hp (thn (hb _ s6 σ6 H6 _ I6 q6) fun f s7 q7=>?_)
  have again:∀{σ7:St} {H7:Hp},Inv X (pins++pinsAt fp s5.heap) σ7 H7 s7->N σ7 H7->∃m,m<n/\∃i σ' H',Inv X pins σ' H' s7/\tn i s7.heap/\(∀b∈fp,H' b=none)/\W i m σ' H':=fun {σ7 H7} I7 n7=>by
   obtain ⟨m',hm,w7⟩:=hN σ7 H7 n7
   refine ⟨m',hm,i+1,σ7,H7,I7.unpinned,T.keep _ _ _ st5 fun b hb o e=>(I7.pin (b,o) (List.mem_append_right _ (List.mem_append_right _ (zeh hb e)))).1,fun b hb=>?_,w7⟩
   obtain ⟨o,e,d⟩:=T.obj _ _ st5 b hb
   exact (I7.pin (b,o) (List.mem_append_right _ (List.mem_append_right _ (zeh hb e)))).2.1
  cases f with
  |next=>obtain ⟨σ7,H7,I7,n7⟩:=q7;exact again I7 n7
  |cont=>obtain ⟨σ7,H7,I7,n7⟩:=q7;exact again I7 n7
  |brk=>obtain ⟨σ7,H7,I7,q7⟩:=q7;exact ⟨σ7,H7,I7.unpinned,q7⟩
  |ret v=>obtain ⟨x7,σ7,H7,I7,r7,q7⟩:=q7;exact ⟨x7,σ7,H7,I7.unpinned,r7,q7⟩
end
abbrev R2:=V->V->Hp->VK->Prop
def OpR (X:Cx)(f:Value->Value->Sem Value)(r:R2):Prop :=
 ∀(pins:List (Addr×Obj)) (s:Shared) (σ:St) (H:Hp) (x y:V) (v u:Value) (Q:VK),Inv X pins σ H s->RelV x v->RelV y u->r x y H Q ->
  wpAny (model X.prog X.w) X.A (f v u) (EP X pins σ Q) X.xe s
def UnR (X:Cx)(f:Value->Sem Value)(r:V->Hp->VK->Prop):Prop :=
 ∀(pins:List (Addr×Obj)) (s:Shared) (σ:St) (H:Hp) (x:V) (v:Value) (Q:VK),Inv X pins σ H s->RelV x v->r x H Q ->
  wpAny (model X.prog X.w) X.A (f v) (EP X pins σ Q) X.xe s
def CallR (X:Cx)(f:Value)(r:List V->Hp->VK->Prop):Prop :=
 ∀(pins:List (Addr×Obj)) (s:Shared) (σ:St) (H:Hp) (xs:List V) (us:List Value) (Q:VK),Inv X pins σ H s->Vals xs us->r xs H Q ->
  wpAny (model X.prog X.w) X.A (call f us) (EP X pins σ Q) X.xe s
def TruR (X:Cx)(r:V->Hp->(Bool->Hp->Prop)->Prop):Prop :=
 ∀(pins:List (Addr×Obj)) (s:Shared) (σ:St) (H:Hp) (x:V) (v:Value) (Q:Bool->Hp->Prop),Inv X pins σ H s->RelV x v->r x H Q ->
  wpAny (model X.prog X.w) X.A (truthy v) (TP X pins σ Q) X.xe s
def tOp (r:R2)(ta tb:TE):TE:=fun σ H Q=>ta σ H fun x H1=>tb σ H1 fun y H2=>r x y H2 Q
def tUn (r:V->Hp->VK->Prop)(ta:TE):TE:=fun σ H Q=>ta σ H fun x H1=>r x H1 Q
def rI (C:Int->Int->Prop)(g:Int->Int->V):R2:=fun x y H Q=>∃i j,x=.int i/\y=.int j/\C i j/\Q (g i j) H
def rI0 (g:Int->Int->V):R2:=fun x y H Q=>∃i j,x=.int i/\y=.int j/\Q (g i j) H
def rU (g:Int->V):V->Hp->VK->Prop:=fun x H Q=>∃i,x=.int i/\Q (g i) H
section
variable {X:Cx}{a b c:Expr}{ta tb tc:TE}{pos:Pos}
theorem binT (ha:PE X a ta)(hb:PE X b tb){pins:List (Addr×Obj)}{s:Shared}{σ:St}{H:Hp}{R:V->V->Hp->Prop}(I:Inv X pins σ H s)
  (h:ta σ H fun x H1=>tb σ H1 fun y H2=>R x y H2) {Q:Value->Shared->Prop} {f:Value->Value->Sem Value}
  (hf:∀v u s2 x y H2,Inv X pins σ H2 s2->RelV x v->RelV y u->R x y H2->wpAny (model X.prog X.w) X.A (f v u) Q X.xe s2) :
  wpAny (model X.prog X.w) X.A (eval a X.env) (fun v s₁=>wpAny (model X.prog X.w) X.A (eval b X.env) (fun u s₂=>wpAny (model X.prog X.w) X.A (f v u) Q X.xe s₂) X.xe s₁) X.xe s:=by
 refine thn (ha pins s σ H _ I h) fun v s1 ⟨x,H1,I1,r1,q1⟩=>?_
 refine thn (hb pins s1 σ H1 _ I1 q1) fun u s2 ⟨y,H2,I2,r2,q2⟩=>?_
 exact hf v u s2 x y H2 I2 r1 r2 q2
theorem zos {op:Operator}{r:R2}(ho:OpR X (binaryOp op) r)(ha:PE X a ta)(hb:PE X b tb):PE X (.BinOp a op b pos) (tOp r ta tb):=by
 intro pins s σ H Q I h
 exact wpAny_BinOp (binT ha hb I h fun v u s2 x y H2 I2 rx ry q=>ho pins s2 σ H2 x y v u Q I2 rx ry q)
theorem zoY {op:UnaryOp}{r:V->Hp->VK->Prop}(ho:UnR X (unaryOp op) r)(ha:PE X a ta):PE X (.UnaryOp op a pos) (tUn r ta):=by
 intro pins s σ H Q I h
 exact UnaryOp_ (thn (ha pins s σ H _ I h) fun v s1 ⟨x,H1,I1,r1,q1⟩=>ho pins s1 σ H1 x v Q I1 r1 q1)
theorem opI {f:Value->Value->Sem Value}{C:Int->Int->Prop}{g:Int->Int->Int}
  (rule:∀(i j:Int) (t u:Tok) (s:Shared) (Q:Value->Shared->Prop) (E:Value->Shared->Prop),C i j->Q (.int (g i j) s.toks) { s with toks:=s.toks+1 }->wpAny (model X.prog X.w) X.A (f (.int i t) (.int j u)) Q E s) :
  OpR X f (rI C fun i j=>.int (g i j)):=by
 intro pins s σ H x y v u Q I rx ry h
 obtain ⟨i,j,rfl,rfl,hc,q⟩:=h
 obtain ⟨t,rfl⟩:=rx
 obtain ⟨t',rfl⟩:=ry
 exact rule i j t t' s _ _ hc ⟨.int (g i j),H,I.tok _,⟨_,rfl⟩,q⟩
theorem opI0 {f:Value->Value->Sem Value}{g:Int->Int->Int}
  (rule:∀(i j:Int) (t u:Tok) (s:Shared) (Q:Value->Shared->Prop) (E:Value->Shared->Prop),Q (.int (g i j) s.toks) { s with toks:=s.toks+1 }->wpAny (model X.prog X.w) X.A (f (.int i t) (.int j u)) Q E s) :
  OpR X f (rI0 fun i j=>.int (g i j)):=by
 intro pins s σ H x y v u Q I rx ry h
 obtain ⟨i,j,rfl,rfl,q⟩:=h
 obtain ⟨t,rfl⟩:=rx
 obtain ⟨t',rfl⟩:=ry
 exact rule i j t t' s _ _ ⟨.int (g i j),H,I.tok _,⟨_,rfl⟩,q⟩
theorem opB0 {f:Value->Value->Sem Value}{g:Int->Int->Bool}
  (rule:∀(i j:Int) (t u:Tok) (s:Shared) (Q:Value->Shared->Prop) (E:Value->Shared->Prop),Q (.bool (g i j)) s->wpAny (model X.prog X.w) X.A (f (.int i t) (.int j u)) Q E s) :
  OpR X f (rI0 fun i j=>.bl (g i j)):=by
 intro pins s σ H x y v u Q I rx ry h
 obtain ⟨i,j,rfl,rfl,q⟩:=h
 obtain ⟨t,rfl⟩:=rx
 obtain ⟨t',rfl⟩:=ry
 exact rule i j t t' s _ _ ⟨.bl (g i j),H,I,rfl,q⟩
def CPow (i j:Int):Prop:=0<=j/\j<=1000000/\i.natAbs<2 ^ 64
def CMul (i j:Int):Prop:=(-(2 ^ 64)<i/\i<2 ^ 64) \/ (-(2 ^ 64)<j/\j<2 ^ 64)
theorem CMul.ok {i j:Int}(h:CMul i j):IntMulOk i j:=by
 rcases h with ⟨h1,h2⟩|⟨h1,h2⟩
 ·exact .of_left (intBits_le_64 h1 h2)
 ·exact .of_right (intBits_le_64 h1 h2)
theorem zoJ:OpR X (binaryOp .Add) (rI0 fun i j=>.int (i+j)):=opI0 fun _ _ _ _ _ _ _ q=>add_int q
theorem zn4:OpR X (binaryOp .Sub) (rI0 fun i j=>.int (i - j)):=opI0 fun _ _ _ _ _ _ _ q=>sub_int q
theorem znY:OpR X (binaryOp .Mult) (rI CMul fun i j=>.int (i*j)):=opI fun _ _ _ _ _ _ _ hc q=>mul_int q hc.ok
theorem zok:OpR X (binaryOp .Mod) (rI (fun _ j=>0<j) fun i j=>.int (i % j)):=opI fun i j _ _ _ _ _ hc q=>by
 have h1:(0:Int)<j:=hc
 exact mod_int' (by omega) (by rw [Int.fmod_eq_emod_of_nonneg i (by omega)];exact q)
theorem znN:OpR X (binaryOp .Pow) (rI CPow fun i j=>.int (i ^ j.toNat)):=opI fun _ _ _ _ _ _ _ hc q=>pow_int_small hc.1 hc.2.1 hc.2.2 q
theorem unI {f:Value->Sem Value}{g:Int->Int}
  (rule:∀(i:Int) (t:Tok) (s:Shared) (Q:Value->Shared->Prop) (E:Value->Shared->Prop),Q (.int (g i) s.toks) { s with toks:=s.toks+1 }->wpAny (model X.prog X.w) X.A (f (.int i t)) Q E s) :
  UnR X f (rU fun i=>.int (g i)):=by
 intro pins s σ H x v Q I rx h
 obtain ⟨i,rfl,q⟩:=h
 obtain ⟨t,rfl⟩:=rx
 exact rule i t s _ _ ⟨.int (g i),H,I.tok _,⟨_,rfl⟩,q⟩
theorem zot:UnR X (unaryOp .USub) (rU fun i=>.int (-i)):=unI fun _ _ _ _ _ q=>neg_int q
theorem zj1:OpR X (binaryOp .Add) (fun x y H Q=>∃i k,x=.int i/\y=.bl k/\Q (.int (i+b2i k)) H):=by
 intro pins s σ H x y v u Q I rx ry h
 obtain ⟨i,k,rfl,rfl,q⟩:=h
 obtain ⟨t,rfl⟩:=rx
 cases ry
 exact add_int_bool ⟨.int (i+b2i k),H,I.tok _,⟨_,rfl⟩,q⟩
end
section
variable {X:Cx}{a b c:Expr}{ta tb tc:TE}{pos:Pos}
theorem zgC {pins:List (Addr×Obj)}{σ:St}{H:Hp}{s:Shared}{Q:VK}{k k':Bool}(I:Inv X pins σ H s)(q:Q (.bl k) H)(e:k=k'):EP X pins σ Q (.bool k') s:=by
 subst e
 exact ⟨.bl k,H,I,rfl,q⟩
theorem zoT:OpR X (compareOp .Lt) (rI0 fun i j=>.bl (decide (i<j))):=opB0 fun _ _ _ _ _ _ _ q=>lt_int q
theorem zo7:OpR X (compareOp .LtE) (rI0 fun i j=>.bl (decide (i<=j))):=opB0 fun _ _ _ _ _ _ _ q=>le_int q
theorem zoQ:OpR X (compareOp .Gt) (rI0 fun i j=>.bl (decide (j<i))):=opB0 fun _ _ _ _ _ _ _ q=>gt_int q
theorem zo2:OpR X (compareOp .GtE) (rI0 fun i j=>.bl (decide (j<=i))):=opB0 fun _ _ _ _ _ _ _ q=>ge_int q
theorem zkt:OpR X (compareOp .Lt) (fun x y H Q=>∃i j,x=.str i/\y=.str j/\Q (.bl (decide (i.cps.toList<j.cps.toList))) H):=by
 intro pins s σ H x y v u Q I rx ry h
 obtain ⟨i,j,rfl,rfl,q⟩:=h
 obtain ⟨t,rfl⟩:=rx
 obtain ⟨t',rfl⟩:=ry
 exact lt_str (zgC I q rfl)
theorem zks:OpR X (compareOp .In) (fun x y H Q=>∃i j,x=.str i/\y=.str j/\Q (.bl (!(Builtin.Str.occurrences j i 0 j.length 1).isEmpty)) H):=by
 intro pins s σ H x y v u Q I rx ry h
 obtain ⟨i,j,rfl,rfl,q⟩:=h
 obtain ⟨t,rfl⟩:=rx
 obtain ⟨t',rfl⟩:=ry
 exact in_str (zgC I q rfl)
theorem zoC:OpR X (compareOp .Is) (fun x y H Q=>y=.non/\Q (.bl (decide (x=.non))) H):=by
 intro pins s σ H x y v u Q I rx ry h
 obtain ⟨rfl,q⟩:=h
 cases ry
 refine is_none_gen (zgC I q ?_)
 cases x <;> first
  | (cases rx;rfl)
  | (obtain ⟨t,rfl⟩:=rx;rfl)
theorem znD:OpR X (compareOp .IsNot) (fun x y H Q=>y=.non/\Q (.bl (!decide (x=.non))) H):=by
 intro pins s σ H x y v u Q I rx ry h
 obtain ⟨rfl,q⟩:=h
 cases ry
 refine isnot_none_gen (zgC I q ?_)
 cases x <;> first
  | (cases rx;rfl)
  | (obtain ⟨t,rfl⟩:=rx;rfl)
theorem nomark (b:Expr){op:CmpOp}(h:op ≠ .In:=by decide)(h2:op ≠ .NotIn:=by decide):behindInMarks op b=false:=by
 have e1:(op == CmpOp.In)=false:=by cases op <;> first|rfl|exact absurd rfl h
 have e2:(op == CmpOp.NotIn)=false:=by cases op <;> first|rfl|exact absurd rfl h2
 cases b <;> simp [behindInMarks,e1,e2]
theorem zj5 {op:CmpOp}{r:R2}(ho:OpR X (compareOp op) r)(ha:PE X a ta)(hb:PE X b tb)(hm:behindInMarks op b=false):PE X (.Compare a [op] [b] pos) (tOp r ta tb):=by
 intro pins s σ H Q I h
 exact wpAny_Compare1 (binT ha hb I h fun v u s2 x y H2 I2 rx ry q=>ho pins s2 σ H2 x y v u Q I2 rx ry q) hm
def tTest (t:TE):TT:=fun σ H Q=>t σ H fun x H'=>∃k,x=.bl k/\Q k H'
theorem zlg {op:CmpOp}{r:R2}(ho:OpR X (compareOp op) r)(ha:PE X a ta)(hb:PE X b tb)(hm:behindInMarks op b=false):PT X (.Compare a [op] [b] pos) (tTest (tOp r ta tb)):=by
 intro pins s σ H Q I h
 refine wpAny_isTrue_Compare1 (thn (ha pins s σ H _ I h) fun v s1 ⟨x,H1,I1,r1,q1⟩=>thn (hb pins s1 σ H1 _ I1 q1) fun u s2 ⟨y,H2,I2,r2,q2⟩ =>
  thn (ho pins s2 σ H2 x y v u _ I2 r1 r2 q2) fun c s3 ⟨z,H3,I3,r3,k,e,q3⟩=>?_) hm
 subst e
 cases r3
 exact wpAny_truthy_bool ⟨H3,I3,q3⟩
def tChain (r r':R2)(ta tb tc:TE):TE:=fun σ H Q=>ta σ H fun x H1=>tb σ H1 fun y H2=>r x y H2 fun z H3=>∃k,z=.bl k /\
 (if k=true then tc σ H3 fun w' H4=>r' y w' H4 Q else Q (.bl false) H3)
theorem zlT {op op':CmpOp}{r r':R2}(ho:OpR X (compareOp op) r)(ho':OpR X (compareOp op') r')(ha:PE X a ta)(hb:PE X b tb)(hc:PE X c tc)
  (hm:lastMarks [op,op'] [b,c]=false:=by with_unfolding_all rfl):PE X (.Compare a [op,op'] [b,c] pos) (tChain r r' ta tb tc):=by
 intro pins s σ H Q I h
 refine Compare_chain (thn (ha pins s σ H _ I h) fun v s1 ⟨x,H1,I1,r1,q1⟩=>chain_link (thn (hb pins s1 σ H1 _ I1 q1) fun u s2 ⟨y,H2,I2,r2,q2⟩ =>
  thn (ho pins s2 σ H2 x y v u _ I2 r1 r2 q2) fun d s3 ⟨z,H3,I3,r3,k,e,q3⟩=>?_)) hm
 subst e
 cases r3
 refine wpAny_truthy_bool ?_
 cases k with
 |false=>exact ite_ff ⟨.bl false,H3,I3,rfl,q3⟩
 |true=>exact ite_tt (chain_last (thn (hc pins s3 σ H3 _ I3 q3) fun w' s4 ⟨z',H4,I4,r4,q4⟩=>ho' pins s4 σ H4 y z' u w' Q I4 r2 r4 q4))
def TruV (K:PySem.W.Frag)(x:V)(H:Hp)(k:Bool):Prop :=
 match x with
 | .non=>k=false
 | .bl b=>k=b
 | .int i=>k=(i != 0)
 | .str y=>y.length<=sizeLine/\k=((y.length:Int) != 0)
 | .byt y=>y.size<=sizeLine/\k=((y.size:Int) != 0)
 | .ref p=>(∃xs,SqL K H p xs/\k=!xs.isEmpty) \/ (∃xs,SqT K H p xs/\k=!xs.isEmpty) \/ ∃kvs,H p=some (.dK kvs)/\k=!kvs.isEmpty
 |_=>False
theorem zjs {κ:Type}{kvs:List (κ×V)}{vs:List (κ×Value)}(r:KV kvs vs):(!vs.isEmpty)=!kvs.isEmpty:=by
 cases r <;> rfl
theorem zg6 {xs:List V}{its:List Value}(r:Vals xs its):(!its.toArray.isEmpty)=!xs.isEmpty:=by
 cases r <;> simp
theorem line63:(sizeLine:Nat)<2 ^ 63:=by rw [sizeLine_eq];decide
theorem zox:TruR X (fun x H Q=>∃k,TruV X.K x H k/\Q k H):=by
 intro pins s σ H x v Q I rx h
 obtain ⟨k,e,q⟩:=h
 have hl:=line63
 have hs:sizeLine=16777216:=sizeLine_eq
 cases x with
 |non =>
  cases rx
  have e':k=false:=e
  subst e'
  exact truthy_none ⟨H,I,q⟩
 |bl b =>
  cases rx
  have e':k=b:=e
  subst e'
  exact wpAny_truthy_bool ⟨H,I,q⟩
 |int i =>
  obtain ⟨t,rfl⟩:=rx
  have e':k=(i != 0):=e
  subst e'
  exact PySem.P.truthy_int ⟨H,I,q⟩
 |str y =>
  obtain ⟨t,rfl⟩:=rx
  obtain ⟨hy,e'⟩:y.length<=sizeLine/\k=((y.length:Int) != 0):=e
  subst e'
  exact PySem.P.truthy_str (by omega) ⟨H,I.tok _,q⟩
 |byt y =>
  obtain ⟨t,rfl⟩:=rx
  obtain ⟨hy,e'⟩:y.size<=sizeLine/\k=((y.size:Int) != 0):=e
  subst e'
  exact PySem.W.truthy_bytes (by omega) ⟨H,I.tok _,q⟩
 |ref p =>
  cases rx
  have e':(∃xs,SqL X.K H p xs/\k=!xs.isEmpty) \/ (∃xs,SqT X.K H p xs/\k=!xs.isEmpty) \/ ∃kvs,H p=some (.dK kvs)/\k=!kvs.isEmpty:=e
  rcases e' with ⟨xs,hx,e'⟩|⟨xs,hx,e'⟩|⟨kvs,hx,e'⟩
  ·subst e'
   obtain ⟨its,r,pl,hz⟩:=I.list hx
   have hlen:=r.length
   exact wpAny_truthy_list pl.isList (by simp only [List.size_toArray];omega) ⟨H,I.tok _,by rw [zg6 r];exact q⟩
  ·subst e'
   obtain ⟨its,r,pl,hz⟩:=I.tuple hx
   have hlen:=r.length
   exact truthy_tuple pl (by simp only [List.size_toArray];omega) ⟨H,I.tok _,by rw [zg6 r];exact q⟩
  ·subst e'
   obtain ⟨hz,hS,vs,r,m⟩:kvs.length<=sizeLine/\(p == sysModules)=false/\∃vs,KV kvs vs/\s.heap.DictOf (mixKind X.prog X.w) p vs:=I.hok p _ hx
   have hlen:kvs.length=vs.length:=Paired.length r
   exact wpAny_truthy_dict hS m (by omega) ⟨H,I.tok _,by rw [zjs r];exact q⟩
 |_=>exact (show False from e).elim
theorem zl4 (ha:PE X a ta)(he:∀whole,isTrue a X.env whole=(do let v <- whole;standAt a.pos;holding [v] (truthy v))) :
  PT X a (fun σ H Q=>ta σ H fun x H'=>∃k,TruV X.K x H' k/\Q k H'):=by
 intro pins s σ H Q I h
 exact isTrue_plain (thn (ha pins s σ H _ I h) fun v s1 ⟨x,H1,I1,r1,q1⟩=>zox pins s1 σ H1 x v Q I1 r1 q1) (he _)
theorem zjz:OpR X (binaryOp .Add) (fun x y H Q=>∃i j,x=.str i/\y=.str j/\i.length+j.length<=sizeLine/\Q (.str (i++j)) H):=by
 intro pins s σ H x y v u Q I rx ry h
 obtain ⟨i,j,rfl,rfl,hz,q⟩:=h
 obtain ⟨t,rfl⟩:=rx
 obtain ⟨t',rfl⟩:=ry
 exact add_str (fun t' tk=>⟨.str (i++j),H,I.tok _,⟨_,rfl⟩,q⟩) hz
theorem vals1 {x:V}{us:List Value}(r:Vals [x] us):∃u,us=[u]/\RelV x u:=by
 cases r with
 |cons r1 r2=>cases r2;exact ⟨_,rfl,r1⟩
theorem vals2 {x y:V}{us:List Value}(r:Vals [x,y] us):∃u w',us=[u,w']/\RelV x u/\RelV y w':=by
 cases r with
 |cons r1 r2 =>
  cases r2 with
  |cons r3 r4=>cases r4;exact ⟨_,_,rfl,r1,r3⟩
theorem zlt:CallR X (.builtin "abs") (fun xs H Q=>∃i,xs=[.int i]/\Q (.int (if i<0 then -i else i)) H):=by
 intro pins s σ H xs us Q I r h
 obtain ⟨i,rfl,q⟩:=h
 obtain ⟨u,rfl,t,rfl⟩:=vals1 r
 exact call_abs_int fun u tk=>⟨.int (if i<0 then -i else i),H,I.tok _,⟨_,rfl⟩,q⟩
theorem zlb (hc:X.calm=true):CallR X (.builtin "max") (fun xs H Q=>∃i j,xs=[.int i,.int j]/\Q (.int (if j > i then j else i)) H):=by
 intro pins s σ H xs us Q I r h
 obtain ⟨i,j,rfl,q⟩:=h
 obtain ⟨u,w',rfl,⟨t,rfl⟩,⟨t',rfl⟩⟩:=vals2 r
 refine max_two_ints (I.ok.hd hc) fun h' tk k=>⟨_,H,I.kept k,?_,q⟩
 by_cases hj:j > i
 ·rw [if_pos hj,if_pos hj];exact ⟨_,rfl⟩
 ·rw [if_neg hj,if_neg hj];exact ⟨_,rfl⟩
theorem zkj (hc:X.calm=true):CallR X (.builtin "min") (fun xs H Q=>∃i j,xs=[.int i,.int j]/\Q (.int (if j<i then j else i)) H):=by
 intro pins s σ H xs us Q I r h
 obtain ⟨i,j,rfl,q⟩:=h
 obtain ⟨u,w',rfl,⟨t,rfl⟩,⟨t',rfl⟩⟩:=vals2 r
 refine min_two_ints (I.ok.hd hc) fun h' tk k=>⟨_,H,I.kept k,?_,q⟩
 by_cases hj:j<i
 ·rw [if_pos hj,if_pos hj];exact ⟨_,rfl⟩
 ·rw [if_neg hj,if_neg hj];exact ⟨_,rfl⟩
theorem zie:CallR X (.type "int") (fun xs H Q=>(∃i,xs=[.int i]/\Q (.int i) H) \/ ∃k,xs=[.bl k]/\Q (.int (if k then 1 else 0)) H):=by
 intro pins s σ H xs us Q I r h
 rcases h with ⟨i,rfl,q⟩|⟨k,rfl,q⟩
 ·obtain ⟨u,rfl,t,rfl⟩:=vals1 r
  exact call_int_int ⟨.int i,H,I,⟨_,rfl⟩,q⟩
 ·obtain ⟨u,rfl,r1⟩:=vals1 r
  cases r1
  exact call_int_bool ⟨.int (if k then 1 else 0),H,I.tok _,⟨_,rfl⟩,q⟩
end
section
variable {prog:Program}{w:World}{A:Around}{E:Value->Shared->Prop}{s:Shared}{K:PySem.W.Frag}{x dx C f:Addr}{mA:Str->Option Value}{name:Str}{v:Value}
end
section
variable {P:Program}{w:World}{H H':Hp}{h h':Heap}{a C dx:Addr}{fs fs':List (Str×V)}
end
section
variable {X:Cx}{pins:List (Addr×Obj)}{σ:St}{H:Hp}{s:Shared}{a C dx:Addr}{fs:List (Str×V)}{f:Str}{v:V}{A:Around}{E:Value->Shared->Prop}
end
section
variable {X:Cx}{o e value:Expr}{f:Str}{pos pos' tpos:Pos}{ta tv:TE}
end
section
variable {X:Cx}{pins:List (Addr×Obj)}{σ:St}{H:Hp}{s:Shared}{A:Around}{E:Value->Shared->Prop}{Q:Value->Shared->Prop}{c:Value}{b:Bool}
end
structure Room (k:Nat)(A:Around):Prop where
 hd:A.handled=none
 dp:A.depth+3*k+5<recursionLimit
 un:A.units+16*k+200<cLine
theorem Room.deeper {k:Nat}{A:Around}(r:Room (k+1) A)(env:Env):Room k (A.deeper env) :=
 ⟨r.hd,by have:=r.dp;show A.depth+1+3*k+5<_;omega,by have:=r.un;show A.units+3+16*k+200<_;omega⟩
theorem Room.depth {k:Nat}{A:Around}(r:Room k A):A.depth<recursionLimit:=by have:=r.dp;omega
theorem Room.units {k:Nat}{A:Around}(r:Room k A):A.units+64<cLine:=by have:=r.un;omega
def tNil:TA:=fun _ H Q=>Q [] H
def tCons (ta:TE)(tr:TA):TA:=fun σ H Q=>ta σ H fun x H1=>tr σ H1 fun xs H2=>Q (x::xs) H2
section
variable {X:Cx}{e:Expr}{es:List Expr}{te:TE}{t:TA}{pos:Pos}
theorem pa_nil:PA X [] tNil:=fun _ _ _ _ H Q I h=>Calls.spliced_nil ⟨[],H,I,.nil,h⟩
theorem zeS (ha:PE X e te)(hr:PA X es t)(hs:starEach (e::es) X.env=(false,eval e X.env)::starEach es X.env:=by rfl):PA X (e::es) (tCons te t):=by
 intro pos pins s σ H Q I h
 rw [hs]
 show wpAny _ _ (spliced ((false,eval e X.env)::backTo pos (starEach es X.env))) _ _ s
 refine Calls.spliced_cons (thn (ha pins s σ H _ I h) fun u s1 ⟨x,H1,I1,r1,q1⟩=>?_)
 exact thn (hr pos pins s1 σ H1 _ I1 q1) fun us s2 ⟨xs,H2,I2,r2,q2⟩=>⟨x::xs,H2,I2,.cons r1 r2,q2⟩
def tTup (t:TA):TE:=fun σ H Q=>t σ H fun xs H1=>xs.length<=sizeLine/\∀p,H1 p=none->Q (.ref p) (upd H1 p (.tup xs))
def tLst (t:TA):TE:=fun σ H Q=>t σ H fun xs H1=>xs.length<=sizeLine/\∀p,H1 p=none->Q (.ref p) (upd H1 p (.lst xs))
theorem zmc {x1}(h:PA X es t):PE X (.Tuple es x1 pos) (tTup t):=by
 intro pins s σ H Q I hq
 refine wpAny_Tuple_spliced (thn (h pos pins s σ H _ I hq) fun us s1 ⟨xs,H1,I1,r,z,q⟩=>⟨by rw [<- r.length];exact z,?_⟩)
 have hf:H1 s1.heap.objs.size=none:=I1.hok.fresh (Nat.le_refl _)
 refine ⟨.ref s1.heap.objs.size,upd H1 s1.heap.objs.size (.tup xs),I1.laid (t':=s1.toks) (fun b u e=>Heap.get?_push_of_some _ e) (Nat.le_refl _) ?_,rfl,q _ hf⟩
 exact ⟨z,us,r,⟨_,Heap.get?_push_size _ rfl,rfl,_,rfl⟩⟩
theorem zmq (h:PA X es t):PE X (.List es pos) (tLst t):=by
 intro pins s σ H Q I hq
 refine wpAny_List_spliced (thn (h pos pins s σ H _ I hq) fun us s1 ⟨xs,H1,I1,r,z,q⟩=>⟨by rw [<- r.length];exact z,?_⟩)
 have hf:H1 s1.heap.objs.size=none:=I1.hok.fresh (Nat.le_refl _)
 refine ⟨.ref s1.heap.objs.size,upd H1 s1.heap.objs.size (.lst xs),I1.laid (t':=s1.toks) (fun b u e=>Heap.get?_push_of_some _ e) (Nat.le_refl _) ?_,rfl,q _ hf⟩
 exact ⟨z,us,0,r,Heap.get?_push_size _ rfl⟩
end
abbrev Sp:=List V->Hp->VK->XK->Prop
abbrev CXT:=List Env->Hp->Shared->XK->Value->Shared->Prop
structure Env0 (P:Program)(w:World)(K:PySem.W.Frag)(mg:Str->Option Value)(base:Heap)(A:Around)(outer:List Env)(s:Shared)(H:Hp):Prop where
 frames:A.frames=some outer
 mod:Mod K mg base
 bs:∀b o,base.get? b=some o->s.heap.get? b=some o/\H b=none
 bsz:base.objs.size<=s.heap.objs.size
 funs:s.heap.FunFrames base outer
 frf:∀b∈frs outer,H b=none
 hok:HOk P w H s.heap
 bare:AllBare s.gens
def CE (outer:List Env)(P:Program)(w:World)(H:Hp)(s:Shared)(Q:VK)(u:Value)(s':Shared):Prop :=
 ∃v H',s'.os=s.os/\AllBare s'.gens/\Un (frs outer) [] H H' s.heap s'.heap/\HOk P w H' s'.heap/\RelV v u/\Q v H'
def CR (CX:CXT)(outer:List Env)(P:Program)(w:World)(H:Hp)(s:Shared)(Q:VK)(E:XK)(r:Result)(s':Shared):Prop :=
 match r with
 | .ok (.ret u)=>CE outer P w H s Q u s'
 | .ok _=>False
 | .error e=>CX outer H s E e s'
structure FnOk (P:Program)(w:World)(K:PySem.W.Frag)(mg:Str->Option Value)(base:Heap)(CX:CXT)(k:Nat)(f:Addr)(fd:FuncData)(ps:List Str)(sp:Sp):Prop where
 len:∀vs H Q E,sp vs H Q E->vs.length=ps.length
 run:∀(A:Around) (outer:List Env) (s:Shared) (H:Hp) (args:Args) (us:List Value) (vs:List V) (Q:VK) (E:XK),Room k A->Env0 P w K mg base A outer s H->BindsTo s fd args (ps.zip us)->Vals vs us->sp vs H Q E ->
  codeAny (model P w) A (.call (.ref f) args) (CR CX outer P w H s Q E) s
theorem FnOk.imp {P:Program}{w:World}{K:PySem.W.Frag}{mg:Str->Option Value}{base:Heap}{CX:CXT}{k:Nat}{f:Addr}{fd:FuncData}{ps:List Str}{sp sp':Sp}(F:FnOk P w K mg base CX k f fd ps sp)
  (h:∀vs H Q E,sp' vs H Q E->sp vs H Q E):FnOk P w K mg base CX k f fd ps sp' :=
 ⟨fun vs H Q E q=>F.len vs H Q E (h _ _ _ _ q),fun A outer s H args us vs Q E hr he hb hv hs=>F.run A outer s H args us vs Q E hr he hb hv (h _ _ _ _ hs)⟩
section
variable {X:Cx}{pins:List (Addr×Obj)}{σ:St}{H:Hp}{s s':Shared}
theorem Inv.env0 (I:Inv X pins σ H s):Env0 X.prog X.w X.K X.mg X.base X.A X.stack s H :=
 ⟨I.ok.frames,I.ok.mod,I.bs,Nat.le_trans I.ok.bsz I.sz,I.stack,I.stkFree,I.hok,I.bare⟩
theorem Inv.after {Q:VK}{u:Value}(I:Inv X pins σ H s)(h:CE X.stack X.prog X.w H s Q u s'):EP X pins σ Q u s':=by
 obtain ⟨v,H',os,bare,un,hok,r,q⟩:=h
 obtain ⟨hh,g,d,t,os'⟩:=s'
 obtain rfl:os'=s.os:=os
 exact ⟨v,H',I.call (h':=hh) (g':=g) (d':=d) (t':=t) (ch:=[]) un hok bare (fun b z=>absurd z (by simp)),r,q⟩
end
def Binds (K:PySem.W.Frag)(fd:FuncData)(ps:List Str)(ds:List Value):Prop :=
 ∀(s:Shared) (us:List Value),K.In s.heap->(us++ds).length=ps.length->BindsTo s fd ⟨us,[]⟩ (ps.zip (us++ds))
theorem Binds.all {K:PySem.W.Frag}{fd:FuncData}{ps:List Str}(h:∀us:List Value,us.length=ps.length->bindArgs fd ⟨us,[]⟩=pure (ps.zip us)):Binds K fd ps []:=fun s us _ hl=>by
 rw [List.append_nil] at hl ⊢
 exact .of_eq (h us hl)
def Passes (CX:CXT)(X:Cx)(E:XK):Prop:=∀(pins:List (Addr×Obj)) (σ:St) (H:Hp) (s:Shared) (e:Value) (s':Shared),Inv X pins σ H s->CX X.stack H s E e s'->X.xe e s'
section
variable {X:Cx}{CX:CXT}{k:Nat}{f C:Addr}{fd:FuncData}{ps:List Str}{sp:Sp}{dvs:List V}{ds:List Value}{E:XK}{x m:Str}{p pos apos:Pos}{e o:Expr}{es:List Expr}{ta:TE}{t:TA}
end
def PK (X:Cx)(kws:List Keyword)(t:TA):Prop :=
 ∀(pos:Pos) (pins:List (Addr×Obj)) (s:Shared) (σ:St) (H:Hp) (Q:List V->Hp->Prop),Inv X pins σ H s->t σ H Q->wpAny (model X.prog X.w) X.A (evalAll ((backToKw pos (keywordEach kws X.env)).map (·.2))) (AP X pins σ Q) X.xe s
section
variable {X:Cx}{CX:CXT}{k:Nat}{f C:Addr}{fd:FuncData}{ps ks:List Str}{sp:Sp}{E:XK}{x m:Str}{p pos apos kpos:Pos}{e o:Expr}{es:List Expr}{kws:List Keyword}{te ta:TE}{t tk:TA}{nm:Option Str}
variable {g:List Value->List Value->List Value}{gV:List V->List V->List V}
end
structure FnScope (N P:List Str)(sc:Scope):Prop where
 kind:sc.kind=.function
 co:sc.isCoroutine=false
 gen:sc.isGenerator=false
 nd:N.Nodup
 pre:N.take P.length=P
 par:∀x∈P,sc.names.lookup x=some .local \/ sc.names.lookup x=some .cell
 nofree:∀y∈sc.names,y.2 ≠ .free
theorem zhQ {kindOf:Str->Option NameKind}{x:Str}:∀{binds:List (Str×Value)} {m:Str->Option Value},(∀v,(x,v)∉binds)->bindL kindOf binds m x=m x
 | [],_,_=>rfl
 | (n,v)::r,m,h=>by
  unfold bindL
  rw [zhQ fun w hw=>h w (List.mem_cons_of_mem _ hw)]
  split
  ·have:x≠n:=by rintro rfl;exact h v List.mem_cons_self
   simp [this]
  ·rfl
theorem zhX {kindOf:Str->Option NameKind}{x:Str}:∀{binds:List (Str×Value)} {m:Str->Option Value},(∀v,(x,v)∉binds)->bindC kindOf binds m x=m x
 | [],_,_=>rfl
 | (n,v)::r,m,h=>by
  unfold bindC
  rw [zhX fun w hw=>h w (List.mem_cons_of_mem _ hw)]
  split
  ·rfl
  ·have:x≠n:=by rintro rfl;exact h v List.mem_cons_self
   simp [this]
theorem zh7 {kindOf:Str->Option NameKind}{x:Str}{v:Value}:∀{P:List Str} {vs:List Value} {i:Nat} {m:Str->Option Value},P.Nodup->P[i]?=some x->vs[i]?=some v->kindOf x=some .local ->
  bindL kindOf (P.zip vs) m x=some v
 | [],_,_,_,_,h,_,_=>by simp at h
 |_::_,[],_,_,_,_,h,_=>by simp at h
 |p::P,w::vs,0,m,nd,h1,h2,hk=>by
  simp at h1 h2;subst h1;subst h2
  show bindL kindOf ((p,w)::P.zip vs) m p=_
  unfold bindL
  rw [zhQ fun v hv=>(List.nodup_cons.mp nd).1 (List.of_mem_zip hv).1,if_pos hk]
  simp
 |p::P,w::vs,i+1,m,nd,h1,h2,hk=>by
  show bindL kindOf ((p,w)::P.zip vs) m x=_
  unfold bindL
  exact zh7 (i:=i) (List.nodup_cons.mp nd).2 (by simpa using h1) (by simpa using h2) hk
theorem zic {kindOf:Str->Option NameKind}{x:Str}{v:Value}:∀{P:List Str} {vs:List Value} {i:Nat} {m:Str->Option Value},P.Nodup->P[i]?=some x->vs[i]?=some v->kindOf x≠some .local ->
  bindC kindOf (P.zip vs) m x=some v
 | [],_,_,_,_,h,_,_=>by simp at h
 |_::_,[],_,_,_,_,h,_=>by simp at h
 |p::P,w::vs,0,m,nd,h1,h2,hk=>by
  simp at h1 h2;subst h1;subst h2
  show bindC kindOf ((p,w)::P.zip vs) m p=_
  unfold bindC
  rw [zhX fun v hv=>(List.nodup_cons.mp nd).1 (List.of_mem_zip hv).1,if_neg hk]
  simp
 |p::P,w::vs,i+1,m,nd,h1,h2,hk=>by
  show bindC kindOf ((p,w)::P.zip vs) m x=_
  unfold bindC
  exact zic (i:=i) (List.nodup_cons.mp nd).2 (by simpa using h1) (by simpa using h2) hk
def start (N:List Str)(vs:List V):St:=vs.map some++List.replicate (N.length - vs.length) none
def cxOf (CX:CXT)(P:Program)(w:World)(K:PySem.W.Frag)(mg:Str->Option Value)(base:Heap)(N:List Str)(qual:Str)(scope:Scope)(f:Addr)(cd:Value)(A:Around)(outer:List Env)(s:Shared)(H:Hp)(E:XK):Cx where
 prog:=P
 w:=w
 K:=K
 mg:=mg
 base:=base
 A:=A.deeper (envOfC qual scope s.heap.objs.size f cd)
 N:=N
 s₀:=s
 H₀:=H
 env:=envOfC qual scope s.heap.objs.size f cd
 outer:=outer
 stack:=envOfC qual scope s.heap.objs.size f cd::outer
 ex:=[]
 calm:=true
 fn:=fun _=>true
 pn:=[]
 xe:=fun e s'=>wpAny (model P w) (A.deeper (envOfC qual scope s.heap.objs.size f cd)) (leaving (envOfC qual scope s.heap.objs.size f cd) e) (fun _ s''=>CX outer H s E e s'') (fun e' s''=>CX outer H s E e' s'') s'
theorem zjg {sc:Scope}{n:Nat}{x:Str}(h:sc.names.lookup x=some .cell):∃c,(cellsFrom n sc.names []).lookup x=some c:=by
 have q:=PySem.W.cellsFrom_some sc.names n [] (.inl h)
 exact Option.isSome_iff_exists.mp q
theorem zle {CX:CXT}{P:Program}{w:World}{K:PySem.W.Frag}{mg:Str->Option Value}{base:Heap}{N ps:List Str}{qual:Str}{scope:Scope}{f:Addr}{cd:Value}{A:Around}{outer:List Env}{s s1:Shared}{H:Hp}{E:XK}{us:List Value}{vs:List V}
  (S:FnScope N ps scope) (hd:A.handled=none) (e0:Env0 P w K mg base A outer s H) (hl:vs.length=ps.length) (r:Vals vs us)
  (x:InCallC s s.heap.objs.size (bindL (envOfC qual scope s.heap.objs.size f cd).kindOf (ps.zip us) fun _=>none) (cellsFrom (s.heap.objs.size+1) scope.names []) (bindC (envOfC qual scope s.heap.objs.size f cd).kindOf (ps.zip us) fun _=>none) s1) :
  Inv (cxOf CX P w K mg base N qual scope f cd A outer s H E) [] (start N vs) H s1:=by
 have hpl:ps.length<=N.length:=by have:=congrArg List.length S.pre;rw [List.length_take] at this;omega
 obtain ⟨h1,tk,rfl,hk⟩:=x.done
 have noA:∀b:Addr,b∉(cxOf CX P w K mg base N qual scope f cd A outer s H E).ex:=fun b z=>absurd (show b∈([]:List Addr) from z) (by simp)
 refine ⟨⟨e0.mod,S.kind,rfl,rfl,Nat.le_refl _,fun y z c h1 h2=>?_,fun y hy=>?_,fun y c _ h=>?_,fun _=>hd,Around.frames_deeper e0.frames,.inr ⟨rfl,rfl⟩,fun b z=>absurd z (noA b),e0.bs,e0.bsz,fun b _ _=>noA b,fun b z=>absurd z (noA b),e0.funs,e0.frf⟩,
  rfl,e0.bare,Un.kept hk,⟨_,x.toInCall.ns,fun i y v h1 h2 h3=>?_⟩,fun y c h=>⟨_,x.cell y c h⟩,e0.hok.fresh (Nat.le_refl _),fun y c h=>?_,fun p hp=>absurd (show p∈([]:List (Addr×Obj)) from hp) (by simp),e0.hok.kept hk,?_⟩
 ·exact name_of_addr x.apart (PySem.mem_of_lookup h1) (PySem.mem_of_lookup h2)
 ·have hy:scope.names.lookup y=some .cell \/ scope.names.lookup y=some .free:=hy
  rcases hy with hy|hy
  ·exact zjg hy
  ·exact absurd rfl (S.nofree _ (PySem.mem_of_lookup hy))
 ·exact Nat.le_of_lt (x.above y c (PySem.mem_of_lookup h))
 ·have hi:i<vs.length:=by
   unfold start at h2
   by_cases hi:i<vs.length
   ·exact hi
   ·rw [List.getElem?_append_right (by simpa using hi)] at h2
    rw [List.getElem?_replicate] at h2
    split at h2 <;> cases h2
  have ha:vs[i]?=some v:=by
   unfold start at h2
   rw [List.getElem?_append_left (by simpa using hi),List.getElem?_map] at h2
   cases e:vs[i]? with
   |none=>rw [e] at h2;cases h2
   |some a=>rw [e] at h2;cases h2;rfl
  obtain ⟨u,hu,rv⟩:=r.get ha
  have hp:ps[i]?=some y:=by
   rw [<- S.pre,List.getElem?_take_of_lt (by omega)];exact h1
  have ndP:ps.Nodup:=by rw [<- S.pre];exact S.nd.sublist (List.take_sublist _ _)
  refine ⟨u,rv,?_⟩
  rcases S.par y (List.mem_of_getElem? hp) with k|k
  ·exact .inl ⟨k,zh7 ndP hp hu k⟩
  ·obtain ⟨c,e⟩:=zjg (n:=s.heap.objs.size+1) k
   refine .inr ⟨.inl k,c,e,?_⟩
   have q:=x.cell y c e
   rw [zic ndP hp hu (by show scope.names.lookup y≠_;rw [k];decide)] at q
   exact q
 ·exact e0.hok.fresh (Nat.le_of_lt (x.above y c (PySem.mem_of_lookup h)))
 ·unfold start
  show _=N.length
  rw [List.length_append,List.length_map,List.length_replicate]
  omega
theorem zoX {CX:CXT}{P:Program}{w:World}{K:PySem.W.Frag}{mg:Str->Option Value}{base:Heap}{k:Nat}{f:Addr}{name qual:Str}{params:Arguments}{body:List Stmt}{scope:Scope}{dV kV doc pm cdv ct oc:Value}{an od:Option Addr}
  {osl:Array (Option Value)} {N ps:List Str} {sp:Sp} (lk:K.lookup f=some ⟨oc,od,.func (PySem.W.fnOf name qual params body scope dV kV doc pm an cdv ct),osl⟩) (hcd:PySem.W.codeIn K cdv qual=true) (S:FnScope N ps scope)
  (len:∀vs H Q E,sp vs H Q E->vs.length=ps.length)
  (hbody:∀(A:Around) (outer:List Env) (s:Shared) (H:Hp) (vs:List V) (Q:VK) (E:XK),Room k (A.deeper (envOfC qual scope s.heap.objs.size f cdv))->sp vs H Q E ->
   ∃t,PSs (cxOf CX P w K mg base N qual scope f cdv A outer s H E) body t/\t { nx:=fun _ H'=>Q .non H',rt:=Q } (start N vs) H) :
  FnOk P w K mg base CX (k+1) f (PySem.W.fnOf name qual params body scope dV kV doc pm an cdv ct) ps sp:=by
 refine ⟨len,fun A outer s H args us vs Q E hr e0 hb r hsp=>?_⟩
 have hl:=len _ _ _ _ hsp
 have KX:K.In s.heap:=e0.mod.kin.keeps fun b o e=>(e0.bs b o e).1
 have lim:s.heap.NoLimit:=e0.mod.nolimit.keeps fun b o e=>(e0.bs b o e).1
 have hkind:∀y∈ps.zip us,scope.names.lookup y.1=some .local \/ (scope.names.lookup y.1=some .cell/\((cellsFrom (s.heap.objs.size+1) scope.names []).lookup y.1).isSome=true):=fun ⟨n,v⟩ hy=>by
  rcases S.par n (List.of_mem_zip hy).1 with q|q
  ·exact .inl q
  ·exact .inr ⟨q,PySem.W.cellsFrom_some _ _ _ (.inl q)⟩
 refine codeAny_call_function hr.depth (KX _ _ lk) rfl S.co S.gen rfl (PySem.W.codeRec_of KX hcd) (hb _ _ _ _ ?_)
 refine wpAny_newFunctionEnv_cells S.kind hkind fun env he s1 x=>?_
 subst he
 refine ⟨lim.keeps x.toInCall.keep,codeAny_func ?_⟩
 obtain ⟨t,ht,hq⟩:=hbody A outer s H vs Q E (hr.deeper _) hsp
 have I:Inv (cxOf CX P w K mg base N qual scope f cdv A outer s H E) [] (start N vs) H s1:=zle S hr.hd e0 hl r x
 refine wpAny_mono (ht [] s1 (start N vs) H _ I hq) (fun fl s' hs=>?_) fun e s' hs=>hs
 have fin:∀{σ':St} {H':Hp} {v:V} {u:Value},Inv (cxOf CX P w K mg base N qual scope f cdv A outer s H E) [] σ' H' s'->RelV v u->Q v H'->CE outer P w H s Q u s' :=
  fun {σ' H' v u} J rv q=>⟨v,H',J.os,J.bare,J.base,J.hok,rv,q⟩
 cases fl with
 |ret u =>
  obtain ⟨v,σ',H',J,rv,q⟩:=hs
  exact fin J rv q
 |next =>
  obtain ⟨σ',H',J,q⟩:=hs
  exact fin (v:=V.non) (u:=Value.none) J rfl q
 |brk =>
  obtain ⟨_,_,_,q⟩:=hs
  exact False.elim q
 |cont =>
  obtain ⟨_,_,_,q⟩:=hs
  exact False.elim q
section
variable {X:Cx}{x:Str}{p pos:Pos}{e:Expr}{es:List Expr}{t:TA}{id T:String}{r:List V->Hp->VK->Prop}
def tCB (r:List V->Hp->VK->Prop)(t:TA):TE:=fun σ H Q=>t σ H fun vs H1=>r vs H1 Q
theorem zi4 (hc:CallR X (.builtin id) r)(hg:Gl X x)(hm:X.mg x=none)(hv:bootBuiltins x=some (.builtin id))(ha:PA X (e::es) t)(hn:x ≠ "__name__":=by decide)(hdb:(x == ("__debug__":Str))=false:=by decide)
  (he:starEach (e::es) X.env=(false,eval e X.env)::starEach es X.env:=by rfl) (hpl:(backTo pos (starEach es X.env)).any (·.1)=false:=by rfl):PE X (.Call (.Name x p) (e::es) [] pos) (tCB r t):=by
 intro pins s σ H Q I h
 refine wpAny_Call_Name_kw (zg9 I hg hm hv ?_ hn hdb)
 exact PyProof.Rows.callWith_builtin1 (thn (ha pos pins s σ H _ I h) fun us s1 ⟨vs,H1,I1,r1,q1⟩=>hc pins s1 σ H1 vs us Q I1 r1 q1) he hpl
theorem zir (hc:CallR X (.type T) r)(hg:Gl X x)(hm:X.mg x=none)(hv:bootBuiltins x=some (.type T))(ha:PA X (e::es) t)(hn:x ≠ "__name__":=by decide)(hdb:(x == ("__debug__":Str))=false:=by decide)
  (he:starEach (e::es) X.env=(false,eval e X.env)::starEach es X.env:=by rfl) (hpl:(backTo pos (starEach es X.env)).any (·.1)=false:=by rfl):PE X (.Call (.Name x p) (e::es) [] pos) (tCB r t):=by
 intro pins s σ H Q I h
 refine wpAny_Call_Name_kw (zg9 I hg hm hv ?_ hn hdb)
 exact PyProof.Rows.callWith_type1 (thn (ha pos pins s σ H _ I h) fun us s1 ⟨vs,H1,I1,r1,q1⟩=>hc pins s1 σ H1 vs us Q I1 r1 q1) he hpl
end
end L2
namespace HT
open PySem PyProof.Rows
section
open PySem.SeqAt
open PySem.AutoSeq1 (wpAny_loadPart')
open PySem.MeetsSeq PySem.MeetsSeq2 PySem.MeetsSeq3
end
section
variable {prog:Program}{w:World}{A:Around}{E:Value->Shared->Prop}{s:Shared}
theorem cat_tup {t b:Addr}{vs ws:List Value}{Q:Value->Shared->Prop}(ht:IsTup s.heap t vs.toArray)(hb:IsTup s.heap b ws.toArray)(hv:vs≠[])
  (h1:ws=[]->Q (.ref t) s) (h2:ws≠[]->Q (.ref s.heap.objs.size) { s with heap:=s.heap.push { cls:=.type "tuple",data:=.seq (vs++ws).toArray } })
  (hsz:vs.length+ws.length<=sizeLine):wpAny (model prog w) A (binaryOp .Add (.ref t) (.ref b)) Q E s:=by
 obtain ⟨⟨cls,dd,data,sl⟩,ho,hc,n,hd⟩:=id ht
 obtain ⟨⟨cls2,dd2,data2,sl2⟩,ho2,hc2,n2,hd2⟩:=id hb
 simp only at hc hd hc2 hd2
 subst hc hd hc2 hd2
 have e:vs.toArray++ws.toArray=(vs++ws).toArray:=by simp
 by_cases hw:ws=[]
 ·exact concat_meets ⟨_,ho,rfl⟩ ⟨_,ho2,rfl⟩ noFill_tuple_add seq_tuple_add PySem.F.slot_tuple_add PySem.F.entry_tuple_add (PySem.F.args_tuple_add_2 _ _)
   (tuple_addW1 t b vs.toArray ws.toArray n n2 dd dd2 sl sl2 (by simpa using hv) (by simp [hw])) ⟨ho,ho2,h1 hw⟩
 ·refine concat_meets ⟨_,ho,rfl⟩ ⟨_,ho2,rfl⟩ noFill_tuple_add seq_tuple_add PySem.F.slot_tuple_add PySem.F.entry_tuple_add (PySem.F.args_tuple_add_2 _ _)
   (tuple_addW2 t b vs.toArray ws.toArray n n2 dd dd2 sl sl2 (by simpa using hv) (by simpa using hw) (by rw [List.size_toArray,List.size_toArray];exact hsz)) ⟨ho,ho2,?_⟩
  rw [e]
  exact h2 hw
def sIx (n d:Nat):Option Int->Nat
 |none=>d
 |some v=>if v<0 then (v+(n:Int)).toNat else min v.toNat n
theorem sIx_le (n d:Nat)(hd:d<=n)(o:Option Int):sIx n d o<=n:=by
 cases o with
 |none=>exact hd
 |some v =>
  show (if v<0 then (v+(n:Int)).toNat else min v.toNat n)<=n
  by_cases hv:v<0
  ·rw [if_pos hv];omega
  ·rw [if_neg hv];exact Nat.min_le_right _ _
theorem zkM (v:Int)(n d:Nat):(if v<0 then max (v+(n:Int)) 0 else min v (n:Int))=((sIx n d (some v):Nat):Int):=by
 show (if v<0 then max (v+(n:Int)) 0 else min v (n:Int))=(((if v<0 then (v+(n:Int)).toNat else min v.toNat n):Nat):Int)
 by_cases hv:v<0
 ·simp only [if_pos hv];omega
 ·simp only [if_neg hv];omega
theorem zjB (lo hi:Option Int)(n:Nat):Builtin.Slice.sliceAdjust lo hi 1 (n:Int)=(((sIx n 0 lo:Nat):Int),((sIx n n hi:Nat):Int)):=by
 have h1:¬((1:Int)<0):=by omega
 unfold Builtin.Slice.sliceAdjust
 simp only [h1,if_false]
 refine Prod.ext ?_ ?_
 ·cases lo with
  |none=>rfl
  |some v=>exact zkM v n 0
 ·cases hi with
  |none=>rfl
  |some v=>exact zkM v n n
theorem zjI (i j:Nat):Builtin.Slice.slicePlaces (i:Int) (j:Int) 1=j - i:=by
 unfold Builtin.Slice.slicePlaces
 have h1:(1:Int) > 0:=by omega
 simp only [h1,if_true,Int.ediv_one]
 split <;> omega
theorem zg4 {v:Value}{o:Option Int}{Q:Option Int->Shared->Prop}(p:IsPart v o)(h:Q o s):wpAny (model prog w) A (Builtin.Slice.slicePartIndex v) Q E s:=by
 cases p with
 |none=>exact slicePart_none h
 |int i t=>exact slicePart_int h
theorem sliceApplied_gen {sl:Addr}{vl vu:Value}{lo hi:Option Int}{n:Nat}{Q:Int×Int×Nat->Shared->Prop}(hs:s.heap.IsSliceOf sl vl vu .none)(pl:IsPart vl lo)(pu:IsPart vu hi)
  (h:Q (((sIx n 0 lo:Nat):Int),1,sIx n n hi - sIx n 0 lo) s):wpAny (model prog w) A (Builtin.Slice.sliceApplied (.ref sl) (pure (n:Int))) Q E s:=by
 obtain ⟨os,hos,hcs,hds⟩:=id hs
 unfold Builtin.Slice.sliceApplied Builtin.Slice.sliceFields
 refine wpAny_bind (wpAny_bind (wpAny_field hos hds (x:=vl) rfl (wpAny_bind (wpAny_field hos hds (x:=vu) rfl (wpAny_bind (wpAny_field hos hds (x:=.none) rfl (wpAny_pure ?_)))))))
 refine wpAny_bind (slicePart_none ?_)
 show wpAny _ _ (if ((1:Int) == 0)=true then _ else _) _ _ s
 rw [if_neg (by decide)]
 refine wpAny_bind (zg4 pl (wpAny_bind (zg4 pu (wpAny_bind (wpAny_pure ?_)))))
 show wpAny _ _ (match Builtin.Slice.sliceAdjust lo hi 1 (n:Int) with|(lo,hi)=>pure (lo,(1:Int),Builtin.Slice.slicePlaces lo hi 1)) _ _ s
 rw [zjB lo hi n]
 show wpAny _ _ (pure (((sIx n 0 lo:Nat):Int),(1:Int),Builtin.Slice.slicePlaces ((sIx n 0 lo:Nat):Int) ((sIx n n hi:Nat):Int) 1)) _ _ s
 rw [zjI]
 exact wpAny_pure h
theorem zlr (xs:Array Value)(i k:Nat):((List.range k).filterMap fun (m:Nat)=>xs[((i:Int)+(m:Int)*1).toNat]?).toArray=((xs.toList.drop i).take k).toArray:=by
 have e:(fun (m:Nat)=>xs[((i:Int)+(m:Int)*1).toNat]?)=fun m=>xs[i+m]?:=by
  funext m
  have:((i:Int)+(m:Int)*1).toNat=i+m:=by omega
  rw [this]
 rw [e]
 have:=pick_run xs i k
 rw [List.filterMap_map] at this
 have e2:((fun x=>xs[x]?) ∘ fun x=>i+x)=fun m=>xs[i+m]?:=rfl
 rw [e2] at this
 rw [this]
theorem getItem_tuple_cut {t sl:Addr}{items:Array Value}{vl vu:Value}{lo hi:Option Int}{Q:Value->Shared->Prop}(ht:IsTup s.heap t items)(hs:s.heap.IsSliceOf sl vl vu .none)(pl:IsPart vl lo)(pu:IsPart vu hi)
  (hw:¬(sIx items.size 0 lo=0/\sIx items.size items.size hi=items.size))
  (h:Q (.ref s.heap.objs.size) { s with heap:=s.heap.push { cls:=.type "tuple",data:=.seq ((items.toList.drop (sIx items.size 0 lo)).take (sIx items.size items.size hi - sIx items.size 0 lo)).toArray } })
  (hsz:items.size<=sizeLine):wpAny (model prog w) A (getItem (.ref t) (.ref sl)) Q E s:=by
 have htake:sizeOk (.seq ((items.toList.drop (sIx items.size 0 lo)).take (sIx items.size items.size hi - sIx items.size 0 lo)).toArray):=by
  show ((items.toList.drop (sIx items.size 0 lo)).take (sIx items.size items.size hi - sIx items.size 0 lo)).toArray.size<=sizeLine
  rw [List.size_toArray,List.length_take,List.length_drop,Array.length_toList]
  omega
 have hj:sIx items.size items.size hi<=items.size:=sIx_le _ _ (Nat.le_refl _) hi
 obtain ⟨os,hos,hcs,hds⟩:=id hs
 have hTs:s.TypeIs (.ref sl) "slice":=⟨os,hos,hcs⟩
 unfold getItem
 try with_reducible refine wpAny_holding ?_
 first|refine wpAny_bind (wpAny_pure ?_)|skip
 refine wpAny_bind (wpAny_sequenceKey ht.typeIs (by decide) ?_)
 refine wpAny_bind (wpAny_callSpecial?_slot (name:=Str.ofString "__getitem__") ht.typeIs PyProof.Rows.slot_tuple_getitem
  (wpAny_call_entry PyProof.Rows.slot_tuple_getitem ht.typeIs entry_tuple_getitem ?_ (args_tuple_getitem _ _)))
 show wpAny _ _ (Builtin.Tuple.tupleItemsOf (.ref t) >>= _) _ _ s
 refine wpAny_bind (tupleItemsOf_ ht ?_)
 refine wpAny_bind (wpAny_typeOf hTs ?_)
 rw [if_pos (by decide)]
 refine wpAny_bind (sliceApplied_gen hs pl pu ?_)
 have hno:¬((((sIx items.size 0 lo:Nat):Int) == 0 && (1:Int) == 1 && (sIx items.size items.size hi - sIx items.size 0 lo) == items.size)=true):=by
  intro q
  rw [Bool.and_eq_true,Bool.and_eq_true] at q
  have q1:((sIx items.size 0 lo:Nat):Int)=0:=eq_of_beq q.1.1
  have q2:sIx items.size items.size hi - sIx items.size 0 lo=items.size:=eq_of_beq q.2
  exact hw ⟨by omega,by omega⟩
 show wpAny _ _ (if (((sIx items.size 0 lo:Nat):Int) == 0 && (1:Int) == 1 && (sIx items.size items.size hi - sIx items.size 0 lo) == items.size)=true then _ else _) _ _ s
 rw [if_neg hno,zlr]
 first
  | exact wpAny_bind (m:=Builtin.Tuple.tupleExact _) (wpAny_newObj_type (wpAny_pure ⟨_,rfl,wpAny_pure h⟩) htake)
  | exact wpAny_bind (m:=Builtin.Tuple.tupleExact _) (wpAny_newObj_type (wpAny_bind (wpAny_pure (wpAny_pure ⟨_,rfl,wpAny_pure h⟩))) htake)
  | exact wpAny_bind (wpAny_bind (m:=Builtin.Tuple.tupleExact _) (wpAny_newObj_type (wpAny_pure (wpAny_pure ⟨_,rfl,wpAny_pure h⟩)) htake))
  | exact wpAny_bind (wpAny_bind (m:=Builtin.Tuple.tupleExact _) (wpAny_newObj_type (wpAny_pure ⟨_,rfl,wpAny_pure h⟩) htake))
end
end HT
namespace L2
open PySem PySem.Spec PyProof.Rows
abbrev TO:=St->Hp->(Option Int->Hp->Prop)->Prop
def PO (X:Cx)(e:Option Expr)(t:TO):Prop :=
 ∀(pins:List (Addr×Obj)) (s:Shared) (σ:St) (H:Hp) (Q:Option Int->Hp->Prop),Inv X pins σ H s->t σ H Q ->
  wpAny (model X.prog X.w) X.A (evalPart e X.env) (fun u s'=>∃o H',Inv X pins σ H' s'/\IsPart u o/\Q o H') X.xe s
def tNoPart:TO:=fun _ H Q=>Q none H
theorem zjA {ns:List Int}:∀{us:List Value},Vals (ns.map V.int) us->IntsAre us ns:=by
 induction ns with
 |nil=>intro us r;rw [List.map_nil] at r;cases r;exact .nil
 |cons n ns ih =>
  intro us r
  rw [List.map_cons] at r
  cases r with
  |cons r1 r2 =>
   obtain ⟨t,e⟩:=r1
   subst e
   exact .cons n t (ih r2)
section
variable {X:Cx}{e:Expr}{te:TE}{lo hi:Option Expr}{tl th:TO}{pos p2:Pos}
theorem zmD:PO X none tNoPart:=by
 intro pins s σ H Q I h
 rw [evalPart_none]
 exact wpAny_pure ⟨none,H,I,.none,h⟩
def SlR (X:Cx)(r:V->Option Int->Option Int->Hp->VK->Prop):Prop :=
 ∀(pins:List (Addr×Obj)) (s:Shared) (σ:St) (H:Hp) (x:V) (v vl vu:Value) (lo hi:Option Int) (sl:Addr) (Q:VK),Inv X pins σ H s->RelV x v->s.heap.IsSliceOf sl vl vu .none->IsPart vl lo->IsPart vu hi->r x lo hi H Q ->
  ∃T id,typeLookup (.type T) "__getitem__"=pure (some (.builtin id))/\s.TypeIs v T/\wpAny (model X.prog X.w) X.A (getItem v (.ref sl)) (EP X pins σ Q) X.xe s
def tSl (r:V->Option Int->Option Int->Hp->VK->Prop)(te:TE)(tl th:TO):TE:=fun σ H Q=>te σ H fun x H1=>tl σ H1 fun l H2=>th σ H2 fun u H3=>r x l u H3 Q
theorem zl3 {r:V->Option Int->Option Int->Hp->VK->Prop}(hr:SlR X r)(he:PE X e te)(hl:PO X lo tl)(hu:PO X hi th):PE X (.Subscript e (.Slice lo hi none p2) pos) (tSl r te tl th):=by
 intro pins s σ H Q I h
 refine Subscript_ (thn (he pins s σ H _ I h) fun v s1 ⟨x,H1,I1,r1,q1⟩=>?_)
 refine wpAny_Slice (thn (hl pins s1 σ H1 _ I1 q1) fun vl s2 ⟨l,H2,I2,pl,q2⟩=>thn (hu pins s2 σ H2 _ I2 q2) fun vu s3 ⟨u,H3,I3,pu,q3⟩=>?_)
 rw [evalPart_none]
 refine wpAny_pure ?_
 have I4:Inv X pins σ H3 { s3 with heap:=s3.heap.push { cls:=.type "slice",data:=.fields #[vl,vu,.none] } }:=I3.kept (t':=s3.toks) fun b ob q=>Heap.get?_push_of_some _ q
 obtain ⟨T,id,hT,ht,hg⟩:=hr pins { s3 with heap:=s3.heap.push { cls:=.type "slice",data:=.fields #[vl,vu,.none] } } σ H3 x v vl vu l u s3.heap.objs.size Q I4 r1 (Heap.IsSliceOf.new ..) pl pu q3
 show wpAny (model X.prog X.w) X.A (subscriptTail e (.Slice lo hi none p2) v (.ref s3.heap.objs.size)) (EP X pins σ Q) X.xe { s3 with heap:=s3.heap.push { cls:=.type "slice",data:=.fields #[vl,vu,.none] } }
 exact tail_any (ops:=[.ref s3.heap.objs.size,v]) ht hT hg (by with_unfolding_all rfl)
def cutV (xs:List V)(lo hi:Option Int):List V:=(xs.drop (HT.sIx xs.length 0 lo)).take (HT.sIx xs.length xs.length hi - HT.sIx xs.length 0 lo)
theorem zgy (xs:List V)(lo hi:Option Int):(cutV xs lo hi).length<=xs.length:=by
 unfold cutV
 rw [List.length_take,List.length_drop]
 omega
def rSlT (K:PySem.W.Frag):V->Option Int->Option Int->Hp->VK->Prop:=fun x lo hi H Q=>∃a xs,x=.ref a/\SqT K H a xs /\
 ¬(HT.sIx xs.length 0 lo=0/\HT.sIx xs.length xs.length hi=xs.length)/\∀p,H p=none->Q (.ref p) (upd H p (.tup (cutV xs lo hi)))
theorem znS:SlR X (rSlT X.K):=by
 intro pins s σ H x v vl vu lo hi sl Q I rx hs pl pu h
 obtain ⟨a,xs,rfl,hx,hw,q⟩:=h
 cases rx
 obtain ⟨its,r,ht,hz⟩:=I.tuple hx
 have hlen:its.toArray.size=xs.length:=by rw [List.size_toArray];exact r.length.symm
 refine ⟨"tuple",_,PyProof.Rows.slot_tuple_getitem.lookup,ht.typeIs,?_⟩
 refine HT.getItem_tuple_cut ht hs pl pu (by rw [hlen];exact hw) ?_ (by rw [hlen];exact hz)
 rw [hlen]
 refine ⟨.ref s.heap.objs.size,_,I.laid (t':=s.toks) (o:=.tup (cutV xs lo hi)) (fun b ob q=>Heap.get?_push_of_some _ q) (Nat.le_refl _) ?_,rfl,q _ (I.hok.fresh (Nat.le_refl _))⟩
 exact ⟨Nat.le_trans (zgy xs lo hi) hz,_,(r.drop (HT.sIx xs.length 0 lo)).take (HT.sIx xs.length xs.length hi - HT.sIx xs.length 0 lo),IsTup.new _ _⟩
def rCatT (K:PySem.W.Frag):R2:=fun x y H Q=>∃a b xs ys,x=.ref a/\y=.ref b/\SqT K H a xs/\SqT K H b ys/\xs≠[]/\xs.length+ys.length<=sizeLine /\
 (ys=[]->Q (.ref a) H)/\(ys≠[]->∀p,H p=none->Q (.ref p) (upd H p (.tup (xs++ys))))
theorem Vals.nil_iff {xs:List V}{us:List Value}(r:Vals xs us):us=[] ↔ xs=[]:=by
 cases r with
 |nil=>simp
 |cons _ _=>simp
theorem znp:OpR X (binaryOp .Add) (rCatT X.K):=by
 intro pins s σ H x y v u Q I rx ry h
 obtain ⟨a,b,xs,ys,rfl,rfl,ha,hb,hx,hz,q1,q2⟩:=h
 cases rx
 cases ry
 obtain ⟨its,r1,p1,_⟩:=I.tuple ha
 obtain ⟨its2,r2,p2,_⟩:=I.tuple hb
 refine HT.cat_tup p1 p2 (fun z=>hx (r1.nil_iff.mp z)) (fun z=>⟨.ref a,H,I,rfl,q1 (r2.nil_iff.mp z)⟩) (fun z=>?_) (by rw [<- r1.length,<- r2.length];exact hz)
 refine ⟨.ref s.heap.objs.size,_,I.laid (t':=s.toks) (o:=.tup (xs++ys)) (fun b ob q=>Heap.get?_push_of_some _ q) (Nat.le_refl _) ?_,rfl,q2 (fun w=>z (r2.nil_iff.mpr w)) _ (I.hok.fresh (Nat.le_refl _))⟩
 exact ⟨by rw [List.length_append];exact hz,_,r1.append r2,IsTup.new _ _⟩
end
def ixN (n:Nat)(i:Int):Option Nat:=if 0<=i then (if i<n then some i.toNat else none) else if -(n:Int)<=i then some (i+n).toNat else none
def atI {α:Type}(xs:List α)(i:Int):Option α:=(ixN xs.length i).bind fun j=>xs[j]?
theorem zjQ {n:Nat}{i:Int}{j:Nat}(h:ixN n i=some j):seqIndex? i n=some j/\j<n/\-(n:Int)<=i/\i<n:=by
 unfold ixN at h
 by_cases h0:0<=i
 ·rw [if_pos h0] at h
  by_cases h1:i<n
  ·rw [if_pos h1] at h
   have e:i.toNat=j:=Option.some.inj h
   exact ⟨by rw [seqIndex_of h0 h1,e],by omega,by omega,h1⟩
  ·rw [if_neg h1] at h;cases h
 ·rw [if_neg h0] at h
  by_cases h1:-(n:Int)<=i
  ·rw [if_pos h1] at h
   have e:(i+n).toNat=j:=Option.some.inj h
   exact ⟨by rw [seqIndex_neg (by omega) h1,e],by omega,h1,by omega⟩
  ·rw [if_neg h1] at h;cases h
theorem ziz {α:Type}{xs:List α}{i:Int}{v:α}(h:atI xs i=some v):∃j,seqIndex? i xs.length=some j/\xs[j]?=some v/\j<xs.length/\-(xs.length:Int)<=i/\i<xs.length:=by
 unfold atI at h
 cases e:ixN xs.length i with
 |none=>rw [e] at h;cases h
 |some j =>
  rw [e] at h
  obtain ⟨h1,h2,h3,h4⟩:=zjQ e
  exact ⟨j,h1,h,h2,h3,h4⟩
def PlainIx (b:Expr):Prop:=∀o i,subscripted b false o i=operate [o,i] (getItem o i)
def IxR (X:Cx)(r:R2):Prop :=
 ∀(value slice:Expr) (pins:List (Addr×Obj)) (s:Shared) (σ:St) (H:Hp) (x y:V) (v u:Value) (Q:VK),Inv X pins σ H s->RelV x v->RelV y u->r x y H Q ->
  subscripted slice false v u=operate [v,u] (getItem v u)->wpAny (model X.prog X.w) X.A (subscriptTail value slice v u) (EP X pins σ Q) X.xe s
def MtR (X:Cx)(id:String)(r:V->List V->Hp->VK->Prop):Prop :=
 ∀(pins:List (Addr×Obj)) (s:Shared) (σ:St) (H:Hp) (x:V) (xs:List V) (v:Value) (us:List Value) (Q:VK),Inv X pins σ H s->RelV x v->Vals xs us->r x xs H Q ->
  wpAny (model X.prog X.w) X.A (call (.builtin id) (v::us)) (EP X pins σ Q) X.xe s
section
variable {X:Cx}{a b:Expr}{ta tb:TE}{pos:Pos}
theorem IxR.or {r r':R2}(h:IxR X r)(h':IxR X r'):IxR X (fun x y H Q=>r x y H Q \/ r' x y H Q):=by
 intro value slice pins s σ H x y v u Q I rx ry q hs
 rcases q with q|q
 ·exact h value slice pins s σ H x y v u Q I rx ry q hs
 ·exact h' value slice pins s σ H x y v u Q I rx ry q hs
theorem zo4 {r:R2}(hr:IxR X r)(ha:PE X a ta)(hb:PE X b tb)(hs:PlainIx b):PE X (.Subscript a b pos) (tOp r ta tb):=by
 intro pins s σ H Q I h
 exact Subscript_ (binT ha hb I h fun v u s2 x y H2 I2 rx ry q=>hr a b pins s2 σ H2 x y v u Q I2 rx ry q (hs _ _))
def rIxL (K:PySem.W.Frag):R2:=fun x y H Q=>∃p xs i v,x=.ref p/\y=.int i/\SqL K H p xs/\atI xs i=some v/\Q v H
def rIxT (K:PySem.W.Frag):R2:=fun x y H Q=>∃p xs i v,x=.ref p/\y=.int i/\SqT K H p xs/\atI xs i=some v/\Q v H
def rIxS:R2:=fun x y H Q=>∃z i c,x=.str z/\y=.int i/\z.length<=sizeLine/\atI z.cps.toList i=some c/\Q (.str ⟨#[c]⟩) H
theorem ix_list:IxR X (rIxL X.K):=by
 intro value slice pins s σ H x y v u Q I rx ry h hs
 obtain ⟨p,xs,i,z,rfl,rfl,hq,he,q⟩:=h
 cases rx
 obtain ⟨t,rfl⟩:=ry
 obtain ⟨its,r,pl,hz⟩:=I.list hq
 obtain ⟨j,h1,h2,h3,h4,h5⟩:=ziz he
 obtain ⟨w,ew,rw'⟩:=r.get h2
 have hl:=r.length
 have hn:=line63
 have fin:EP X pins σ Q w s:=⟨z,H,I,rw',q⟩
 by_cases h0:0<=i
 ·have hj:i.toNat=j:=by
   rw [seqIndex_of h0 h5] at h1
   exact Option.some.inj h1
  exact item_listR pl.isList h0 (by omega) (by rw [hj];simpa using ew) fin hs
 ·have hj:(i+(its.toArray.size:Int)).toNat=j:=by
   rw [seqIndex_neg (by omega) h4] at h1
   rw [List.size_toArray,<- hl]
   exact Option.some.inj h1
  exact subscriptTail_builtinR (x:=w) pl.isList.typeIs slot_list_getitem.lookup
   (wpAny_getItem_list_neg (Q:=fun r s'=>r=w/\EP X pins σ Q r s') pl.isList (by omega) (by rw [List.size_toArray] <;> omega) (by omega) (by rw [hj];simpa using ew) ⟨rfl,fin⟩) hs
theorem ix_tup:IxR X (rIxT X.K):=by
 intro value slice pins s σ H x y v u Q I rx ry h hs
 obtain ⟨p,xs,i,z,rfl,rfl,hq,he,q⟩:=h
 cases rx
 obtain ⟨t,rfl⟩:=ry
 obtain ⟨its,r,pl,hz⟩:=I.tuple hq
 obtain ⟨j,h1,h2,h3,h4,h5⟩:=ziz he
 obtain ⟨w,ew,rw'⟩:=r.get h2
 have hl:=r.length
 have hn:=line63
 have fin:EP X pins σ Q w s:=⟨z,H,I,rw',q⟩
 exact subscriptTail_builtinR (x:=w) pl.typeIs slot_tuple_getitem.lookup
  (getItem_tuple (j:=j) (Q:=fun r s'=>r=w/\EP X pins σ Q r s') pl (by omega) (by omega) (by rw [List.size_toArray,<- hl];exact h1) (by simpa using ew) ⟨rfl,fin⟩) hs
theorem zoj:IxR X rIxS:=by
 intro value slice pins s σ H x y v u Q I rx ry h hs
 obtain ⟨z,i,c,rfl,rfl,hz,he,q⟩:=h
 obtain ⟨t,rfl⟩:=rx
 obtain ⟨t',rfl⟩:=ry
 obtain ⟨j,h1,h2,h3,h4,h5⟩:=ziz he
 have hl:z.cps.toList.length=z.length:=by simp [Str.length]
 rw [hl] at h1 h4 h5
 have hn:=line63
 exact tail_any (typeIs_str s z t) slot_str_getitem.lookup (getItem_str (c:=c) (by
  have e1:decide (i < -(2 ^ 63:Int))=false:=decide_eq_false (by omega)
  have e2:decide (i ≥ 2 ^ 63)=false:=decide_eq_false (by omega)
  rw [e1,e2,Bool.or_false]) (by rw [h1];simpa using h2) ⟨.str ⟨#[c]⟩,H,I.tok _,⟨_,rfl⟩,q⟩) hs
def rIx (K:PySem.W.Frag):R2:=fun x y H Q=>rIxL K x y H Q \/ rIxT K x y H Q \/ rIxS x y H Q
theorem zjm:IxR X (rIx X.K):=ix_list.or (ix_tup.or zoj)
theorem zjy (its:List Value)(n j:Nat)(u:Value):Obj.mapSeq (·.setIfInBounds j u) { cls:=.type "list",data:=.seq its.toArray n }={ cls:=.type "list",data:=.seq (its.set j u).toArray n }:=by
 simp [Obj.mapSeq]
theorem Inv.lst {pins:List (Addr×Obj)}{σ:St}{H:Hp}{s:Shared}{p:Addr}{xs:List V}(I:Inv X pins σ H s)(h:H p=some (.lst xs)) :
  ∃(its:List Value) (n:Nat),Vals xs its/\s.heap.get? p=some { cls:=.type "list",data:=.seq its.toArray n }/\xs.length<=sizeLine:=by
 obtain ⟨z,its,n,r,e⟩:=I.hok p _ h
 exact ⟨its,n,r,e,z⟩
theorem Inv.lstUpd {pins:List (Addr×Obj)}{σ:St}{H:Hp}{s:Shared}{p:Addr}{xs ys:List V}{its its':List Value}{n n':Nat}{f:Obj->Obj}(I:Inv X pins σ H s)(h:H p=some (.lst xs))
  (ho:s.heap.get? p=some { cls:=.type "list",data:=.seq its.toArray n }) (hf:f { cls:=.type "list",data:=.seq its.toArray n }={ cls:=.type "list",data:=.seq its'.toArray n' }) (r:Vals ys its') (hz:ys.length<=sizeLine) (t:Nat) :
  Inv X pins σ (upd H p (.lst ys)) { s with heap:=s.heap.update p f,toks:=t }:=by
 have e:(s.heap.update p f).get? p=some { cls:=.type "list",data:=.seq its'.toArray n' }:=by
  rw [Heap.get?_update_self f ho (by rw [hf] <;> rfl),hf]
 refine I.write (x:=p) (e:=p) (by rw [h];trivial) (.inl rfl) (fun b u hb q=>(Heap.get?_update_other _ _ (Ne.symm hb)).trans q) ⟨_,e⟩ ?_
 exact ⟨hz,its',n',r,e⟩
def rSetL:V->V->V->Hp->(Hp->Prop)->Prop:=fun o i v H Q=>∃p xs k j,o=.ref p/\i=.int k/\H p=some (.lst xs)/\ixN xs.length k=some j/\Q (upd H p (.lst (xs.set j v)))
theorem zbG:PSet X rSetL:=by
 intro pins s σ H o i v ov iv u Q I ro ri rv h
 obtain ⟨p,xs,k,j,rfl,rfl,hp,hj,q⟩:=h
 cases ro
 obtain ⟨t,rfl⟩:=ri
 obtain ⟨its,n,r,ho,hz⟩:=I.lst hp
 obtain ⟨h1,h2,h3,h4⟩:=zjQ hj
 have hl:=r.length
 have hn:=line63
 have I':Inv X pins σ (upd H p (.lst (xs.set j v))) { s with heap:=s.heap.update p (Obj.mapSeq (·.setIfInBounds j u)) } :=
  I.lstUpd hp ho (zjy its n j u) (r.set rv j) (by rw [List.length_set];exact hz) s.toks
 by_cases h0:0<=k
 ·have hk:k.toNat=j:=by
   rw [seqIndex_of h0 h4] at h1
   exact Option.some.inj h1
  exact PySem.W.ki_setAt ho h0 (by omega) (by rw [List.size_toArray,<- hl];exact h4) (by rw [hk];exact ⟨_,I',q⟩)
 ·have hk:(k+(its.toArray.size:Int)).toNat=j:=by
   rw [seqIndex_neg (by omega) h3] at h1
   rw [List.size_toArray,<- hl]
   exact Option.some.inj h1
  exact PySem.W.ki_setBack ho (by omega) (by rw [List.size_toArray,<- hl];exact h3) (by omega) (by rw [hk];exact ⟨_,I',q⟩)
theorem zhZ (lo hi:Option Int)(n:Nat):(sliceBounds lo hi none n).1=((HT.sIx n 0 lo:Nat):Int)/\(sliceBounds lo hi none n).2.1=((HT.sIx n n hi:Nat):Int)/\(sliceBounds lo hi none n).2.2=1:=by
 refine ⟨?_,?_,rfl⟩
 ·cases lo with
  |none=>simp [sliceBounds,HT.sIx]
  |some i =>
   simp only [sliceBounds,HT.sIx,Option.getD_none,show (1:Int) > 0 by decide,if_true]
   by_cases h:i<0
   ·simp only [h,if_true] <;> omega
   ·simp only [h,if_false] <;> omega
 ·cases hi with
  |none=>simp [sliceBounds,HT.sIx]
  |some i =>
   simp only [sliceBounds,HT.sIx,Option.getD_none,show (1:Int) > 0 by decide,if_true]
   by_cases h:i<0
   ·simp only [h,if_true] <;> omega
   ·simp only [h,if_false] <;> omega
theorem zhp (its:List Value)(lo hi:Option Int):slicePick its.toArray lo hi none=((its.drop (HT.sIx its.length 0 lo)).take (HT.sIx its.length its.length hi - HT.sIx its.length 0 lo)).toArray:=by
 obtain ⟨h1,h2,h3⟩:=zhZ lo hi its.toArray.size
 unfold slicePick
 rw [h1,h2,h3]
 simp only [sliceRange_one,pick_run,List.size_toArray] <;> rfl
def rSlL (K:PySem.W.Frag):V->Option Int->Option Int->Hp->VK->Prop:=fun x lo hi H Q=>∃a xs,x=.ref a/\SqL K H a xs/\∀p,H p=none->Q (.ref p) (upd H p (.lst (cutV xs lo hi)))
theorem zkr:SlR X (rSlL X.K):=by
 intro pins s σ H x v vl vu lo hi sl Q I rx hs pl pu h
 obtain ⟨a,xs,rfl,hx,q⟩:=h
 cases rx
 obtain ⟨its,r,ht,hz⟩:=I.list hx
 have hlen:=r.length
 refine ⟨"list",_,slot_list_getitem.lookup,ht.isList.typeIs,?_⟩
 refine wpAny_getItem_list_slice ht.isList hs pl pu .none (by simp) ?_ (by rw [List.size_toArray] <;> omega)
 rw [zhp,<- hlen]
 refine ⟨.ref s.heap.objs.size,_,I.laid (t':=s.toks) (o:=.lst (cutV xs lo hi)) (fun b ob q=>Heap.get?_push_of_some _ q) (Nat.le_refl _) ?_,rfl,q _ (I.hok.fresh (Nat.le_refl _))⟩
 exact ⟨Nat.le_trans (zgy xs lo hi) hz,_,0,(r.drop (HT.sIx xs.length 0 lo)).take (HT.sIx xs.length xs.length hi - HT.sIx xs.length 0 lo),Heap.get?_push_size _ rfl⟩
def flatV:V->Bool
 | .non=>true
 | .bl _=>true
 | .int _=>true
 | .str _=>true
 |_=>false
def eqV:V->V->Bool
 | .non,.non=>true
 | .bl a,.bl b=>a == b
 | .bl a,.int b=>(if a then 1 else 0) == b
 | .int a,.bl b=>a == (if b then 1 else 0)
 | .int a,.int b=>a == b
 | .str a,.str b=>a == b
 |_,_=>false
theorem zoe {A:Around}{s:Shared}{y x:V}{u v:Value}(ry:RelV y u)(rx:RelV x v)(fy:flatV y=true)(fx:flatV x=true):SeqAt.EqAt A s u v (eqV y x):=by
 cases y with
 |non =>
  cases ry
  cases x with
  |non=>cases rx;exact SeqAt.EqAt.same _
  |bl b=>cases rx;exact SeqAt.EqAt.none_bool b
  |int b=>obtain ⟨t,rfl⟩:=rx;exact SeqAt.EqAt.none_int b t
  |str b=>obtain ⟨t,rfl⟩:=rx;exact SeqAt.EqAt.none_str b t
  |_=>exact absurd (show false=true from fx) Bool.false_ne_true
 |bl a =>
  cases ry
  cases x with
  |non=>cases rx;exact SeqAt.EqAt.bool_none a
  |bl b=>cases rx;exact SeqAt.EqAt.bool_bool a b
  |int b=>obtain ⟨t,rfl⟩:=rx;exact SeqAt.EqAt.bool_int a b t
  |str b=>obtain ⟨t,rfl⟩:=rx;exact SeqAt.EqAt.bool_str a b t
  |_=>exact absurd (show false=true from fx) Bool.false_ne_true
 |int a =>
  obtain ⟨t',rfl⟩:=ry
  cases x with
  |non=>cases rx;exact SeqAt.EqAt.int_none a t'
  |bl b=>cases rx;exact SeqAt.EqAt.int_bool a t' b
  |int b=>obtain ⟨t,rfl⟩:=rx;exact SeqAt.EqAt.int_int a t' b t
  |str b=>obtain ⟨t,rfl⟩:=rx;exact SeqAt.EqAt.int_str a t' b t
  |_=>exact absurd (show false=true from fx) Bool.false_ne_true
 |str a =>
  obtain ⟨t',rfl⟩:=ry
  cases x with
  |non=>cases rx;exact SeqAt.EqAt.str_none a t'
  |bl b=>cases rx;exact SeqAt.EqAt.str_bool a t' b
  |int b=>obtain ⟨t,rfl⟩:=rx;exact SeqAt.EqAt.str_int a t' b t
  |str b=>obtain ⟨t,rfl⟩:=rx;exact SeqAt.EqAt.str_str a t' b t
  |_=>exact absurd (show false=true from fx) Bool.false_ne_true
 |_=>exact absurd (show false=true from fy) Bool.false_ne_true
def eqU (x:V)(u:Value):Bool:=match u with
 | .none=>eqV .non x
 | .bool b=>eqV (.bl b) x
 | .int i _=>eqV (.int i) x
 | .str z _=>eqV (.str z) x
 |_=>false
theorem zmp {x y:V}{u:Value}(r:RelV y u)(f:flatV y=true):eqU x u=eqV y x:=by
 cases y with
 |non=>cases r;rfl
 |bl b=>cases r;rfl
 |int i=>obtain ⟨t,rfl⟩:=r;rfl
 |str z=>obtain ⟨t,rfl⟩:=r;rfl
 |_=>exact absurd (show false=true from f) Bool.false_ne_true
theorem ziO {x:V}:∀{xs:List V} {us:List Value},Vals xs us->xs.all flatV=true->us.any (eqU x)=xs.any fun y=>eqV y x
 |_,_,.nil,_=>rfl
 |y::xs,u::us,.cons r t,f=>by
  rw [List.all_cons,Bool.and_eq_true] at f
  rw [List.any_cons,List.any_cons,zmp r f.1,ziO t f.2]
theorem zhB {A:Around}{s:Shared}{x:V}{v:Value}(rx:RelV x v)(fx:flatV x=true):∀{xs:List V} {us:List Value},Vals xs us->xs.all flatV=true->∀u∈us,SeqAt.EqAt A s u v (eqU x u)
 |_,_,.nil,_=>fun u hu=>by cases hu
 |y::xs,u::us,.cons r t,f=>fun u' hu=>by
  rw [List.all_cons,Bool.and_eq_true] at f
  rcases List.mem_cons.mp hu with rfl|hu
  ·rw [zmp r f.1];exact zoe r rx f.1 fx
  ·exact zhB rx fx t f.2 u' hu
def inV (x:V)(xs:List V):Bool:=xs.any fun y=>eqV y x
def rIn (K:PySem.W.Frag)(neg:Bool):R2:=fun x y H Q=>∃p xs,y=.ref p/\(SqL K H p xs \/ SqT K H p xs)/\flatV x=true/\xs.all flatV=true/\Q (.bl (if neg then !inV x xs else inV x xs)) H
theorem zhN:OpR X (compareOp .In) (rIn X.K false):=by
 intro pins s σ H x y v u Q I rx ry h
 obtain ⟨p,xs,rfl,hq,fx,fs,q⟩:=h
 cases ry
 rcases hq with hq|hq
 ·obtain ⟨its,r,pl,hz⟩:=I.list hq
  refine SeqAt.in_listAt (eqU x) pl.isList (fun w hw=>zhB rx fx r fs w (by simpa using hw)) ⟨.bl _,H,I,rfl,?_⟩
  rw [show its.toArray.any (eqU x)=its.any (eqU x) by simp,ziO r fs]
  exact q
 ·obtain ⟨its,r,pl,hz⟩:=I.tuple hq
  refine SeqAt.in_tupleAt (eqU x) pl (fun w hw=>zhB rx fx r fs w (by simpa using hw)) ⟨.bl _,H,I,rfl,?_⟩
  rw [show its.toArray.any (eqU x)=its.any (eqU x) by simp,ziO r fs]
  exact q
theorem zin:CallR X (.builtin "len") (fun xs H Q=>∃p ys,xs=[.ref p]/\(SqL X.K H p ys \/ SqT X.K H p ys)/\Q (.int ys.length) H):=by
 intro pins s σ H xs us Q I r h
 obtain ⟨p,ys,rfl,hq,q⟩:=h
 obtain ⟨u,rfl,rx⟩:=vals1 r
 cases rx
 have hn:=line63
 rcases hq with hq|hq
 ·obtain ⟨its,r',pl,hz⟩:=I.list hq
  have hlen:=r'.length
  exact Calls.call_len_list pl.isList (by simp only [List.size_toArray] <;> omega) ⟨.int ys.length,H,I.tok _,⟨s.toks+1,by rw [List.size_toArray,hlen]⟩,q⟩
 ·obtain ⟨its,r',pl,hz⟩:=I.tuple hq
  have hlen:=r'.length
  exact len_tuple pl (by simp only [List.size_toArray] <;> omega) ⟨.int ys.length,H,I.tok _,⟨s.toks+1,by rw [List.size_toArray,hlen]⟩,q⟩
theorem zii:CallR X (.builtin "len") (fun xs H Q=>∃z,xs=[.str z]/\z.length<=sizeLine/\Q (.int z.length) H):=by
 intro pins s σ H xs us Q I r h
 obtain ⟨z,rfl,hz,q⟩:=h
 obtain ⟨u,rfl,t,rfl⟩:=vals1 r
 have hn:=line63
 exact len_str (by omega) ⟨.int z.length,H,I.tok _,⟨_,rfl⟩,q⟩
theorem zfP:CallR X (.type "list") (fun xs H Q=>∃p ys,xs=[.ref p]/\(SqL X.K H p ys \/ SqT X.K H p ys)/\∀l,H l=none->Q (.ref l) (upd H l (.lst ys))):=by
 intro pins s σ H xs us Q I r h
 obtain ⟨p,ys,rfl,hq,q⟩:=h
 obtain ⟨u,rfl,rx⟩:=vals1 r
 cases rx
 have fin:∀(its:List Value),Vals ys its->ys.length<=sizeLine->∀(h':Heap) (c':Nat),(∀b o',s.heap.get? b=some o'->h'.get? b=some o') ->
   h'.get? s.heap.objs.size=some { cls:=.type "list",dict:=none,data:=.seq its.toArray c',slots:=#[] }->EP X pins σ Q (.ref s.heap.objs.size) { s with heap:=h' }:=fun its r' hz h' c' kp e =>
  ⟨.ref s.heap.objs.size,_,I.laid (t':=s.toks) kp (Nat.le_refl _) (show ObjOk X.prog X.w _ h' _ (.lst ys) from ⟨hz,its,c',r',e⟩),rfl,q _ (I.hok.fresh (Nat.le_refl _))⟩
 rcases hq with hq|hq
 ·obtain ⟨its,r',pl,hz⟩:=I.list hq
  have hlen:=r'.length
  obtain ⟨o,ho,hc,n,hd⟩:=pl.isList
  exact call_list_seq p (.inl rfl) ho hc hd (fun h' c' kp e=>fin its r' hz h' c' kp e) (by simp only [List.size_toArray] <;> omega)
 ·obtain ⟨its,r',pl,hz⟩:=I.tuple hq
  have hlen:=r'.length
  obtain ⟨o,ho,hc,n,hd⟩:=pl
  exact call_list_seq p (.inr rfl) ho hc hd (fun h' c' kp e=>fin its r' hz h' c' kp e) (by simp only [List.size_toArray] <;> omega)
theorem ze2:CallR X (.type "tuple") (fun xs H Q=>∃p ys,xs=[.ref p]/\((SqL X.K H p ys/\∀l,H l=none->Q (.ref l) (upd H l (.tup ys))) \/ (SqT X.K H p ys/\Q (.ref p) H))):=by
 intro pins s σ H xs us Q I r h
 obtain ⟨p,ys,rfl,h⟩:=h
 obtain ⟨u,rfl,rx⟩:=vals1 r
 cases rx
 rcases h with ⟨hq,q⟩|⟨hq,q⟩
 ·obtain ⟨its,r',pl,hz⟩:=I.list hq
  have hlen:=r'.length
  refine call_tuple_list pl.isList (fun h' kp=>?_) (by simp only [List.size_toArray] <;> omega)
  have I1:Inv X pins σ H { s with heap:=h' }:=I.kept (t':=s.toks) kp
  have I2:Inv X pins σ (upd H h'.objs.size (.tup ys)) { s with heap:=h'.push { cls:=.type "tuple",data:=.seq its.toArray } } :=
   I1.laid (t':=s.toks) (fun b o e=>Heap.get?_push_of_some _ e) (Nat.le_refl _) (show ObjOk X.prog X.w _ _ _ (.tup ys) from ⟨hz,its,r',IsTup.new _ _⟩)
  exact ⟨.ref h'.objs.size,_,I2,rfl,q _ (I1.hok.fresh (Nat.le_refl _))⟩
 ·obtain ⟨its,r',pl,hz⟩:=I.tuple hq
  exact call_tuple_same pl ⟨.ref p,H,I,rfl,q⟩
def tyV (K:PySem.W.Frag)(T:String)(x:V)(H:Hp):Prop:=match x with
 | .str _=>T="str"
 | .int _=>T="int"
 | .ref p=>(T="list"/\∃xs,SqL K H p xs) \/ (T="tuple"/\∃o,K.lookup p=some o/\o.cls=.type "tuple"/\o.dict=none) \/
   (T="dict"/\((∃kvs,H p=some (.dK kvs)) \/ ∃kvs,H p=some (.dT kvs))) \/ (T="set"/\∃S n,H p=some (.set S n))
 |_=>False
theorem zom {pins:List (Addr×Obj)}{σ:St}{H:Hp}{s:Shared}{T:String}{x:V}{v:Value}(I:Inv X pins σ H s)(r:RelV x v)(ty:tyV X.K T x H) :
  s.TypeIs v T/\∀a,v=.ref a->∃ob,s.heap.get? a=some ob/\ob.dict=none:=by
 cases x with
 |str z =>
  obtain ⟨t,rfl⟩:=r
  cases (show T="str" from ty)
  exact ⟨typeIs_str s z t,fun _ e=>nomatch e⟩
 |int i =>
  obtain ⟨t,rfl⟩:=r
  cases (show T="int" from ty)
  exact ⟨typeIs_int s i t,fun _ e=>nomatch e⟩
 |ref p =>
  cases r
  rcases ty with ⟨rfl,xs,hq⟩|⟨rfl,o,hk,hc,hd⟩|⟨rfl,hk⟩|⟨rfl,S,n,hk⟩
  ·obtain ⟨its,_,pl,_⟩:=I.list hq
   refine ⟨pl.isList.typeIs,fun a e=>?_⟩
   cases e
   obtain ⟨o,n,e,c,hd,_⟩:=pl
   exact ⟨o,e,hd⟩
  ·refine ⟨⟨o,I.kIn p o hk,hc⟩,fun a e=>?_⟩
   cases e
   exact ⟨o,I.kIn _ o hk,hd⟩
  ·have z:∃o,s.heap.get? p=some o/\o.ExactDict:=by
    rcases hk with ⟨kvs,hk⟩|⟨kvs,hk⟩
    ·obtain ⟨_,_,_,_,o,_,_,e,ex,_⟩:=I.hok p _ hk
     exact ⟨o,e,ex⟩
    ·obtain ⟨_,_,_,_,o,_,_,e,ex,_⟩:=I.hok p _ hk
     exact ⟨o,e,ex⟩
   obtain ⟨o,e,ex⟩:=z
   refine ⟨⟨o,e,ex.1⟩,fun a e2=>?_⟩
   cases e2
   exact ⟨o,e,ex.2.1⟩
  ·obtain ⟨o,_,_,_,e,ex,_⟩:=I.hok p _ hk
   refine ⟨⟨o,e,ex.1⟩,fun a e2=>?_⟩
   cases e2
   exact ⟨o,e,ex.2.1⟩
 |_=>exact False.elim ty
def tBM (K:PySem.W.Frag)(T:String)(r:V->List V->Hp->VK->Prop)(to:TE)(t:TA):TE:=fun σ H Q=>to σ H fun x H1=>tyV K T x H1/\t σ H1 fun xs H2=>r x xs H2 Q
variable {o e:Expr}{es:List Expr}{to:TE}{t:TA}{name:Str}{apos cpos:Pos}{T id:String}{r:V->List V->Hp->VK->Prop}
theorem znL (pa:PlainAttrs T)(slot:Slot T name id)(hty:typeOf (.builtin id)=pure (.type "method_descriptor"))(hm:MtR X id r)(ho:PE X o to)(ha:PA X (e::es) t)
  (hbase:attributeBase o name X.env (eval o X.env)=eval o X.env:=by rfl)
  (hfew:((backTo cpos (starEach (e::es) X.env)).all (fun x=>!x.1) && (backToKw cpos (keywordEach [] X.env)).all (fun x=>x.1.isSome)
   && decide ((e::es).length+([]:List Keyword).length+(if ([]:List Keyword).isEmpty then 0 else 1)<30))=true:=by rfl)
  (hline:(apos.endLine == cpos.line)=true:=by rfl) (hs:starEach (e::es) X.env=(false,eval e X.env)::starEach es X.env:=by rfl) (hplain:(backTo cpos (starEach es X.env)).any (·.1)=false:=by rfl) :
  PE X (.Call (.Attribute o name apos) (e::es) [] cpos) (tBM X.K T r to t):=by
 intro pins s σ H Q I h
 refine wpAny_Call_method_late hbase hfew hline rfl (thn (ho pins s σ H _ I h) fun v s1 ⟨x,H1,I1,r1,ty,q1⟩=>?_)
 obtain ⟨h1,h2⟩:=zom I1 r1 ty
 refine ⟨T,id,pa,slot,hty,h1,h2,?_⟩
 have hA:=ha cpos pins s1 σ H1 _ I1 q1
 rw [hs] at hA ⊢
 refine Calls.callWith_builtin (by show (false || (backTo cpos (starEach es X.env)).any (·.1))=false;rw [hplain] <;> rfl) (Calls.evalArgs_plain ?_)
 exact thn hA fun us s2 ⟨vs,H2,I2,r2,q2⟩=>hm pins s2 σ H2 x vs v us Q I2 r1 r2 q2
/- xs.append(e),list.index on a module's tuple .. are MtR facts of 06m -/
end
def MtM (X:Cx)(id:String)(r:V->List V->Hp->VK->Prop):Prop :=
 ∀(pins:List (Addr×Obj)) (s:Shared) (σ:St) (H:Hp) (x:V) (xs:List V) (v:Value) (us:List Value) (Q:VK),Inv X pins σ H s->RelV x v->Vals xs us->r x xs H Q ->
  wpAny (model X.prog X.w) X.A (call (.builtin id) (v::us)) (EP X pins σ Q) X.xe s
theorem Vals.one:∀{x:V} {us:List Value},Vals [x] us->∃u,us=[u]/\RelV x u
 |_,_,.cons r .nil=>⟨_,rfl,r⟩
section
variable {X:Cx}{pins:List (Addr×Obj)}{σ:St}{H:Hp}{s:Shared}{l b:Addr}{xs ys zs:List V}
theorem Inv.lset {its its':List Value}{n:Nat}{f:Array Value->Array Value}{t':Nat}(I:Inv X pins σ H s)(hH:H l=some (.lst xs))
  (e:s.heap.get? l=some { cls:=.type "list",data:=.seq its.toArray n }) (hf:f its.toArray=its'.toArray) (hv:Vals ys its') (hz:ys.length<=sizeLine) :
  Inv X pins σ (upd H l (.lst ys)) { s with heap:=s.heap.update l (Obj.mapSeq f),toks:=t' }:=by
 have q:=PySem.IsL.update e f
 rw [hf] at q
 refine I.write (x:=l) (e:=l) (by rw [hH];exact trivial) (.inl rfl) (fun b' u hb hu=>(Heap.get?_update_other s.heap (Obj.mapSeq f) (Ne.symm hb)).trans hu) ⟨_,q⟩ ?_
 exact ⟨hz,its',_,hv,q⟩
theorem Inv.lnew {its:List Value}{t':Nat}(I:Inv X pins σ H s)(hv:Vals ys its)(hz:ys.length<=sizeLine) :
  Inv X pins σ (upd H s.heap.objs.size (.lst ys)) { s with heap:=s.heap.push { cls:=.type "list",data:=.seq its.toArray },toks:=t' } :=
 I.laid (fun _ _ q=>Heap.get?_push_of_some _ q) (Nat.le_refl _) ⟨hz,its,0,hv,Heap.get?_push_size _ rfl⟩
theorem Inv.fresh (I:Inv X pins σ H s):H s.heap.objs.size=none:=I.hok.fresh (Nat.le_refl _)
theorem Inv.lstM (I:Inv X pins σ H s)(hH:H l=some (.lst xs)):xs.length<=sizeLine/\∃(its:List Value) (n:Nat),Vals xs its/\xs.length=its.length/\s.heap.get? l=some { cls:=.type "list",data:=.seq its.toArray n }:=by
 obtain ⟨z,its,n,r,e⟩:=I.hok l _ hH
 exact ⟨z,its,n,r,r.length,e⟩
theorem notLongL {n:Nat}(h:n<=sizeLine):Builtin.List.listTooLong n=false:=by
 unfold Builtin.List.listTooLong
 exact decide_eq_false (by omega)
end
section
variable {X:Cx}
def rAppend:V->List V->Hp->VK->Prop:=fun x vs H Q=>∃l xs y,x=.ref l/\vs=[y]/\H l=some (.lst xs)/\xs.length<sizeLine/\Q .non (upd H l (.lst (xs++[y])))
theorem zh6:MtM X "list.append" rAppend:=by
 intro pins s σ H x vs v us Q I rx rv h
 obtain ⟨l,xs,y,rfl,rfl,hH,hz,q⟩:=h
 cases rx
 obtain ⟨u,rfl,ru⟩:=rv.one
 obtain ⟨z,its,n,r,hl,e⟩:=I.lstM hH
 refine call_meets F.slot_list_append ⟨_,e,rfl⟩ F.entry_list_append (F.args_list_append_2 _ _) (PySem.list_append l its.toArray n u (by rw [List.size_toArray];omega)) ⟨e,?_⟩
 refine ⟨.non,_,I.lset (its':=its++[u]) hH e (by simp) (r.append (.cons ru .nil)) ?_,rfl,q⟩
 rw [List.length_append,List.length_singleton]
 omega
def rExtend:V->List V->Hp->VK->Prop:=fun x vs H Q=>∃l b xs zs,x=.ref l/\vs=[.ref b]/\H l=some (.lst xs)/\H b=some (.lst zs)/\xs.length+zs.length<=sizeLine/\Q .non (upd H l (.lst (xs++zs)))
theorem zkH:MtM X "list.extend" rExtend:=by
 intro pins s σ H x vs v us Q I rx rv h
 obtain ⟨l,b,xs,zs,rfl,rfl,hH,hB,hz,q⟩:=h
 cases rx
 obtain ⟨u,rfl,ru⟩:=rv.one
 cases ru
 obtain ⟨z,its,n,r,hl,e⟩:=I.lstM hH
 obtain ⟨z2,its2,n2,r2,hl2,e2⟩:=I.lstM hB
 have hsz:its.toArray.size+its2.toArray.size<=sizeLine:=by rw [List.size_toArray,List.size_toArray];omega
 have hlong:¬(!its.toArray.isEmpty && Builtin.List.listTooLong (its.toArray.size+its2.toArray.size))=true:=by
  rw [notLongL hsz,Bool.and_false]
  exact Bool.false_ne_true
 refine call_meets F.slot_list_extend ⟨_,e,rfl⟩ F.entry_list_extend (F.args_list_extend_2 _ _)
  (AutoSeq1.list_extend_list_list_0 l its.toArray n b its2.toArray n2 hlong (by rw [List.size_toArray];omega) (by omega)) ⟨e,e2,?_⟩
 refine ⟨.non,_,I.lset (its':=its++its2) hH e (by simp) (r.append r2) ?_,rfl,q⟩
 rw [List.length_append]
 omega
def rCat:R2:=fun x y H Q=>∃l b xs zs,x=.ref l/\y=.ref b/\H l=some (.lst xs)/\H b=some (.lst zs)/\xs.length+zs.length<=sizeLine/\∀p,H p=none->Q (.ref p) (upd H p (.lst (xs++zs)))
theorem zmz:OpR X (binaryOp .Add) rCat:=by
 intro pins s σ H x y v u Q I rx ry h
 obtain ⟨l,b,xs,zs,rfl,rfl,hH,hB,hz,q⟩:=h
 cases rx
 cases ry
 obtain ⟨z,its,n,r,hl,e⟩:=I.lstM hH
 obtain ⟨z2,its2,n2,r2,hl2,e2⟩:=I.lstM hB
 refine PySem.P.add_list e e2 ?_ (by rw [List.size_toArray,List.size_toArray];omega)
 have ea:its.toArray++its2.toArray=(its++its2).toArray:=by simp
 rw [ea]
 exact ⟨.ref _,_,I.lnew (t':=s.toks) (r.append r2) (by rw [List.length_append];omega),rfl,q _ I.fresh⟩
end
section
variable {prog:Program}{w:World}{A:Around}{E:Value->Shared->Prop}{s:Shared}
end
section
variable {X:Cx}
end
end L2
namespace Att
open PySem PySem.W PySem.Calls PyProof.Rows
theorem zgn {P:Params}{h:Heap}:∀(ns:List Int) (vs:List Value),WellAll P h vs (ns.map WData.int)->IntsAre vs ns:=by
 intro ns
 induction ns with
 |nil =>
  intro vs w
  rw [List.map_nil] at w
  cases w
  exact .nil
 |cons n ns ih =>
  intro vs w
  rw [List.map_cons] at w
  cases w with
  |cons a b =>
   cases a
   exact .cons _ _ (ih _ b)
theorem zke {l:OpenLaw}{n:Nat}(hn:l.most=some n){P:Params}{h:Heap}{args:List WData}{vals:List Value}
  (hpre:l.row.toRowW.claim.pre args=true) (hwl:WellAll P h vals args) :
  ∃a vs ns,vals=[Value.ref a]/\args=[WData.list (ns.map WData.int)]/\h.get? a=some { cls:=.type "list",data:=.seq vs.toArray }/\IntsAre vs ns/\ns.length<=n:=by
 have hsh:WShape.hasAll [] args [.list .int]=true:=(pre_splitW hpre).1
 have hc:l.pre.holds [] { args:=args }=true:=(pre_splitW hpre).2
 obtain ⟨d,r,rfl,h1,h2⟩:=hasAllW_cons hsh
 obtain rfl:=hasAllW_nil h2
 obtain ⟨xs,rfl,h3⟩:=hasW_list h1
 obtain ⟨ns,rfl⟩:=items_int h3
 have hlen:ns.length<=n:=by
  unfold OpenLaw.pre at hc
  have h4:(WTm.not (.lt (.lit (.int (n:Int))) (.len (.arg 0)))).holds [] { args:=[.list (ns.map .int)] }=true:=by
   have h4:=(holds_andW hc).1
   rw [hn] at h4
   exact h4
  have h5:=condW_of h4 (w_not (w_lt w_lit (w_len_list (w_arg rfl))))
  rw [List.length_map] at h5
  refine Nat.le_of_not_lt fun q=>?_
  have q':(n:Int)<((ns.length:Nat):Int):=by omega
  first
   | (rw [decide_eq_true q'] at h5;exact absurd h5 (by decide))
   | (simp at h5;omega)
 cases hwl with
 |cons w1 w2 =>
  cases w2
  cases w1 with
  |list ho hall=>exact ⟨_,_,ns,rfl,rfl,ho,zgn ns _ hall,hlen⟩
theorem zkd (l:OpenLaw)(args:List WData):l.row.toRowW.claim.post args (.bool true) args=true :=
 postW_of (r:=l.row.toRowW) (X:=(true == true))
  (show WShape.has [] (.bool true) .bool=true by first|rfl|decide|simp [WShape.has,WShape.arms,WShape.armsAll])
  (show (WTm.eq .res (.lit (.bool true))).value [] { args:=args,res:=some (.bool true),after:=args }=some (.bool (true == true)) from w_eq_bool (w_res rfl) w_lit) rfl
theorem attach_call {l:OpenLaw}{n:Nat}{q:Program}{loose:List Str}{XP:(Str->Option Value)->Heap->Prop}{YP:World->Heap->Prop}{d:DefRec}
  (hn:l.most=some n) (hdf:d.params.defaults=[])
  (call:∀(w:World) (s₀ s₁:Shared) (mg mb:Str->Option Value) (fa:Addr) (o:Obj) (pm cd doc:Value) (a:Addr) (vs:List Value) (ns:List Int),
   Ground q loose [] XP w s₀ mg mb s₁.heap->YP w s₁.heap ->
   s₁.heap.get? fa=some o->o.data=.func (docDef d.name d.params d.body d.scope pm cd doc)->s₁.heap.CodeRec cd d.name->mg d.name=some (.ref fa) ->
   s₁.heap.get? a=some { cls:=.type "list",data:=.seq vs.toArray }->IntsAre vs ns->ns.length<=n->s₁.gens=#[] ->
   codeAny (model l.prog w) callerA (.call (.ref fa) ⟨[.ref a],[]⟩) (fun r s'=>r=.ok (.ret (.bool true))/\OldK s₁.heap s'.heap/\s'.os=s₁.os/\AllBare s'.gens) s₁) :
  WalkO q loose XP YP l.row.toRowW d [] (fun f vs=>PySem.call f vs):=by
 intro w s₀ s₁ mg mb G Y fa o pm cd doc dV kV ho hd hcd hD hmg hg args vals as hpre hlay hrd hwl hlo
 obtain rfl:dV=.none:=Dflts.none hD hdf
 obtain rfl:kV=.none:=Dflts.noKw hD
 obtain ⟨a,vs,ns,rfl,rfl,hobj,hints,hlen⟩:=zke hn hpre hwl
 refine enter_call (codeAny_mono (call w s₀ s₁ mg mb fa o pm cd doc a vs ns G Y ho (fd_plain hd) hcd hmg hobj hints hlen hg) fun r s' hq=>?_)
 obtain ⟨rfl,h2,h3,h4⟩:=hq
 exact ⟨.inl ⟨.bool true,.bool true,[],rfl,fun _=>rfl,.bool true,zkd l _,fun _=>⟨List.Pairwise.nil,fun _ hm=>(nomatch hm)⟩⟩,h2,h3,h4⟩
section
variable {prog:Program}{w:World}{A:Around}{E:Value->Shared->Prop}{s:Shared}{K:Frag}
end
end Att
namespace L2
open PySem PySem.Spec PyProof.Rows
theorem ziq:∀{vs:List Value} {ns:List Int},IntsAre vs ns->Vals (ns.map V.int) vs
 |_,_,.nil=>.nil
 |_,_,.cons n t h=>.cons ⟨t,rfl⟩ (ziq h)
def Only (H:Hp):Prop:=∀b,H b=none \/ ∃o xs,H b=some (.frz o (.lst xs))
theorem zlC {P:Program}{w:World}{K:PySem.W.Frag}{mg mb:Str->Option Value}{CX:CXT}{k:Nat}{fa a:Addr}{fd:FuncData}{x:Str}{sp:Sp}{s₁:Shared}{vs:List Value}{ns:List Int}
  (KX:K.In s₁.heap) (hns:s₁.heap.Ns mainGlobals mg) (hb:s₁.heap.Ns builtinsNs mb) (hbb:∀x:Str,x ≠ "__name__"->mb x=bootBuiltins x) (hlim:s₁.heap.NoLimit) (hg:s₁.gens=#[])
  (ha:s₁.heap.get? a=some { cls:=.type "list",data:=.seq vs.toArray }) (hi:IntsAre vs ns) (hl:ns.length<=sizeLine) (hr:Room k callerA)
  (F:∀base:Heap,K.In base->base.Ns mainGlobals mg->FnOk P w K mg base CX k fa fd [x] sp) (hbind:∀(s:Shared) (u:Value),BindsTo s fd ⟨[u],[]⟩ [(x,u)])
  (hsp:∀H:Hp,Only H->SqL K H a (ns.map V.int)->sp [.ref a] H (fun v _=>v=.bl true) fun _ _ _=>False)
  (hCX:∀H e s',CX [] H s₁ (fun _ _ _=>False) e s'->False) :
  codeAny (model P w) callerA (.call (.ref fa) ⟨[.ref a],[]⟩) (fun r s'=>r=.ok (.ret (.bool true))/\OldK s₁.heap s'.heap/\s'.os=s₁.os/\AllBare s'.gens) s₁:=by
 have rv:=ziq hi
 have lenV:=hi.length
 have core:∀H:Hp,Only H->SqL K H a (ns.map V.int)->HOk P w H s₁.heap->(∀b,H b≠none->b=a)->(H a≠none->K.lookup a=none) ->
   codeAny (model P w) callerA (.call (.ref fa) ⟨[.ref a],[]⟩) (fun r s'=>r=.ok (.ret (.bool true))/\OldK s₁.heap s'.heap/\s'.os=s₁.os/\AllBare s'.gens) s₁:=by
  intro H hO hS hok hA hK
  have base_of:∀{b:Addr} {o:Obj},s₁.heap.get? b=some o->H b=none->(hidT s₁.heap H).get? b=some o:=fun e n=>zl2 e n
  have noA:∀{b:Addr} {o:Obj} {es:Array DictEntry} {ep:Nat},s₁.heap.get? b=some o->o.data=.dict es ep->H b=none:=fun {b o es ep} e d=>by
   cases q:H b with
   |none=>rfl
   |some u =>
    have e':b=a:=hA b (by rw [q];simp)
    subst e'
    rw [ha] at e;cases e
    have d':Data.seq vs.toArray _=Data.dict es ep:=d
    cases d'
  have nsK:∀{b:Addr} {m:Str->Option Value},s₁.heap.Ns b m->(hidT s₁.heap H).Ns b m:=fun {b m} ⟨o,es,ep,e,d,r⟩=>⟨o,es,ep,base_of e (noA e d),d,r⟩
  have hKb:K.In (hidT s₁.heap H):=fun b o e=>base_of (KX b o e) (by
   cases q:H b with
   |none=>rfl
   |some u =>
    have e':b=a:=hA b (by rw [q];simp)
    subst e'
    rw [hK (by rw [q];simp)] at e;cases e)
  have hM:Mod K mg (hidT s₁.heap H):=⟨hKb,nsK hns,⟨mb,nsK hb,hbb⟩,let ⟨mc,h1,h2⟩:=hlim;⟨mc,nsK h1,h2⟩⟩
  have e0:Env0 P w K mg (hidT s₁.heap H) callerA [] s₁ H:=⟨rfl,hM,fun b o e=>znx e,Nat.le_of_eq (zkb _ _),trivial,fun b hb=>absurd (show b∈([]:List Addr) from hb) (by simp),hok,.of_eq hg⟩
  refine codeAny_mono ((F _ hKb (nsK hns)).run callerA [] s₁ H ⟨[.ref a],[]⟩ [.ref a] [.ref a] _ _ hr e0 (hbind s₁ (.ref a)) (.cons rfl .nil) (hsp H hO hS)) fun r s' h=>?_
  cases r with
  |error e=>exact (hCX H e s' h).elim
  |ok fl =>
   cases fl with
   |next=>exact False.elim h
   |brk=>exact False.elim h
   |cont=>exact False.elim h
   |ret u =>
    obtain ⟨v,H',os,bare,un,hok',r',q⟩:=h
    have q':v=.bl true:=q
    subst q'
    obtain rfl:u=Value.bool true:=r'
    refine ⟨rfl,OldK.of_keep fun b o e=>?_,os,bare⟩
    cases q:H b with
    |none=>exact un.keep b o e q (by intro z;exact absurd (show b∈([]:List Addr) from z) (by simp)) (by simp)
    |some u =>
     rcases hO b with z|⟨ob,xs,z⟩
     ·rw [q] at z;cases z
     ·have z2:=un.frzs b ob _ z
      obtain ⟨e1,_⟩:=hok b _ z
      obtain ⟨e2,_⟩:=hok' b _ z2
      rw [e] at e1;cases e1
      exact e2
 cases hk:K.lookup a with
 |some o =>
  have e:=KX a o hk
  rw [ha] at e
  cases e
  refine core (fun _=>none) (fun _=>.inl rfl) (.inr ⟨_,vs.toArray,_,hk,rfl,rfl,rfl,by rw [List.size_toArray,lenV];exact hl,by simpa using rv⟩) (fun b u z=>by have z':(none:Option HO)=some u:=z;cases z') (fun b z=>absurd rfl z) fun z=>absurd rfl z
 |none =>
  refine core (fun b=>if b=a then some (.frz { cls:=.type "list",data:=.seq vs.toArray } (.lst (ns.map V.int))) else none) (fun b=>?_) (.inl (.inr ⟨{ cls:=.type "list",data:=.seq vs.toArray },if_pos rfl⟩)) (fun b u z=>?_) (fun b z=>?_) fun _=>hk
  ·by_cases hb:b=a
   ·exact .inr ⟨_,_,if_pos hb⟩
   ·exact .inl (if_neg hb)
  ·by_cases hb:b=a
   ·have z':=(if_pos hb).symm.trans z
    cases z'
    subst hb
    exact ⟨ha,by rw [List.length_map];exact hl,vs,_,rv,ha⟩
   ·have z':=(if_neg hb).symm.trans z
    cases z'
  ·by_cases hb:b=a
   ·exact hb
   ·exact absurd (if_neg hb) z
theorem walk_of {l:PySem.W.OpenLaw}{n k:Nat}{q:Program}{loose:List Str}{XP:(Str->Option Value)->Heap->Prop}{YP:World->Heap->Prop}{d:DefRec}{K:Params->PySem.W.Frag}{CX:World->CXT}{sp:World->Sp}{x:Str}
  (hn:l.most=some n) (hn2:n<=sizeLine) (hdf:d.params.defaults=[]) (hr:Room k callerA)
  (hY:∀(w:World) (h:Heap),YP w h->(K w.params).In h)
  (F:∀(w:World) (mg:Str->Option Value) (fa:Addr) (h:Heap),(K w.params).In h->h.Ns mainGlobals mg->mg d.name=some (.ref fa) ->
   ∃fd:FuncData,(∀(s:Shared) (u:Value),BindsTo s fd ⟨[u],[]⟩ [(x,u)]) /\
    ∀base:Heap,(K w.params).In base->base.Ns mainGlobals mg->FnOk l.prog w (K w.params) mg base (CX w) k fa fd [x] (sp w))
  (hsp:∀(w:World) (H:Hp) (a:Addr) (ns:List Int),ns.length<=n->Only H->SqL (K w.params) H a (ns.map V.int)->sp w [.ref a] H (fun v _=>v=.bl true) fun _ _ _=>False)
  (hCX:∀(w:World) (H:Hp) (s:Shared) (e:Value) (s':Shared),CX w [] H s (fun _ _ _=>False) e s'->False) :
  PySem.W.WalkO q loose XP YP l.row.toRowW d [] (fun f vs=>PySem.call f vs):=by
 refine Att.attach_call hn hdf fun w s₀ s₁ mg mb fa o pm cd doc a vs ns G Y ho hd hcd hmg hobj hints hlen hg=>?_
 have KX:=hY w _ Y
 obtain ⟨fd,hb,hF⟩:=F w mg fa _ KX G.T.g hmg
 exact zlC KX G.T.g G.T.b G.T.builtins G.T.nolimit hg hobj hints (Nat.le_trans hlen hn2) hr hF hb (fun H hO hS=>hsp w H a ns hlen hO hS) fun H e s'=>hCX w H s₁ e s'
def defArgs (s:Stmt):Arguments:=match s with
 | .FunctionDef _ a _ _ _ _ _ _ _ _=>a
 |_=>{ posonlyargs:=[],args:=[],vararg:=none,kwonlyargs:=[],kw_defaults:=[],kwarg:=none,defaults:=[] }
def defBody (s:Stmt):List Stmt:=match s with
 | .FunctionDef _ _ b _ _ _ _ _ _ _=>b
 |_=>[]
def defScope (s:Stmt):Scope:=match s with
 | .FunctionDef _ _ _ _ _ _ sc _ _ _=>sc
 |_=>{ kind:=.function,names:=[],isGenerator:=false,isCoroutine:=false }
structure Fun (K:PySem.W.Frag)(x qual:Str)(st:Stmt)(f:Addr)(fd:FuncData):Prop where
 ex:∃(oc:Value) (od:Option Addr) (kV doc pm:Value) (an:Option Addr) (cdv ct:Value) (osl:Array (Option Value)),
  fd=PySem.W.fnOf x qual (defArgs st) (defBody st) (defScope st) .none kV doc pm an cdv ct/\K.lookup f=some ⟨oc,od,.func fd,osl⟩/\PySem.W.codeIn K cdv qual=true
 kp:PySem.W.keepIn K (.ref f)=true
section
variable {P:Program}{w:World}{K:PySem.W.Frag}{mg:Str->Option Value}{base:Heap}
theorem Fun.binds {x qual:Str}{st:Stmt}{f:Addr}{fd:FuncData}{ps:List Str}(F:Fun K x qual st f fd)
  (h:∀(kV doc pm:Value) (an:Option Addr) (cdv ct:Value) (us:List Value),us.length=ps.length->bindArgs (PySem.W.fnOf x qual (defArgs st) (defBody st) (defScope st) .none kV doc pm an cdv ct) ⟨us,[]⟩=pure (ps.zip us)):Binds K fd ps []:=by
 obtain ⟨oc,od,kV,doc,pm,an,cdv,ct,osl,rfl,lk,hcd⟩:=F.ex
 exact .all (h kV doc pm an cdv ct)
theorem zme {x qual:Str}{st:Stmt}{f:Addr}{oc:Value}{od an:Option Addr}{osl:Array (Option Value)}{kV doc pm cdv ct:Value}(l:K.lookup f=some ⟨oc,od,.func (PySem.W.fnOf x qual (defArgs st) (defBody st) (defScope st) .none kV doc pm an cdv ct),osl⟩)
  (c:PySem.W.codeIn K cdv qual=true) (k:PySem.W.keepIn K (.ref f)=true):Fun K x qual st f (PySem.W.fnOf x qual (defArgs st) (defBody st) (defScope st) .none kV doc pm an cdv ct):=⟨⟨oc,od,kV,doc,pm,an,cdv,ct,osl,rfl,l,c⟩,k⟩
end
theorem zaR {A:Around}{k:Nat}(hr:Room k A):A.units+1<cLine:=Nat.lt_of_le_of_lt (Nat.add_le_add_left (by decide:1<=64) _) hr.units
section
variable {X:Cx}
end
section
variable {κ:Type}[DecidableEq κ]
def valV (kvs:List (κ×V))(k:κ):Option V:=(kvs.find? fun kv=>decide (kv.1=k)).map (·.2)
def putK (kvs:List (κ×V))(k:κ)(v:V):List (κ×V) :=
 if (kvs.any fun kv=>decide (kv.1=k))=true then kvs.map (fun kv=>if kv.1=k then (kv.1,v) else kv) else kvs++[(k,v)]
theorem zfo {p:κ×V}{r:List (κ×V)}{k:κ}(e:p.1=k):valV (p::r) k=some p.2:=by simp [valV,List.find?_cons,e]
theorem zfb {p:κ×V}{r:List (κ×V)}{k:κ}(e:¬p.1=k):valV (p::r) k=valV r k:=by simp [valV,List.find?_cons,e]
theorem zja (k:κ):∀kvs:List (κ×V),(kvs.any fun kv=>decide (kv.1=k))=(valV kvs k).isSome
 | []=>rfl
 |p::r=>by
  rw [List.any_cons]
  by_cases e:p.1=k
  ·simp only [zfo e,decide_eq_true e,Bool.true_or,Option.isSome_some]
  ·rw [zfb e,decide_eq_false e,Bool.false_or];exact zja k r
theorem zeW (kvs:List (κ×V))(k:κ)(v:V):(putK kvs k v).length<=kvs.length+1:=by
 unfold putK
 split
 ·rw [List.length_map];omega
 ·rw [List.length_append,List.length_cons,List.length_nil];omega
theorem RelO.isSome_eq {o:Option V}{u:Option Value}(r:RelO o u):o.isSome=u.isSome:=by
 cases o with
 |none=>cases u with
  |none=>rfl
  |some _=>exact (show False from r).elim
 |some _=>cases u with
  |none=>exact (show False from r).elim
  |some _=>rfl
theorem RelO.getD {o:Option V}{u:Option Value}{d:V}{d':Value}(r:RelO o u)(rd:RelV d d'):RelV (o.getD d) (u.getD d'):=by
 cases o with
 |none=>cases u with
  |none=>exact rd
  |some _=>exact (show False from r).elim
 |some _=>cases u with
  |none=>exact (show False from r).elim
  |some _=>exact r
theorem KV.val {kvs:List (κ×V)}{vs:List (κ×Value)}(r:KV kvs vs)(k:κ):RelO (valV kvs k) (valueAt vs k):=by
 unfold KV at r
 induction r with
 |nil=>exact True.intro
 | @cons p q ps qs h t ih =>
  obtain ⟨h1,h2⟩:=h
  by_cases e:p.1=k
  ·have e':q.1=k:=h1.symm.trans e
   have b:valueAt (q::qs) k=some q.2:=by simp [valueAt,List.find?_cons,e']
   rw [zfo e,b];exact h2
  ·have e':¬q.1=k:=fun z=>e (h1.trans z)
   have b:valueAt (q::qs) k=valueAt qs k:=by simp [valueAt,List.find?_cons,e']
   rw [zfb e,b];exact ih
theorem KV.any {kvs:List (κ×V)}{vs:List (κ×Value)}(r:KV kvs vs)(k:κ):(kvs.any fun kv=>decide (kv.1=k))=vs.any fun kv=>decide (kv.1=k):=by
 unfold KV at r
 induction r with
 |nil=>rfl
 |cons h t ih=>rw [List.any_cons,List.any_cons,ih,h.1]
theorem KV.repl {kvs:List (κ×V)}{vs:List (κ×Value)}(r:KV kvs vs)(k:κ){y:V}{u:Value}(ry:RelV y u) :
  KV (kvs.map fun kv=>if kv.1=k then (kv.1,y) else kv) (vs.map fun kv=>if kv.1=k then (kv.1,u) else kv):=by
 unfold KV at r ⊢
 induction r with
 |nil=>exact .nil
 | @cons p q ps qs h t ih =>
  rw [List.map_cons,List.map_cons]
  refine .cons ?_ ih
  obtain ⟨h1,h2⟩:=h
  by_cases e:p.1=k
  ·rw [if_pos e,if_pos (h1.symm.trans e)];exact ⟨h1,ry⟩
  ·rw [if_neg e,if_neg (fun z=>e (h1.trans z))];exact ⟨h1,h2⟩
theorem KV.put {kvs:List (κ×V)}{vs:List (κ×Value)}(r:KV kvs vs)(k:κ){y:V}{u:Value}(ry:RelV y u):KV (putK kvs k y) (stored vs k u):=by
 unfold putK stored
 rw [r.any k]
 by_cases e:(vs.any fun kv=>decide (kv.1=k))=true
 ·rw [if_pos e,if_pos e];exact r.repl k ry
 ·rw [if_neg e,if_neg e];exact Paired.snoc r ⟨rfl,ry⟩
theorem KV.length {kvs:List (κ×V)}{vs:List (κ×Value)}(r:KV kvs vs):kvs.length=vs.length:=Paired.length r
end
theorem zlX {P:Program}{w:World}{k:Key}{u:Value}(r:RelV (kV k) u):(mixKind P w).is k u=true:=by
 cases k with
 |inl i=>obtain ⟨t,e⟩:=(show ∃t,u=Value.int i t from r);subst e;exact ziU P w i t
 |inr x=>obtain ⟨t,e⟩:=(show ∃t,u=Value.str x t from r);subst e;exact zit P w x t
theorem zig {P:Program}{w:World}:∀{ks:List Key} {us:List Value},Vals (ks.map kV) us->ItemsAre (mixKind P w) ks us
 | [],_,r=>by rw [List.map_nil] at r;cases r;exact .nil
 |k::ks,_,r=>by
  rw [List.map_cons] at r
  cases r with
  |cons h t=>exact .cons (zlX h) (zig t)
abbrev KT (H:Hp):List (List Key×V)->List (List Key×Addr×Value)->Prop:=Paired fun p q=>p.1=q.1/\H q.2.1=some (.tup (p.1.map kV))/\RelV p.2 q.2.2
theorem KT.val {H:Hp}{kvs:List (List Key×V)}{xs:List (List Key×Addr×Value)}(r:KT H kvs xs)(k:List Key):RelO (valV kvs k) ((atKey xs k).map (·.2)):=by
 induction r with
 |nil=>exact True.intro
 | @cons p q ps qs h t ih =>
  obtain ⟨h1,_,h2⟩:=h
  by_cases e:p.1=k
  ·have e':q.1=k:=h1.symm.trans e
   have b:atKey (q::qs) k=some q.2:=by simp [atKey,List.find?_cons,e']
   rw [zfo e,b];exact h2
  ·have e':¬q.1=k:=fun z=>e (h1.trans z)
   have b:atKey (q::qs) k=atKey qs k:=by simp [atKey,List.find?_cons,e']
   rw [zfb e,b];exact ih
theorem KT.repl {H:Hp}{kvs:List (List Key×V)}{xs:List (List Key×Addr×Value)}(r:KT H kvs xs)(k:List Key){y:V}{u:Value}(ry:RelV y u) :
  KT H (kvs.map fun kv=>if kv.1=k then (kv.1,y) else kv) (xs.map (putAt k u)):=by
 induction r with
 |nil=>exact .nil
 | @cons p q ps qs h t ih =>
  rw [List.map_cons,List.map_cons]
  refine .cons ?_ ih
  obtain ⟨h1,h2,h3⟩:=h
  unfold putAt
  by_cases e:p.1=k
  ·rw [if_pos e,if_pos (h1.symm.trans e)];exact ⟨h1,h2,ry⟩
  ·rw [if_neg e,if_neg (fun z=>e (h1.trans z))];exact ⟨h1,h2,h3⟩
theorem KT.put {H:Hp}{kvs:List (List Key×V)}{xs:List (List Key×Addr×Value)}(r:KT H kvs xs)(k:List Key){b:Addr}{y:V}{u:Value}(hb:H b=some (.tup (k.map kV)))(ry:RelV y u) :
  KT H (putK kvs k y) (storedH xs k b u):=by
 have e:(kvs.any fun kv=>decide (kv.1=k))=(atKey xs k).isSome:=by
  rw [zja,(r.val k).isSome_eq,Option.isSome_map]
 unfold putK storedH
 rw [e]
 by_cases q:(atKey xs k).isSome=true
 ·rw [if_pos q,if_pos q];exact r.repl k ry
 ·rw [if_neg q,if_neg q];exact Paired.snoc r ⟨rfl,hb,ry⟩
theorem KT.keeps {H H':Hp}{kvs:List (List Key×V)}{xs:List (List Key×Addr×Value)}(r:KT H kvs xs)(ht:∀b ys,H b=some (.tup ys)->H' b=some (.tup ys)):KT H' kvs xs :=
 Paired.mapP r fun _ _ z=>⟨z.1,ht _ _ z.2.1,z.2.2⟩
section
variable {P:Program}{w:World}{H:Hp}{h:Heap}{a:Addr}
theorem zoB {u:HO}(ok:HOk P w H h)(e:Rd H a u):ObjOk P w H h a u:=e.ok ok
theorem znd {kvs:List (Key×V)}(ok:HOk P w H h)(e:Rd H a (.dK kvs)):kvs.length<=sizeLine/\(a == sysModules)=false/\∃vs,KV kvs vs/\h.DictOf (mixKind P w) a vs :=
 show ObjOk P w H h a (.dK kvs) from zoB ok e
theorem znF {kvs:List (Key×V)}(ok:HOk P w H h)(e:H a=some (.dK kvs)):kvs.length<=sizeLine/\(a == sysModules)=false/\∃vs,KV kvs vs/\h.DictOf (mixKind P w) a vs:=znd ok (.inl e)
theorem zkF {ks:List Key}(ok:HOk P w H h)(e:H a=some (.tup (ks.map kV))):(tupleKind (mixKind P w)).is h ks a:=by
 obtain ⟨_,its,r,o,h1,h2,n,h3⟩:=(show ObjOk P w H h a (.tup (ks.map kV)) from ok a _ e)
 exact ⟨o,its.toArray,n,h1,h2,h3,by simpa using zig r⟩
theorem znu {kvs:List (List Key×V)}(ok:HOk P w H h)(e:Rd H a (.dT kvs)):kvs.length<=sizeLine/\(a == sysModules)=false /\
  ∃xs,KT H kvs xs/\h.DictOfH (tupleKind (mixKind P w)) a xs:=by
 obtain ⟨z,y,xs,r,o,es,ep,h1,h2,h3,h4,h5⟩:=(show ObjOk P w H h a (.dT kvs) from zoB ok e)
 refine ⟨z,y,xs,r,o,es,ep,h1,h2,h3,h4,fun x hx=>?_,h5⟩
 have all:∀{l:List (List Key×V)} {m:List (List Key×Addr×Value)},KT H l m->∀x∈m,(tupleKind (mixKind P w)).is h x.1 x.2.1:=by
  intro l m q
  induction q with
  |nil=>intro x hx;exact nomatch hx
  | @cons p q ps qs hq t ih =>
   intro x hx
   rcases List.mem_cons.mp hx with e|hx
   ·subst e
    exact zkF ok (by rw [<- hq.1];exact hq.2.1)
   ·exact ih x hx
 exact all r x hx
theorem zoS {kvs:List (List Key×V)}(ok:HOk P w H h)(e:H a=some (.dT kvs)):kvs.length<=sizeLine/\(a == sysModules)=false /\
  ∃xs,KT H kvs xs/\h.DictOfH (tupleKind (mixKind P w)) a xs:=znu ok (.inl e)
end
def DGet (H:Hp)(a:Addr)(y:V)(r:Option V):Prop :=
 (∃kvs k,Rd H a (.dK kvs)/\y=kV k/\r=valV kvs k) \/ ∃kvs k b,Rd H a (.dT kvs)/\y=.ref b/\H b=some (.tup (k.map kV))/\r=valV kvs k
def DPut (H:Hp)(a:Addr)(y v:V)(H':Hp):Prop :=
 (∃kvs k,H a=some (.dK kvs)/\y=kV k/\kvs.length<sizeLine/\H'=upd H a (.dK (putK kvs k v))) \/
 ∃kvs k b,H a=some (.dT kvs)/\y=.ref b/\H b=some (.tup (k.map kV))/\kvs.length<sizeLine/\H'=upd H a (.dT (putK kvs k v))
section
variable {X:Cx}{pins:List (Addr×Obj)}{σ:St}{H:Hp}{s:Shared}{a:Addr}{y v:V}{u r:Value}{o:Option V}{A:Around}{E:Value->Shared->Prop}
theorem Inv.big (I:Inv X pins σ H s):sysModules<s.heap.objs.size:=by
 have h:mainGlobals<s.heap.objs.size:=(I.mod.glob.keeps I.bk).lt
 exact Nat.lt_trans (by decide) h
theorem ziD {h':Heap}{t':Nat}{ob:HO}(I:Inv X pins σ H s)(mu:Mut (H a))(hs:Heap.SameBut a s.heap h')(he:∃q,h'.get? a=some q)(new:ObjOk X.prog X.w (upd H a ob) h' a ob) :
  Inv X pins σ (upd H a ob) { s with heap:=h',toks:=t' } :=
 I.write (x:=a) (e:=a) mu (.inl rfl) (fun b q hb z=>(hs.2 b hb).trans z) he new
theorem zmb {P:Program}{w:World}{H':Hp}{h':Heap}{kvs:List (Key×V)}{vs:List (Key×Value)}(z:kvs.length<=sizeLine)(hd:(a == sysModules)=false)(rel:KV kvs vs)(dd:h'.DictOf (mixKind P w) a vs) :
  ObjOk P w H' h' a (.dK kvs):=⟨z,hd,vs,rel,dd⟩
theorem zjY {H':Hp}{Q:Unit->Shared->Prop}(hu:A.units+1<cLine)(I:Inv X pins σ H s)(g:DPut H a y v H')(ry:RelV y u)(rv:RelV v r)(h:∀s',Inv X pins σ H' s'->Q () s') :
  wpAny (model X.prog X.w) A (setItem (.ref a) u r) Q E s:=by
 rcases g with ⟨kvs,k,e,ey,l,eH⟩|⟨kvs,k,b,e,ey,eb,l,eH⟩
 ·subst ey eH
  obtain ⟨z,hd,vs,rel,dd⟩:=znF I.hok e
  have hz:vs.length<=sizeLine:=by rw [<- rel.length];exact z
  have hl:(putK kvs k v).length<=sizeLine:=by have:=zeW kvs k v;omega
  refine wpAny_setItem_pairs (hsz:=hz) (zlX ry) dd fun h' dd' hs=>h _ ?_
  have he:∃q,h'.get? a=some q:=let ⟨q,_,_,hq,_⟩:=dd';⟨q,hq⟩
  exact ziD I (by rw [e];exact True.intro) hs he (zmb hl hd (rel.put k rv) dd')
 ·subst ey eH
  cases (show u=Value.ref b from ry)
  obtain ⟨z,hd,xs,rel,dd⟩:=zoS I.hok e
  have hz:xs.length<=sizeLine:=by rw [<- Paired.length rel];exact z
  have hl:(putK kvs k v).length<=sizeLine:=by have:=zeW kvs k v;omega
  refine wpAny_setItem_heap (hsz:=hz) (tupleKind_room_in1 hu) (zkF I.hok eb) dd fun h' dd' hs=>h _ ?_
  obtain ⟨q,es,ep,hq,h2,h3,h4,_,h5⟩:=dd'
  refine ziD I (by rw [e];exact True.intro) hs ⟨q,hq⟩ ⟨hl,hd,_,(rel.put k eb rv).keeps fun c ys ec=>?_,q,es,ep,hq,h2,h3,h4,h5⟩
  rw [z4 (zoV ec e (fun z=>nomatch z))]
  exact ec
end
section
variable {X:Cx}{pins:List (Addr×Obj)}{σ:St}{H:Hp}{s:Shared}{a:Addr}{kvs:List (Key×V)}{k:Key}{u:Value}{A:Around}{E:Value->Shared->Prop}
end
def NoSl (i:Expr):Prop:=∀ov iv,subscripted i false ov iv=operate [ov,iv] (getItem ov iv)
theorem znj {prog:Program}{w:World}{A:Around}{E:Value->Shared->Prop}{s:Shared}{env:Env}{value slice:Expr}{pos:Pos}{T id:String}{Q:Value->Shared->Prop}
  (hl:typeLookup (.type T) "__getitem__"=pure (some (.builtin id))) (hs:NoSl slice)
  (h:wpAny (model prog w) A (eval value env) (fun o s₁=>wpAny (model prog w) A (eval slice env) (fun i s₂=>s₂.TypeIs o T/\wpAny (model prog w) A (getItem o i) Q E s₂) E s₁) E s) :
  wpAny (model prog w) A (eval (.Subscript value slice pos) env) Q E s:=by
 refine Subscript_ (wpAny_mono h (fun o s₁ h₁=>wpAny_mono h₁ (fun i s₂ h₂=>?_) fun _ _ x=>x) fun _ _ x=>x)
 obtain ⟨hT,h₂⟩:=h₂
 unfold subscriptTail
 refine wpAny_bind ?_
 rw [getitemInPython_of_ne hT.not_modules]
 refine wpAny_bind (wpAny_specialOf hT hl ?_)
 have fin:wpAny (model prog w) A (subscripted slice false o i) (fun r s₃=>wpAny (model prog w) A (letTemporaryGo value o r >>= fun _=>pure r) Q E s₃) E s₂:=by
  rw [hs o i]
  exact wpAny_operating (wpAny_mono h₂ (fun r s₃ h₃=>wpAny_bind (wpAny_letTemporaryGo (wpAny_pure h₃))) fun _ _ x=>x)
 first
  | exact wpAny_pure (wpAny_bind fin)
  | exact wpAny_bind (wpAny_pure (wpAny_bind fin))
  | exact wpAny_bind fin
def sDPut (td ty tv:TE):TS:=fun D σ H=>tv σ H fun v H1=>td σ H1 fun x H2=>ty σ H2 fun y H3=>∃a H4,x=.ref a/\DPut H3 a y v H4/\D.nx σ H4
section
variable {X:Cx}{o i e value:Expr}{pos pos' tpos:Pos}{td ty tv:TE}
theorem zm7 (hu:X.A.units+1<cLine)(ho:PE X o td)(hi:PE X i ty)(hv:PE X value tv)(hs:swapsWith value (some (.Subscript o i pos')) pos.line X.env=pure false) :
  PS X (.Assign [.Subscript o i pos'] value pos) (sDPut td ty tv):=by
 intro pins s σ H D I h
 refine wpAny_Assign_Subscript (thn (hv pins s σ H _ I h) fun r s1 ⟨v,H1,I1,rv,q1⟩=>thn (ho pins s1 σ H1 _ I1 q1) fun u s2 ⟨x,H2,I2,rx,q2⟩=>thn (hi pins s2 σ H2 _ I2 q2) fun iv s3 ⟨y,H3,I3,ry,a,H4,ex,g,q3⟩=>?_) hs
 subst ex
 obtain rfl:u=Value.ref a:=rx
 exact zjY hu I3 g ry rv fun s4 I4=>⟨σ,H4,I4,q3⟩
end
theorem zlu {P:Program}{w:World}{H:Hp}(h:Heap)(hb:sysModules<h.objs.size):ObjOk P w H (h.push { cls:=.type "dict",data:=.dict #[] }) h.objs.size (.dK []) :=
 ⟨Nat.zero_le _,beq_eq_false_iff_ne.mpr (Ne.symm (Nat.ne_of_lt hb)),[],.nil,Heap.DictOf.new h⟩
section
variable {X:Cx}{pos:Pos}
end
def tPairs:List (TE×TE)->St->Hp->(List (V×V)->Hp->Prop)->Prop
 | [],_,H,Q=>Q [] H
 | (tk,tv)::r,σ,H,Q=>tk σ H fun x H1=>tv σ H1 fun y H2=>tPairs r σ H2 fun ps H3=>Q ((x,y)::ps) H3
abbrev VV:List (V×V)->List (Value×Value)->Prop:=Paired fun p q=>RelV p.1 q.1/\RelV p.2 q.2
def PPs (X:Cx)(pos:Pos)(keys:List (Option Expr))(values:List Expr)(trs:List (TE×TE)):Prop :=
 ∀(pins:List (Addr×Obj)) (s:Shared) (σ:St) (H:Hp) (Q:List (V×V)->Hp->Prop),Inv X pins σ H s->tPairs trs σ H Q ->
  wpAny (model X.prog X.w) X.A (evalPairs (pairTrees keys values X.env pos)) (fun vs s'=>∃ps H',Inv X pins σ H' s'/\VV ps vs/\Q ps H') X.xe s
theorem znc {X:Cx}{pos:Pos}:PPs X pos [] [] []:=fun pins s σ H Q I h=>pairTrees_nil_walk ⟨[],H,I,.nil,h⟩
theorem zlB {X:Cx}{pos:Pos}{k v:Expr}{ks:List (Option Expr)}{vs:List Expr}{tk tv:TE}{trs:List (TE×TE)}(hk:PE X k tk)(hv:PE X v tv)(hr:PPs X pos ks vs trs) :
  PPs X pos (some k::ks) (v::vs) ((tk,tv)::trs):=fun pins s σ H Q I h =>
 pairTrees_cons_walk (thn (hk pins s σ H _ I h) fun u s1 ⟨x,H1,I1,rx,q1⟩=>thn (hv pins s1 σ H1 _ I1 q1) fun w2 s2 ⟨y,H2,I2,ry,q2⟩ =>
  thn (hr pins s2 σ H2 _ I2 q2) fun ws s3 ⟨ps,H3,I3,rel,q3⟩=>⟨(x,y)::ps,H3,I3,.cons ⟨rx,ry⟩ rel,q3⟩)
def mergeK (kvs more:List (Key×V)):List (Key×V):=more.foldl (fun acc kv=>putK acc kv.1 kv.2) kvs
theorem KV.merge:∀{more:List (Key×V)} {rs:List (Key×Value)} {kvs:List (Key×V)} {vs:List (Key×Value)},KV more rs->KV kvs vs->KV (mergeK kvs more) (merged vs rs):=by
 intro more rs kvs vs r
 unfold KV at r
 induction r generalizing kvs vs with
 |nil=>intro q;exact q
 | @cons p q ps qs h t ih =>
  intro r0
  have e:KV (putK kvs p.1 p.2) (stored vs q.1 q.2):=by
   have:=r0.put p.1 h.2
   rw [<- h.1];exact this
  exact ih e
theorem zfp:∀(more kvs:List (Key×V)),(mergeK kvs more).length<=kvs.length+more.length
 | [],kvs=>by show kvs.length<=kvs.length+0;omega
 |p::r,kvs=>by
  have h1:=zfp r (putK kvs p.1 p.2)
  have h2:=zeW kvs p.1 p.2
  show (mergeK (putK kvs p.1 p.2) r).length<=_
  rw [List.length_cons];omega
theorem zhg {P:Program}{w:World}:∀{kvs:List (Key×V)} {ws:List (Value×Value)},VV (kvs.map fun kv=>(kV kv.1,kv.2)) ws->∃rs,Carries (mixKind P w) ws rs/\KV kvs rs
 | [],_,r=>by rw [List.map_nil] at r;cases r;exact ⟨[],True.intro,.nil⟩
 |p::kvs,_,r=>by
  rw [List.map_cons] at r
  cases r with
  | @cons a b as bs h t =>
   obtain ⟨rs,c,q⟩:=zhg (P:=P) (w:=w) t
   obtain ⟨b1,b2⟩:=b
   exact ⟨(p.1,b2)::rs,⟨zlX h.1,rfl,c⟩,.cons ⟨rfl,h.2⟩ q⟩
def tDisp (trs:List (TE×TE)):TE:=fun σ H Q=>∀p,H p=none->tPairs trs σ (upd H p (.dK [])) fun ps H2=>H2 p=some (.dK [])/\∃kvs:List (Key×V),ps=kvs.map (fun kv=>(kV kv.1,kv.2))/\kvs.length<=15/\Q (.ref p) (upd H2 p (.dK (mergeK [] kvs)))
theorem zng {X:Cx}{pos:Pos}{keys:List (Option Expr)}{values:List Expr}{trs:List (TE×TE)}(h:PPs X pos keys values trs)(hall:keys.all (·.isSome)=true)(hl:keys.length=values.length)(h0:keys≠[])
  (h15:keys.length<=15):PE X (.Dict keys values pos) (tDisp trs):=by
 intro pins s σ H Q I q
 have hn:=I.hok.fresh (Nat.le_refl s.heap.objs.size)
 have I1:=I.laid (a:=s.heap.objs.size) (o:=.dK []) (h':=s.heap.push { cls:=.type "dict",data:=.dict #[] }) (t':=s.toks) (fun _ _ q=>Heap.get?_push_of_some _ q) (Nat.le_refl _) (zlu s.heap I.big)
 refine wpAny_Dict_walk (knd:=mixKind X.prog X.w) hall hl h0 h15 (thn (h pins _ σ _ _ I1 (q _ hn)) fun ws s2 ⟨ps,H2,I2,rel,e,kvs,ep,lk,q2⟩=>?_)
 subst ep
 obtain ⟨rs,c,rk⟩:=zhg (P:=X.prog) (w:=X.w) rel
 obtain ⟨z,hd,vs0,r0,dd⟩:=znF I2.hok e
 cases r0
 refine ⟨rs,c,dd,fun h' dd' hs=>⟨.ref s.heap.objs.size,_,?_,rfl,q2⟩⟩
 have hz:(mergeK [] kvs).length<=sizeLine:=by
  have h1:=zfp kvs []
  rw [List.length_nil] at h1
  rw [sizeLine_eq];omega
 have he:∃q,h'.get? s.heap.objs.size=some q:=let ⟨q,_,_,hq,_⟩:=dd';⟨q,hq⟩
 exact ziD I2 (by rw [e];exact True.intro) hs he (zmb hz hd (rk.merge .nil) dd')
structure M2 (X:Cx)(o:Expr)(m:Str)(apos:Pos)(e f:Expr)(cpos:Pos):Prop where
 base:attributeBase o m X.env (eval o X.env)=eval o X.env
 few:((backTo cpos (starEach [e,f] X.env)).all (fun x=>!x.1) && (backToKw cpos (keywordEach [] X.env)).all (fun x=>x.1.isSome)
  && decide (([e,f]:List Expr).length+([]:List Keyword).length+(if ([]:List Keyword).isEmpty then 0 else 1)<30))=true
 line:(apos.endLine == cpos.line)=true
 trees:backTo cpos (starEach [e,f] X.env)=[(false,eval e X.env),(false,eval f X.env)]
def IsD (H:Hp)(a:Addr):Prop:=(∃kvs,Rd H a (.dK kvs)) \/ ∃kvs,Rd H a (.dT kvs)
theorem znT {X:Cx}{pins:List (Addr×Obj)}{σ:St}{H:Hp}{s:Shared}{a:Addr}(I:Inv X pins σ H s)(d:IsD H a) :
  s.TypeIs (.ref a) "dict"/\(∀b,Value.ref a=.ref b->∃ob,s.heap.get? b=some ob/\ob.dict=none)/\(a == sysModules)=false:=by
 rcases d with ⟨kvs,e⟩|⟨kvs,e⟩
 ·obtain ⟨_,hd,vs,_,dd⟩:=znd I.hok e
  refine ⟨dd.typeIs,fun b q=>?_,hd⟩
  cases q
  obtain ⟨ob,_,_,h1,h2,_⟩:=dd
  exact ⟨ob,h1,h2.2.1⟩
 ·obtain ⟨_,hd,xs,_,dd⟩:=znu I.hok e
  refine ⟨dd.typeIs,fun b q=>?_,hd⟩
  cases q
  obtain ⟨ob,_,_,h1,h2,_⟩:=dd
  exact ⟨ob,h1,h2.2.1⟩
section
variable {X:Cx}{pins:List (Addr×Obj)}{σ:St}{H:Hp}{s:Shared}{a:Addr}{y d:V}{u r:Value}{o:Option V}{A:Around}{E:Value->Shared->Prop}
theorem znV {Q:Value->Shared->Prop}(hu:A.units+1<cLine)(I:Inv X pins σ H s)(g:DGet H a y o)(ry:RelV y u)(rd:RelV d r)(h:∀w' s',Inv X pins σ H s'->RelV (o.getD d) w'->Q w' s') :
  wpAny (model X.prog X.w) A (call (.builtin "dict.get") [.ref a,u,r]) Q E s:=by
 rcases g with ⟨kvs,k,e,ey,l⟩|⟨kvs,k,b,e,ey,eb,l⟩
 ·subst ey
  obtain ⟨z,hd,vs,rel,dd⟩:=znd I.hok e
  refine call_meetsIn PySem.F.slot_dict_get dd.typeIs PySem.F.entry_dict_get (PySem.F.args_dict_get_3 _ _ _) (meets_dict_get_default (mixKind X.prog X.w) a (zlX ry) hd r) ⟨_,dd.mapOf,h _ _ (I.tok _) ?_⟩
  rw [l]
  exact (rel.val k).getD rd
 ·subst ey
  cases (show u=Value.ref b from ry)
  obtain ⟨z,hd,xs,rel,dd⟩:=znu I.hok e
  refine call_meetsIn PySem.F.slot_dict_get dd.typeIs PySem.F.entry_dict_get (PySem.F.args_dict_get_3 _ _ _) (meetsH_dict_get_default (tupleKind (mixKind X.prog X.w)) a b hd r) ⟨tupleKind_room_in1 hu,k,xs,zkF I.hok eb,dd,h _ _ (I.tok _) ?_⟩
  rw [l]
  exact (rel.val k).getD rd
end
def tDGet2 (td ty tx:TE):TE:=fun σ H Q=>td σ H fun x H1=>∃a,x=.ref a/\IsD H1 a/\ty σ H1 fun y H2=>tx σ H2 fun z H3=>∃o,DGet H3 a y o/\Q (o.getD z) H3
section
variable {X:Cx}{o e f:Expr}{apos cpos:Pos}{td ty tx:TE}
theorem zlY (hu:X.A.units+1<cLine)(ho:PE X o td)(he:PE X e ty)(hf:PE X f tx)(m:M2 X o "get" apos e f cpos):PE X (.Call (.Attribute o "get" apos) [e,f] [] cpos) (tDGet2 td ty tx):=by
 intro pins s σ H Q I h
 refine wpAny_Call_method m.base m.few m.line PySem.F.plainAttrs_dict PySem.F.slot_dict_get PySem.F.type_dict_get (thn (ho pins s σ H _ I h) fun u s1 ⟨x,H1,I1,rx,a,ex,d,q1⟩=>?_)
 subst ex
 obtain rfl:u=Value.ref a:=rx
 obtain ⟨t1,t2,_⟩:=znT I1 d
 refine ⟨t1,t2,?_⟩
 rw [m.trees]
 refine Calls.callWith_builtin rfl (Calls.evalArgs_plain (Calls.spliced_cons (thn (he pins s1 σ H1 _ I1 q1) fun iv s2 ⟨y,H2,I2,ry,q2⟩ =>
  Calls.spliced_cons (thn (hf pins s2 σ H2 _ I2 q2) fun fv s3 ⟨z,H3,I3,rz,ov,g,q3⟩=>Calls.spliced_nil ?_))))
 exact znV hu I3 g ry rz fun w' s4 I4 rw'=>⟨_,H3,I4,rw',q3⟩
end
section
variable {X:Cx}{pins:List (Addr×Obj)}{σ:St}{H:Hp}{s:Shared}{a:Addr}{kvs:List (Key×V)}{A:Around}{E:Value->Shared->Prop}
end
section
variable {X:Cx}{pins:List (Addr×Obj)}{σ:St}{H:Hp}{s:Shared}{a:Addr}{y:V}{u:Value}{A:Around}{E:Value->Shared->Prop}
end
end L2
namespace WE
open PySem PySem.Spec PyProof.Rows
open AutoSeq1 (wpAny_loadPart')
section
variable {pg:Program}{wd:World}{A:Around}{Er:Value->Shared->Prop}{s:Shared}
theorem zfH {it t:Addr}{i:Nat}{xs:Array Value}{x:Value}{Q:Value->Shared->Prop}(hi:s.heap.IsTupleIter it t i)(ht:s.heap.IsTuple t xs)(hx:xs[i]?=some x)
  (k:∀h',h'.IsTupleIter it t (i+1)->Heap.SameBut it s.heap h'->Q x { s with heap:=h' }):wpAny (model pg wd) A (Builtin.SmallTypes.nextOf (.ref it)) Q Er s:=by
 obtain ⟨oi,gi,ci,di⟩:=id hi
 obtain ⟨ot,gt,_,nt,dt⟩:=ht
 unfold Builtin.SmallTypes.nextOf
 refine wpAny_bind (wpAny_callSpecial?_slot (name:=Str.ofString "__next__") hi.typeIs F.slot_tuple_iterator_next (wpAny_call_entry F.slot_tuple_iterator_next hi.typeIs F.entry_tuple_iterator_next ?_ (F.args_tuple_iterator_next_1 _)))
 show wpAny _ _ (field (.ref it) 0 >>= _) _ _ _
 refine wpAny_bind (wpAny_field gi di (x:=.ref t) rfl ?_);show wpAny _ _ (if (Value.ref t == Value.none)=true then _ else _) _ _ _
 rw [if_neg (show ¬((Value.ref t == Value.none)=true) from fun z=>Bool.false_ne_true z)];show wpAny _ _ (field (.ref it) 1 >>= _) _ _ _
 refine wpAny_bind (wpAny_field gi di (x:=.int i 0) rfl ?_);show wpAny _ _ (seqItems? (.ref t) >>= _) _ _ _
 refine wpAny_bind (wpAny_seqItems gt dt ?_)
 simp only [Int.toNat_natCast,hx]
 refine wpAny_bind (wpAny_setField gi di (by simp) (wpAny_pure ⟨x,rfl,wpAny_pure (k _ ?_ (Heap.SameBut.update ..))⟩))
 refine ⟨_,Heap.get?_update_self _ gi (Obj.isFreed_of_fields (Obj.data_mapFields di _)),(Obj.cls_mapFields ..).trans ci,?_⟩
 rw [Obj.data_mapFields di];simp [rawInt]
theorem zid {it t:Addr}{i:Nat}{xs:Array Value}{Q:Value->Shared->Prop}(hh:A.handled=none)(hi:s.heap.IsTupleIter it t i)(ht:s.heap.IsTuple t xs)(hx:xs[i]?=none)
  (k:∀h' e,Heap.ExtBut it s.heap h'->(∃o,h'.get? e=some o/\o.cls=.type "StopIteration")->Er (.ref e) { s with heap:=h' }):wpAny (model pg wd) A (Builtin.SmallTypes.nextOf (.ref it)) Q Er s:=by
 obtain ⟨oi,gi,ci,di⟩:=id hi
 obtain ⟨ot,gt,_,nt,dt⟩:=ht
 unfold Builtin.SmallTypes.nextOf
 refine wpAny_bind (wpAny_callSpecial?_slot (name:=Str.ofString "__next__") hi.typeIs F.slot_tuple_iterator_next (wpAny_call_entry F.slot_tuple_iterator_next hi.typeIs F.entry_tuple_iterator_next ?_ (F.args_tuple_iterator_next_1 _)))
 show wpAny _ _ (field (.ref it) 0 >>= _) _ _ _
 refine wpAny_bind (wpAny_field gi di (x:=.ref t) rfl ?_);show wpAny _ _ (if (Value.ref t == Value.none)=true then _ else _) _ _ _
 rw [if_neg (show ¬((Value.ref t == Value.none)=true) from fun z=>Bool.false_ne_true z)];show wpAny _ _ (field (.ref it) 1 >>= _) _ _ _
 refine wpAny_bind (wpAny_field gi di (x:=.int i 0) rfl ?_);show wpAny _ _ (seqItems? (.ref t) >>= _) _ _ _
 refine wpAny_bind (wpAny_seqItems gt dt ?_)
 simp only [Int.toNat_natCast,hx]
 refine wpAny_bind (wpAny_rule (wpAny_bind (wpAny_setField gi di (by simp) ?_)));show wpAny _ _ (newExc (.type "StopIteration") [] >>= _) _ _ _
 refine wpAny_bind ?_;simp only [newExc,newTuple]
 refine wpAny_bind (wpAny_newObj_type ?_ (by size_fits));refine wpAny_bind (m:=firstArgMember _ _) (wpAny_of_eq (a:=Value.none) (by first|rfl|(simp only [firstArgMember];rfl)) ?_)
 refine wpAny_newObj_type ?_ (by size_fits);simp only [raiseNew]
 refine wpAny_bind (wpAny_handled ?_);first|rw [show A.in1.handled=none from hh]|rw [hh]
 refine wpAny_bind (wpAny_pure (wpAny_throw ?_))
 exact k _ _ (((Heap.SameBut.update ..).extBut.push _).push _) ⟨_,Heap.get?_push_size _ rfl,rfl⟩
end
theorem draws_tuple {pg:Program}{wd:World}{A:Around}(hh:A.handled=none)(it t:Addr)(hne:t≠it)(xs:Array Value) :
  Draws pg wd A it [it,t] xs.size (fun i v=>xs[i]?=some v) (fun i h=>h.IsTupleIter it t i/\h.IsTuple t xs) where
 live:=fun _ _ st=>let ⟨o,g,_⟩:=st.1;⟨o,g⟩
 frame:=fun _ _ _ st kp=>⟨let ⟨o,g,r⟩:=st.1;⟨o,kp it (by simp) o g,r⟩,let ⟨o,g,r⟩:=st.2;⟨o,kp t (by simp) o g,r⟩⟩
 item:=fun i s Q E hi st hQ=>zfH st.1 st.2 (x:=xs[i]) (by simp [hi]) fun h' hit' hs'=>hQ _ h' s.toks (by simp [hi]) ⟨hit',st.2.extBut hs'.extBut hne⟩ hs'
 done:=fun s Q E st hE=>zid hh st.1 st.2 (by simp) hE
theorem ziK (l:Addr)(xs:Array Value)(n:Nat)(dc:Option Addr)(sl:Array (Option Value)) :
  Meets (Builtin.«enumerate.__new__» ⟨[.type "enumerate",.ref l],[]⟩) (fun _ R s=>s.heap.get? l=some { cls:=.type "tuple",dict:=dc,data:=.seq xs n,slots:=sl } /\
   R (.ok (.ret (.ref (s.heap.push { cls:=.type "tuple_iterator",data:=.fields #[.ref l,.int 0 0] }).objs.size)))
    { s with heap:=(s.heap.push { cls:=.type "tuple_iterator",data:=.fields #[.ref l,.int 0 0] }).push { cls:=.type "enumerate",data:=.fields #[.none,.bool false,.ref s.heap.objs.size,rawInt 0,.none,.none] } }) :=
 .of_wp fun prog w A R s h=>by
  obtain ⟨hp,g,d,tk,os⟩:=s;obtain ⟨gl,h⟩:=h
  have hsub:=sub_enumerate
  have hT:Heap.IsTuple (Shared.heap ⟨hp,g,d,tk,os⟩) l xs:=⟨_,gl,rfl,n,rfl⟩
  wp_walk using wpAny_loadPart' gl
  refine wpAny_stack_any fun st=>wpAny_pure ?_
  split
  ·rename_i c _ _ _ _ _
   cases (c == Value.type "enumerate")
   ·wp_walk using wpAny_loadPart' gl,wpAny_pyIter_tuple hT
    exact ⟨_,rfl,h⟩
   ·wp_walk using wpAny_loadPart' gl,wpAny_pyIter_tuple hT
    exact ⟨_,rfl,h⟩
  ·wp_walk using wpAny_loadPart' gl,wpAny_pyIter_tuple hT
   exact ⟨_,rfl,h⟩
theorem call_enumT {pg:Program}{wd:World}{A:Around}{Er:Value->Shared->Prop}{s:Shared}{l:Addr}{xs:Array Value}{Q:Value->Shared->Prop}(hT:s.heap.IsTuple l xs)
  (k:∀h',IsEnum h' (s.heap.objs.size+1) s.heap.objs.size 0 .none->h'.IsTupleIter s.heap.objs.size l 0->h'.objs.size=s.heap.objs.size+2 ->
   (∀b o,s.heap.get? b=some o->h'.get? b=some o)->Q (.ref (s.heap.objs.size+1)) { s with heap:=h' }):wpAny (model pg wd) A (call (.type "enumerate") [.ref l]) Q Er s:=by
 obtain ⟨⟨c,dct,dt,sl⟩,gl,hc,n,hd⟩:=hT
 cases (show c=.type "tuple" from hc)
 cases (show dt=.seq xs n from hd)
 refine callType_new F.called_enumerate (by decide) (F.typeCall_enumerate_1 _) (F.newCall_enumerate_1 _) (fun obj=>F.args_object_init_2 obj _) F.entry_enumerate_new (ziK l xs n dct sl) ⟨gl,?_⟩
 have hz:(s.heap.push { cls:=.type "tuple_iterator",data:=.fields #[.ref l,.int 0 0] }).objs.size=s.heap.objs.size+1:=Heap.size_push ..
 show _/\_
 rw [hz]
 have he:IsEnum ((s.heap.push { cls:=.type "tuple_iterator",data:=.fields #[.ref l,.int 0 0] }).push { cls:=.type "enumerate",data:=.fields #[.none,.bool false,.ref s.heap.objs.size,rawInt 0,.none,.none] }) (s.heap.objs.size+1) s.heap.objs.size 0 .none:=by
  have q:=Heap.get?_push_size (s.heap.push { cls:=.type "tuple_iterator",data:=.fields #[.ref l,.int 0 0] }) (o:={ cls:=.type "enumerate",data:=.fields #[.none,.bool false,.ref s.heap.objs.size,rawInt 0,.none,.none] }) rfl
  rw [hz] at q;exact q
 exact ⟨⟨_,he,rfl⟩,k _ he ⟨_,Heap.get?_push_of_some _ (Heap.get?_push_size _ rfl),rfl,rfl⟩ (by rw [Heap.size_push,hz]) fun b o y=>Heap.get?_push_of_some _ (Heap.get?_push_of_some _ y)⟩
end WE
namespace L2
open PySem PySem.Spec PyProof.Rows
section
variable {X:Cx}
def CDivB (i j:Int):Prop:=0<j/\j<10000000000000000000000000000000000000000000000000000000000000000000000
theorem zma:OpR X (binaryOp .FloorDiv) (rI CDivB fun i j=>.int (i / j)):=opI fun i j _ _ _ _ _ hc q=>by
 obtain ⟨h1,h2⟩:=hc
 refine floordiv_int (by omega) (by rw [Int.fdiv_eq_ediv_of_nonneg i (by omega)];exact q) (.inl (PyProof.noPylong_of_log2 ?_))
 have h0:j.natAbs≠0:=by omega
 refine Nat.lt_of_lt_of_le ((Nat.log2_lt h0).mpr (?_:j.natAbs<2 ^ 250)) (by decide)
 have e:(10000000000000000000000000000000000000000000000000000000000000000000000:Nat)<2 ^ 250:=by decide
 omega
end
section
variable {X:Cx}{pins:List (Addr×Obj)}{σ:St}{H:Hp}{s:Shared}{h':Heap}
theorem Inv.turnLaid {t':Nat}{ch:List Addr}{T:Addr}{o:HO}(I:Inv X pins σ H s)(hf:∀b∈ch,FpOk X pins H b)(k:∀b u,b∉ch->s.heap.get? b=some u->h'.get? b=some u)
  (hp:s.heap.objs.size<=T) (new:ObjOk X.prog X.w (upd H T o) h' T o):Inv X pins σ (upd H T o) { s with heap:=h',toks:=t' }:=by
 have hn:H T=none:=I.hok.fresh hp
 have nch:∀b u,H b=some u->b∉ch:=fun b u e z=>by
  have q:=(hf b z).1
  rw [e] at q
  cases q
 refine I.step (g':=s.gens) (d':=s.drawn) (ch:=ch) (fun b hb=>?_) (fun b u _ _ hc e _=>k b u hc e) (fun b u _ _ hc e _=>⟨u.slots,k b u hc e⟩) (fun b u _ e n=>?_) (fun b u hc e=>⟨u,k b u hc e⟩) (fun b xs e=>?_) (fun b u v e=>?_) (fun b ps e=>⟨#[],?_⟩) (fun m hm=>?_) (fun b u e=>?_) I.bare
 ·obtain ⟨f0,f1,f2,f3,f4,f5⟩:=hf b hb
  exact ⟨f3,f1,f4,f5⟩
 ·rw [z4 (Nat.ne_of_lt (Nat.lt_of_lt_of_le (Heap.lt_size e) hp))]
  exact n
 ·rw [z4 (zad e hn)]
  exact e
 ·rw [z4 (zad e hn)]
  exact e
 ·rw [z4 (zad e hn),e]
  simp
 ·obtain ⟨ob,es,ep,ho,r⟩:=hm
  exact ⟨ob,es,ep,k _ ob (fun z=>(hf _ z).2.1 rfl) ho,r⟩
 ·by_cases hb:b=T
  ·subst hb
   rw [zal] at e
   cases e
   exact new
  ·rw [z4 hb] at e
   refine (I.hok b u e).stay (fun c v hc q=>k c v ?_ q) (fun c q=>by rw [z4 (zad q hn)];exact q) fun c xs q=>by rw [z4 (zad q hn)];exact q
   rcases hc with z|z
   ·rw [z]
    exact nch b u e
   ·exact nch c _ z
theorem Inv.turnedL {t':Nat}{ch:List Addr}(I:Inv X pins σ H s)(hf:∀b∈ch,FpOk X pins H b)(k:∀b u,b∉ch->s.heap.get? b=some u->h'.get? b=some u):Inv X pins σ H { s with heap:=h',toks:=t' }:=by
 have nch:∀b u,H b=some u->b∉ch:=fun b u e z=>by
  have q:=(hf b z).1
  rw [e] at q
  cases q
 refine I.step (g':=s.gens) (d':=s.drawn) (ch:=ch) (fun b hb=>?_) (fun b u _ _ hc e _=>k b u hc e) (fun b u _ _ hc e _=>⟨u.slots,k b u hc e⟩) (fun _ _ _ _ n=>n) (fun b u hc e=>⟨u,k b u hc e⟩) (fun _ _ e=>e) (fun _ _ _ e=>e) (fun b ps e=>⟨#[],by rw [e];simp⟩) (fun m hm=>?_) (fun b u e=>?_) I.bare
 ·obtain ⟨f0,f1,f2,f3,f4,f5⟩:=hf b hb
  exact ⟨f3,f1,f4,f5⟩
 ·obtain ⟨ob,es,ep,ho,r⟩:=hm
  exact ⟨ob,es,ep,k _ ob (fun z=>(hf _ z).2.1 rfl) ho,r⟩
 ·refine (I.hok b u e).stay (fun c v hc q=>k c v ?_ q) (fun _ q=>q) fun _ _ q=>q
  rcases hc with z|z
  ·rw [z]
   exact nch b u e
  ·exact nch c _ z
end
def Ite (K:PySem.W.Frag)(a:Addr):It :=
 ⟨fun i H=>∃xs x,SqT K H a xs/\xs[i]?=some x,fun i H x H'=>∃T,H T=none/\x=.ref T/\∀xs y,SqT K H a xs->xs[i]?=some y->H'=upd H T (.tup [.int i,y]),fun i H=>∃xs,SqT K H a xs/\xs.length=i⟩
theorem zhi {h:Heap}{a b:Addr}{o u:Obj}(x:h.get? a=some o)(y:h.get? b=some u)(z:o.cls≠u.cls):a≠b:=fun e=>by
 subst e
 rw [x] at y
 cases y
 exact z rfl
theorem zjq {P:Program}{w:World}{K:PySem.W.Frag}{es:List Expr}{kk:Nat}{pos:Pos}(a e it:Addr) :
  Turn P w K (.Tuple es kk pos) (Ite K a) [e,it] e (fun i h=>(∃old,IsEnum h e it i old)/\h.IsTupleIter it a i) where
 mem:=by simp
 obj:=fun i h st b hb=>by
  obtain ⟨⟨old,he⟩,oi,gi,ci,di⟩:=st
  rcases List.mem_cons.mp hb with z|z
  ·subst z
   exact ⟨_,he,fun v y=>nomatch y⟩
  ·have z:b=it:=by simpa using z
   subst z
   exact ⟨oi,gi,fun v y=>by rw [di] at y;cases y⟩
 keep:=fun i h h' st k=>by
  obtain ⟨⟨old,he⟩,oi,gi,r⟩:=st
  exact ⟨⟨old,k e (by simp) _ he⟩,oi,k it (by simp) _ gi,r⟩
 item:=by
  intro X hP hw hK hc i pins s σ H E I hf st hg
  subst hP hw hK
  obtain ⟨xs,x,hq,hx⟩:=hg
  obtain ⟨its,rv,p,hz⟩:=I.tuple hq
  obtain ⟨⟨old,he⟩,hi⟩:=st
  obtain ⟨oi,gi,ci,di⟩:=id hi
  obtain ⟨oa,ga,ca,na,da⟩:=id p
  have nai:a≠it:=zhi ga gi (by rw [ca,ci];exact fun z=>absurd (Value.type.inj z) (by decide))
  have nei:e≠it:=zhi he gi (by rw [ci];exact fun z=>absurd (Value.type.inj z) (by decide))
  have nea:e≠a:=zhi he ga (by rw [ca];exact fun z=>absurd (Value.type.inj z) (by decide))
  have hl:=rv.length
  have hil:i<its.toArray.size:=by
   have:=(List.getElem?_eq_some_iff.mp hx).1
   simpa using (by omega:i<its.length)
  have W:=WalksT.enumerateD (prog:=X.prog) (w:=X.w) (A:=X.A) (WE.draws_tuple (pg:=X.prog) (wd:=X.w) (A:=X.A.in1) (I.ok.hd hc) it a nai its.toArray) e nei (by simp [nei,nea]) (by simp)
  refine W.item i s _ E hil ⟨⟨old,he⟩,hi,p⟩ fun T vals h1 tk hP hsz hT mid kp=>⟨.ref T,rfl,?_⟩
  refine W.go es kk pos i T _ _ E mid fun h2 st2 kp2=>?_
  obtain ⟨t,y,hy,rfl⟩:=hP
  obtain ⟨u,hu,ru⟩:=rv.get hx
  have ey:y=u:=Option.some.inj (hy.symm.trans (by simpa using hu))
  subst ey
  have hch:∀b o,b∉[e,it]->s.heap.get? b=some o->h2.get? b=some o:=fun b o hb q=>kp2 b o hb (kp b o hb q)
  have hTw:=W.apart i T h1 mid
  have new:ObjOk X.prog X.w (upd H T (.tup [.int i,x])) h2 T (.tup [.int i,x]):=by
   obtain ⟨o,g,r⟩:=hT
   exact ⟨by show 2<=sizeLine;decide,[.int i t,y],.cons ⟨t,rfl⟩ (.cons ru .nil),o,kp2 T o hTw g,r⟩
  have I2:=I.turnLaid (t':=tk) hf hch hsz new
  refine ⟨.ref T,_,I2,rfl,⟨T,I.hok.fresh hsz,rfl,fun ys z hy' hz'=>?_⟩,⟨st2.1,st2.2.1⟩,fun b hb=>?_⟩
  ·rw [I.tuple_inj hy' hq] at hz'
   rw [hx] at hz'
   cases hz'
   rfl
  ·rw [z4 (fun z:b=T=>hTw (z ▸ hb))]
   exact (hf b hb).1
 done:=by
  intro X hP hw hK hc i pins s σ H E I hf st hg
  subst hP hw hK
  obtain ⟨xs,hq,hx⟩:=hg
  obtain ⟨its,rv,p,hz⟩:=I.tuple hq
  obtain ⟨⟨old,he⟩,hi⟩:=st
  obtain ⟨oi,gi,ci,di⟩:=id hi
  obtain ⟨oa,ga,ca,na,da⟩:=id p
  have nai:a≠it:=zhi ga gi (by rw [ca,ci];exact fun z=>absurd (Value.type.inj z) (by decide))
  have nei:e≠it:=zhi he gi (by rw [ci];exact fun z=>absurd (Value.type.inj z) (by decide))
  have nea:e≠a:=zhi he ga (by rw [ca];exact fun z=>absurd (Value.type.inj z) (by decide))
  have hl:=rv.length
  have W:=WalksT.enumerateD (prog:=X.prog) (w:=X.w) (A:=X.A) (WE.draws_tuple (pg:=X.prog) (wd:=X.w) (A:=X.A.in1) (I.ok.hd hc) it a nai its.toArray) e nei (by simp [nei,nea]) (by simp)
  have en:its.toArray.size=i:=by simp;omega
  refine W.done s _ E (by rw [en];exact ⟨⟨old,he⟩,hi,p⟩) fun h2 tk kp=>⟨rfl,I.turnedL (t':=tk) hf kp⟩
 self:=fun _ _ _ _ _ st q=>by
  obtain ⟨⟨old,he⟩,_⟩:=st
  exact wpAny_pyIter_enum he q
def iEnT (K:PySem.W.Frag)(ta:TA):TI:=fun σ H R=>ta σ H fun vs H1=>∃a,vs=[.ref a]/\(∃xs,SqT K H1 a xs)/\R (Ite K a) H1
theorem zl0 {X:Cx}{a:Expr}{es:List Expr}{kk:Nat}{tp:Pos}{ta:TA}{p pos:Pos}(hg:Gl X "enumerate")(hm:X.mg "enumerate"=none)(ha:PA X [a] ta)(hs:starEach [a] X.env=[(false,eval a X.env)]:=by rfl) :
  PI X (.Tuple es kk tp) (.Call (.Name "enumerate" p) [a] [] pos) (iEnT X.K ta):=by
 intro pins s σ H R I h
 refine wpAny_Call_Name_kw (zg9 I hg hm boot_enumerate ?_)
 refine PyProof.Rows.callWith_type1 (thn (ha pos pins s σ H _ I h) fun us s1 ⟨vs,H1,I1,r1,q1⟩=>?_) hs rfl
 obtain ⟨l,rfl,⟨xs,hq⟩,q⟩:=q1
 obtain ⟨u,rfl,ru⟩:=Vals.one r1
 cases (show u=Value.ref l from ru)
 obtain ⟨its,rv,pt,hz⟩:=I1.tuple hq
 refine WE.call_enumT (show s1.heap.IsTuple l its.toArray from pt) fun h1 he hi hsz kp=>?_
 refine wpAny_pyIter_enum he ?_
 refine ⟨_,[s1.heap.objs.size+1,s1.heap.objs.size],_,_,H1,rfl,I1.kept (t':=s1.toks) kp,zjq l _ s1.heap.objs.size,⟨⟨_,he⟩,hi⟩,fun b hb=>?_,q⟩
 have hb2:s1.heap.objs.size<=b:=by
  rcases List.mem_cons.mp hb with z|z
  ·subst z
   exact Nat.le_succ _
  ·have z:b=s1.heap.objs.size:=by simpa using z
   subst z
   exact Nat.le_refl _
 exact I1.fpOk hb2 (I1.hok.fresh hb2)
abbrev No:Value->Shared->Prop:=fun _ _=>False
abbrev ifsOf (ifs:List Expr)(env:Env):Sem Bool:=forIn ifs true fun c r=>if r=true then do let ok <- isTrue c env (eval c env);pure (ForInStep.yield ok) else pure (ForInStep.yield r)
section
variable {pg:Program}{wd:World}{A:Around}{R:Result->Shared->Prop}{s:Shared}
theorem zkB {elt tg iter:Expr}{ifs:List Expr}{sc:Scope}{pos:Pos}{it acc:Value}{env:Env}(I:Nat->Shared->Prop)
  (turn:∀n s,I n s->wpAny (model pg wd) A (pyNext it) (fun r s1=>match r with
   |none=>R (.ok .next) s1
   |some v=>wpAny (model pg wd) A (letOwnedTupleGo tg it v) (fun _ s2=>wpAny (model pg wd) A (assign tg env v) (fun _ s3=>wpAny (model pg wd) A (ifsOf ifs env) (fun ok s4 =>
     if ok=true then wpAny (model pg wd) A (eval elt env) (fun x s5=>wpAny (model pg wd) A (call (.builtin "list.append") [acc,x]) (fun _ s6=>∃m,m<n/\I m s6) No s5) No s4
     else ∃m,m<n/\I m s4) No s3) No s2) No s1) No s)
  (n:Nat) (h:I n s):codeAny (model pg wd) A (.compLoop (.ListComp elt [⟨tg,iter,ifs,0⟩] sc pos) 0 it acc env) R s:=by
 refine codeAny_loop rfl I (fun n s hI=>?_) n h
 show wpAny _ A ((compTurn (.ListComp elt [⟨tg,iter,ifs,0⟩] sc pos) 0 it acc env).onRaise (fun x=>do noteFrame x env;theTreesLotGoes x)) _ _ s
 refine wpAny_noted ?_
 rw [compTurn_list]
 refine wpAny_bind (wpAny_standAt (wpAny_bind (wpAny_mono (turn n s hI) (fun r s1 h1=>?_) fun _ _ f=>f.elim)))
 cases r with
 |none=>exact wpAny_pure h1
 |some v =>
  refine wpAny_bind (wpAny_mono h1 (fun _ s2 h2=>wpAny_bind (wpAny_mono h2 (fun _ s3 h3=>wpAny_bind (wpAny_mono h3 (fun ok s4 h4=>?_) fun _ _ f=>f.elim)) fun _ _ f=>f.elim)) fun _ _ f=>f.elim)
  cases ok with
  |false=>exact wpAny_pure ⟨rfl,h4⟩
  |true=>exact wpAny_bind (wpAny_bind (wpAny_mono h4 (fun x s5 h5=>wpAny_bind (wpAny_mono h5 (fun _ s6 h6=>wpAny_pure (wpAny_pure ⟨rfl,h6⟩)) fun _ _ f=>f.elim)) fun _ _ f=>f.elim))
end
def clStep (env:Env)(r:List (Str×Addr))(x:Str×NameKind):List (Str×Addr):=if x.2=.free then (x.1,(env.cells.lookup x.1).getD 0)::r else r
def clOf (sc:Scope)(env:Env):List (Str×Addr):=sc.names.foldl (clStep env) []
theorem zjv {α β:Type}{l:List α}{f:α->β->Sem (ForInStep β)}{g:β->α->β}(h:∀x∈l,∀c,f x c=pure (.yield (g c x))):∀c:β,forIn l c f=pure (l.foldl g c):=by
 induction l with
 |nil=>exact fun _=>rfl
 |cons x l ih =>
  intro c
  rw [List.forIn_cons,h x List.mem_cons_self,pure_bind,List.foldl_cons]
  exact ih (fun y hy=>h y (List.mem_cons_of_mem _ hy)) (g c x)
theorem zd8 {sc:Scope}{env:Env}(hf:∀y∈sc.names,y.2=.free->∃c,env.cells.lookup y.1=some c):closureFor sc env=pure (clOf sc env):=by
 simp only [closureFor]
 rw [zjv (g:=clStep env) (fun x hx c=>?_)]
 ·rfl
 ·obtain ⟨n,k⟩:=x
  by_cases hk:k=.free
  ·subst hk
   obtain ⟨a,ha⟩:=hf _ hx rfl
   have ha':env.cells.lookup n=some a:=ha
   simp [clStep,cellOf,ha']
  ·have hb:(k == NameKind.free)=false:=by simpa using hk
   simp [clStep,hk,hb]
theorem zhb {env:Env}:∀(l:List (Str×NameKind)) (r:List (Str×Addr)),(∀y∈l,y.2=.free->∃c,env.cells.lookup y.1=some c)->(∀x c,r.lookup x=some c->env.cells.lookup x=some c) ->
  ∀x c,(l.foldl (clStep env) r).lookup x=some c->env.cells.lookup x=some c
 | [],r,_,h=>h
 |y::l,r,hf,h=>by
  refine zhb l (clStep env r y) (fun z hz=>hf z (List.mem_cons_of_mem _ hz)) fun x c e=>?_
  unfold clStep at e
  by_cases hk:y.2=.free
  ·obtain ⟨a,ha⟩:=hf y List.mem_cons_self hk
   rw [if_pos hk,List.lookup_cons] at e
   cases hx:x == y.1 with
   |true =>
    rw [hx,ha] at e
    rw [eq_of_beq hx,ha]
    exact e
   |false =>
    rw [hx] at e
    exact h x c e
  ·rw [if_neg hk] at e
   exact h x c e
theorem zgF {env:Env}{x:Str}:∀(l:List (Str×NameKind)) (r:List (Str×Addr)),(∃c,r.lookup x=some c)->∃c,(l.foldl (clStep env) r).lookup x=some c
 | [],r,h=>h
 |y::l,r,h=>by
  refine zgF l (clStep env r y) ?_
  unfold clStep
  by_cases hk:y.2=.free
  ·rw [if_pos hk,List.lookup_cons]
   cases hx:x == y.1 with
   |true=>exact ⟨_,rfl⟩
   |false=>exact h
  ·rw [if_neg hk]
   exact h
theorem zfF {env:Env}:∀(l:List (Str×NameKind)) (r:List (Str×Addr)),∀y∈l,y.2=.free->∃c,(l.foldl (clStep env) r).lookup y.1=some c
 | [],_,y,hy,_=>nomatch hy
 |z::l,r,y,hy,hk=>by
  rcases List.mem_cons.mp hy with e|e
  ·subst e
   refine zgF l (clStep env r y) ?_
   unfold clStep
   rw [if_pos hk,List.lookup_cons,beq_self_eq_true]
   exact ⟨_,rfl⟩
  ·exact zfF l (clStep env r z) y e hk
theorem mem_of_lookup {β:Type}{x:Str}{k:β}:∀{l:List (Str×β)},l.lookup x=some k->(x,k)∈l
 | [],h=>nomatch h
 |y::l,h=>by
  rw [List.lookup_cons] at h
  cases hx:x == y.1 with
  |true =>
   rw [hx] at h
   cases h
   rw [eq_of_beq hx]
   exact List.mem_cons_self
  |false =>
   rw [hx] at h
   exact List.mem_cons_of_mem _ (mem_of_lookup h)
def relK (env:Env)(x:Str)(k:NameKind):NameKind:=if (k == .free && env.scope.kind == .function && env.kindOf x == some .cell)=true then .cell else k
theorem zha {sc:Scope}{env:Env}(x:Str):(relabel sc env).names.lookup x=(sc.names.lookup x).map (relK env x):=by
 unfold relabel
 show (sc.names.map fun (n,k)=>if (k == NameKind.free && env.scope.kind == .function && env.kindOf n == some .cell) then (n,NameKind.cell) else (n,k)).lookup x=_
 induction sc.names with
 |nil=>rfl
 |cons y l ih =>
  obtain ⟨n,k⟩:=y
  rw [List.map_cons]
  show List.lookup x ((if (k == NameKind.free && env.scope.kind == .function && env.kindOf n == some .cell)=true then (n,NameKind.cell) else (n,k))::_)=_
  cases hx:x == n with
  |true =>
   have e:=eq_of_beq hx
   subst e
   by_cases hc:(k == NameKind.free && env.scope.kind == .function && env.kindOf x == some .cell)=true
   ·rw [if_pos hc,List.lookup_cons,beq_self_eq_true]
    simp [relK,hc]
   ·rw [if_neg hc,List.lookup_cons,beq_self_eq_true]
    simp [relK,hc]
  |false =>
   by_cases hc:(k == NameKind.free && env.scope.kind == .function && env.kindOf n == some .cell)=true
   ·rw [if_pos hc]
    simp only [List.lookup_cons,hx]
    exact ih
   ·rw [if_neg hc]
    simp only [List.lookup_cons,hx]
    exact ih
structure CI where
 C:Addr
 s:Shared
 H:Hp
 fp:List Addr
def cxC (X:Cx)(sc:Scope)(NC:List Str)(j:CI):Cx where
 prog:=X.prog
 w:=X.w
 K:=X.K
 mg:=X.mg
 base:=X.base
 A:=X.A
 N:=NC
 s₀:=j.s
 H₀:=j.H
 env:=compEnvC sc (clOf sc X.env) j.C X.env
 outer:=X.stack
 stack:=X.stack
 ex:=j.fp
 fn:=fun _=>false
 calm:=X.calm
 pn:=[]
 xe:=No
def inn (slots:List (Option Nat))(σ:St):St:=slots.map fun o=>o.bind fun j=>(σ[j]?).join
structure CompOk (X:Cx)(sc:Scope)(NC:List Str)(slots:List (Option Nat)):Prop where
 kind:sc.kind=.function
 names:∀y∈sc.names,y.2=.local->sc.names.lookup y.1=some .local
 nocell:∀y∈sc.names,y.2 ≠ .cell
 free:∀y∈sc.names,y.2=.free->X.env.scope.names.lookup y.1=some .cell
 slot:∀(i:Nat) (x:Str) (j:Nat),NC[i]?=some x->slots[i]?=some (some j)->X.N[j]?=some x/\sc.names.lookup x=some .free
 len:slots.length=NC.length
theorem compOk {X:Cx}{sc:Scope}{NC:List Str}{slots:List (Option Nat)}(N:List Str)(so:Scope)(hN:X.N=N)(hs:X.env.scope=so)(kind:sc.kind=.function)
  (names:∀y∈sc.names,y.2=.local->sc.names.lookup y.1=some .local) (nocell:∀y∈sc.names,y.2 ≠ .cell) (free:∀y∈sc.names,y.2=.free->so.names.lookup y.1=some .cell)
  (slot:∀p∈NC.zip slots,(p.2.all fun j=>decide (N[j]?=some p.1/\sc.names.lookup p.1=some .free))=true) (len:slots.length=NC.length):CompOk X sc NC slots:=by
 subst hN hs
 refine ⟨kind,names,nocell,free,fun i x j e1 e2=>?_,len⟩
 have hm:(x,some j)∈NC.zip slots:=List.mem_of_getElem? (i:=i) (by rw [List.getElem?_zip_eq_some];exact ⟨e1,e2⟩)
 have:=slot _ hm
 simpa using this
section
variable {X:Cx}{sc:Scope}{NC:List Str}{slots:List (Option Nat)}{pins:List (Addr×Obj)}{σ:St}{H:Hp}{s:Shared}
theorem CompOk.cells (O:CompOk X sc NC slots)(ok:X.Ok):∀y∈sc.names,y.2=.free->∃c,X.env.cells.lookup y.1=some c:=fun y hy hk=>ok.has y.1 (.inl (O.free y hy hk))
theorem CompOk.sub (O:CompOk X sc NC slots)(ok:X.Ok):∀x c,(clOf sc X.env).lookup x=some c->X.env.cells.lookup x=some c:=zhb sc.names [] (O.cells ok) fun _ _ e=>nomatch e
theorem CompOk.rel (O:CompOk X sc NC slots)(ok:X.Ok){x:Str}(h:sc.names.lookup x=some .free):(relabel sc X.env).names.lookup x=some .cell:=by
 rw [zha,h]
 have e:X.env.kindOf x=some .cell:=O.free _ (mem_of_lookup h) rfl
 simp [relK,ok.kind,e]
theorem zjp (I:Inv X pins σ H s)(O:CompOk X sc NC slots){fp:List Addr}(hf:∀b∈fp,FpOk X pins H b)(hob:∀b∈fp,∃o,s.heap.get? b=some o){h1:Heap}{t':Nat}{m:Str->Option Value}(hns:h1.Ns s.heap.objs.size m)
  (hk:∀b o,s.heap.get? b=some o->h1.get? b=some o):Inv (cxC X sc NC ⟨s.heap.objs.size,s,H,fp⟩) [] (inn slots σ) H { s with heap:=h1,toks:=t' }:=by
 have sub:=O.sub I.ok
 have fss:∀b,b≠X.env.locals->b∉X.fs->b∉frs X.stack:=fun b h1 h2 hb=>(List.mem_cons.mp (I.stkSub b hb)).elim h1 h2
 have ltC:∀x c,(clOf sc X.env).lookup x=some c->c<s.heap.objs.size:=fun x c e=>by
  obtain ⟨v,q⟩:=I.cell x c (sub x c e)
  exact q.lt
 refine ⟨⟨I.ok.mod,O.kind,I.ok.glob,I.ok.blt,Nat.le_refl _,fun x y c e1 e2=>I.ok.inj x y c (sub x c e1) (sub y c e2),fun x hx=>?_,fun _ _ z=>(nomatch z),I.ok.hd,I.ok.frames,.inl rfl,fun b hb=>⟨?_,fun x c e=>(hf b hb).2.2.2.2.1 x c (sub x c e)⟩,I.bs,Nat.le_trans I.ok.bsz I.sz,fun b o e hb=>?_,fun b hb=>fss b (hf b hb).2.1 (hf b hb).2.2.1,I.stack,I.stkFree⟩,
  rfl,I.bare,Un.kept hk,⟨m,hns,fun i x v e1 e2 e3=>?_⟩,fun x c e=>?_,I.hok.fresh (Nat.le_refl _),fun x c e=>I.freeC x c (sub x c e),fun p hp=>(nomatch hp),I.hok.kept hk,?_⟩
 ·have hx':(relabel sc X.env).names.lookup x=some .cell \/ (relabel sc X.env).names.lookup x=some .free:=hx
  rw [zha] at hx'
  cases q:sc.names.lookup x with
  |none =>
   rw [q] at hx'
   rcases hx' with z|z <;> cases z
  |some k =>
   have hm:=mem_of_lookup q
   have hkf:k=.free:=by
    rw [q] at hx'
    have nc:=O.nocell _ hm
    by_cases hk:k=.free
    ·exact hk
    ·exfalso
     have hb:(k == NameKind.free)=false:=by simpa using hk
     rcases hx' with z|z
     ·simp [relK,hb] at z
      exact nc z
     ·simp [relK,hb] at z
      exact hk z
   subst hkf
   exact zfF sc.names [] _ hm rfl
 ·obtain ⟨o,e⟩:=hob b hb
  exact Nat.ne_of_lt (Heap.lt_size e)
 ·rcases (hf b hb).2.2.2.1 with z|z
  ·exact I.ok.noex b o e z
  ·exact absurd (Nat.lt_of_lt_of_le (Heap.lt_size e) (Nat.le_trans I.ok.bsz z)) (Nat.lt_irrefl _)
 ·obtain ⟨j,e4,e5⟩:∃j,slots[i]?=some (some j)/\σ[j]?=some (some v):=by
   have e2':(slots.map fun o=>o.bind fun j=>(σ[j]?).join)[i]?=some (some v):=e2
   rw [List.getElem?_map] at e2'
   cases q:slots[i]? with
   |none =>
    rw [q] at e2'
    cases e2'
   |some o =>
    rw [q] at e2'
    cases o with
    |none=>cases e2'
    |some j =>
     refine ⟨j,rfl,?_⟩
     have e6:(σ[j]?).join=some v:=Option.some.inj e2'
     cases q2:σ[j]? with
     |none =>
      rw [q2] at e6
      cases e6
     |some w =>
      rw [q2] at e6
      have e7:w=some v:=e6
      rw [e7]
  obtain ⟨e6,e7⟩:=O.slot i x j e1 e4
  have kc:X.env.scope.names.lookup x=some .cell:=O.free _ (mem_of_lookup e7) rfl
  obtain ⟨m0,hn0,hl⟩:=I.loc
  obtain ⟨u,r,lk⟩:=hl j x v e6 e5 (.inr (.inl kc))
  refine ⟨u,r,.inr ⟨.inl (O.rel I.ok e7),?_⟩⟩
  rcases lk with ⟨z,_⟩|⟨_,c,hc,o,ho,hd⟩
  ·rw [show X.env.kindOf x=some .cell from kc] at z
   cases z
  ·obtain ⟨c',hc'⟩:=zfF (env:=X.env) sc.names [] _ (mem_of_lookup e7) rfl
   have e8:c'=c:=Option.some.inj ((sub x c' hc').symm.trans hc)
   subst e8
   exact ⟨c',hc',o,hk _ _ ho,hd⟩
 ·obtain ⟨v,o,ho,hd⟩:=I.cell x c (sub x c e)
  exact ⟨v,o,hk _ _ ho,hd⟩
 ·show (slots.map fun o=>o.bind fun j=>(σ[j]?).join).length=NC.length
  rw [List.length_map,O.len]
theorem zjE (I:Inv X pins σ H s){fp:List Addr}(hf:∀b∈fp,FpOk X pins H b){C:Addr}(hC:s.heap.objs.size<=C){pl:List (Addr×Obj)}{σ':St}{H':Hp}{s':Shared}(J:Inv (cxC X sc NC ⟨C,s,H,fp⟩) pl σ' H' s')
  {h2:Heap} (hb:Heap.SameBut C s'.heap h2):Inv X pins σ H' { s' with heap:=h2 }:=by
 have nC:∀b o,s.heap.get? b=some o->b≠C:=fun b o e=>Nat.ne_of_lt (Nat.lt_of_lt_of_le (Heap.lt_size e) hC)
 have B:Un (frs X.stack) fp H H' s.heap s'.heap:=J.base
 have fC:H' C=none:=J.free
 refine I.call' (ch:=fp) J.os ⟨fun b o e n h3 h4=>(hb.2 b (nC b o e)).trans (B.keep b o e n h3 h4),fun b o e n h3 h4=>?_,B.free,fun b o e h4=>?_,B.tups,B.frzs,B.tbls⟩ (fun b u e=>?_) J.bare fun b h3=>⟨(hf b h3).2.2.2.1,(hf b h3).2.1,(hf b h3).2.2.2.2.1,(hf b h3).2.2.2.2.2⟩
 ·obtain ⟨sl,q⟩:=B.slot b o e n h3 h4
  exact ⟨sl,(hb.2 b (nC b o e)).trans q⟩
 ·obtain ⟨o',q⟩:=B.there b o e h4
  exact ⟨o',(hb.2 b (nC b o e)).trans q⟩
 ·refine (J.hok b u e).stay (fun c v hc q=>(hb.2 c fun z=>?_).trans q) (fun _ q=>q) fun _ _ q=>q
  subst z
  rcases hc with z|z
  ·rw [z,e] at fC
   cases fC
  ·rw [z] at fC
   cases fC
end
def PTs (X:Cx)(ifs:List Expr)(t:TT):Prop :=
 ∀(pins:List (Addr×Obj)) (s:Shared) (σ:St) (H:Hp) (Q:Bool->Hp->Prop),Inv X pins σ H s->t σ H Q->wpAny (model X.prog X.w) X.A (ifsOf ifs X.env) (TP X pins σ Q) X.xe s
def tYes:TT:=fun _ H Q=>Q true H
theorem zns {X:Cx}:PTs X [] tYes:=fun _ _ _ H _ I h=>wpAny_tests_nil ⟨H,I,h⟩
def CompR (J:It)(D:Addr)(g:TG)(ti:TT)(te:TE)(W:Nat->Nat->St->List V->Hp->Prop)(Q:Hp->Prop):Prop :=
 ∀i m σc ys H2,W i m σc ys H2->H2 D=some (.lst ys)/\((J.stop i H2/\Q H2) \/ (J.go i H2/\ys.length<sizeLine/\∃N:St->List V->Hp->Prop,(∀σ' ys' H',N σ' ys' H'->∃m',m' < m/\W (i+1) m' σ' ys' H') /\
  ∀x H3,J.yld i H2 x H3->g x σc H3 fun σ4 H4=>ti σ4 H4 fun b H5=>if b=true then te σ4 H5 fun y H6=>H6 D=some (.lst ys)/\N σ4 (ys++[y]) (upd H6 D (.lst (ys++[y]))) else N σ4 ys H5))
def tComp (slots:List (Option Nat))(wi:TI)(g:TG)(ti:TT)(te:TE):TE:=fun σ H Q=>wi σ H fun J H1=>∀D,H1 D=none->∃W:Nat->Nat->St->List V->Hp->Prop,(∃m,W 0 m (inn slots σ) [] (upd H1 D (.lst [])))/\CompR J D g ti te W (Q (.ref D))
section
variable {X:Cx}{sc:Scope}{NC:List Str}{slots:List (Option Nat)}{elt tg iter:Expr}{ifs:List Expr}{pos:Pos}{g:TG}{ti:TT}{te:TE}
theorem zli (hc:X.calm=true)(hg:∀j,PG (cxC X sc NC j) tg g)(ht:∀j,PTs (cxC X sc NC j) ifs ti)(he:∀j,PE (cxC X sc NC j) elt te){cj:CI}{it D:Addr}{tn:Nat->Heap->Prop}{J:It}
  {W:Nat->Nat->St->List V->Hp->Prop} {Q:Hp->Prop} {R:Result->Shared->Prop} {s:Shared} {σc:St} {ys:List V} {H:Hp} (T:Turn X.prog X.w X.K tg J cj.fp it tn)
  (I:Inv (cxC X sc NC cj) [] σc H s) (hf:∀b∈cj.fp,FpOk (cxC X sc NC cj) [] H b) (st:tn 0 s.heap) {m:Nat} (w0:W 0 m σc ys H) (step:CompR J D g ti te W Q)
  (fin:∀σ' H' s',Inv (cxC X sc NC cj) [] σ' H' s'->Q H'->R (.ok .next) s') :
  codeAny (model X.prog X.w) X.A (.compLoop (.ListComp elt [⟨tg,iter,ifs,0⟩] sc pos) 0 (.ref it) (.ref D) (cxC X sc NC cj).env) R s:=by
 have stat:∀{H':Hp},(∀b∈cj.fp,H' b=none)->∀b∈cj.fp,FpOk (cxC X sc NC cj) [] H' b:=fun hn b hb=>⟨hn b hb,(hf b hb).2⟩
 refine zkB (fun n s'=>∃i σ' ys' H',Inv (cxC X sc NC cj) [] σ' H' s'/\tn i s'.heap/\(∀b∈cj.fp,H' b=none)/\W i n σ' ys' H') ?_ m ⟨0,σc,ys,H,I,st,fun b hb=>(hf b hb).1,w0⟩
 rintro n s3 ⟨i,σ3,ys3,H3,I3,st3,fr3,w3⟩
 obtain ⟨hD,q⟩:=step i n σ3 ys3 H3 w3
 rcases q with ⟨stop,qn⟩|⟨go,hz,N,hN,turn⟩
 ·refine thn (T.done (cxC X sc NC cj) rfl rfl rfl hc i [] s3 σ3 H3 No I3 (stat fr3) st3 stop) fun r s4 ⟨hr,I4⟩=>?_
  subst hr
  exact fin σ3 H3 s4 I4 qn
 ·refine thn (T.item (cxC X sc NC cj) rfl rfl rfl hc i [] s3 σ3 H3 No I3 (stat fr3) st3 go) fun r s4 ⟨u,hr,h4⟩=>?_
  subst hr
  refine thn h4 fun _ s5 ⟨x,H5,I5,r5,y5,st5,fr5⟩=>?_
  have I5':=I5.pinned (stat fr5) (T.obj _ _ st5)
  refine thn (hg cj _ s5 σ3 H5 x u _ I5' r5 (turn x H5 y5)) fun _ s6 ⟨σ6,H6,I6,q6⟩=>?_
  refine thn (ht cj _ s6 σ6 H6 _ I6 q6) fun ok s7 ⟨H7,I7,q7⟩=>?_
  have again:∀{σ8:St} {ys8:List V} {H8:Hp} {s8:Shared},Inv (cxC X sc NC cj) ([]++pinsAt cj.fp s5.heap) σ8 H8 s8->N σ8 ys8 H8->∃m,m<n/\∃i σ' ys' H',Inv (cxC X sc NC cj) [] σ' H' s8/\tn i s8.heap/\(∀b∈cj.fp,H' b=none)/\W i m σ' ys' H':=fun {σ8 ys8 H8 s8} I8 n8=>by
   obtain ⟨m',hm,w8⟩:=hN σ8 ys8 H8 n8
   refine ⟨m',hm,i+1,σ8,ys8,H8,I8.unpinned,T.keep _ _ _ st5 fun b hb o e=>(I8.pin (b,o) (List.mem_append_right _ (List.mem_append_right _ (zeh hb e)))).1,fun b hb=>?_,w8⟩
   obtain ⟨o,e,d⟩:=T.obj _ _ st5 b hb
   exact (I8.pin (b,o) (List.mem_append_right _ (List.mem_append_right _ (zeh hb e)))).2.1
  cases ok with
  |false =>
   rw [if_neg Bool.false_ne_true] at q7 ⊢
   exact again I7 q7
  |true =>
   rw [if_pos rfl] at q7 ⊢
   refine thn (he cj _ s7 σ6 H7 _ I7 q7) fun y s8 ⟨v,H8,I8,r8,hD8,q8⟩=>?_
   refine thn (zh6 (X:=cxC X sc NC cj) _ s8 σ6 H8 (.ref D) [v] (.ref D) [y] (fun z H'=>z=.non/\H'=upd H8 D (.lst (ys3++[v]))) I8 rfl (.cons r8 .nil) ⟨D,ys3,v,rfl,rfl,hD8,hz,rfl,rfl⟩) fun z s9 ⟨zv,H9,I9,r9,e1,e2⟩=>?_
   subst e2
   exact again I9 q8
theorem zhf (hc:X.calm=true)(O:CompOk X sc NC slots)(hg:∀j,PG (cxC X sc NC j) tg g)(ht:∀j,PTs (cxC X sc NC j) ifs ti)(he:∀j,PE (cxC X sc NC j) elt te){pins:List (Addr×Obj)}{s:Shared}{σ:St}{H:Hp}(I:Inv X pins σ H s)
  {it:Addr} {fp:List Addr} {tn:Nat->Heap->Prop} {J:It} (T:Turn X.prog X.w X.K tg J fp it tn) (st:tn 0 s.heap) (hf:∀b∈fp,FpOk X pins H b) {Q:VK}
  (h:∀D,H D=none->∃W:Nat->Nat->St->List V->Hp->Prop,(∃m,W 0 m (inn slots σ) [] (upd H D (.lst [])))/\CompR J D g ti te W (Q (.ref D))) {RR:Value->Addr->Result->Shared->Prop}
  (fin:∀D C s' H',Q (.ref D) H'->(∃o m,s'.heap.get? C=some o/\s'.heap.Ns C m/\∀v,o.data ≠ .cell v)->FpOk X pins H' C->(∀h2,Heap.SameBut C s'.heap h2->Inv X pins σ H' { s' with heap:=h2 })->RR (.ref D) C (.ok .next) s') :
  wpAny (model X.prog X.w) X.A (newList []) (fun acc s3=>wpAny (model X.prog X.w) X.A (newFunctionEnv sc X.env.globals (clOf sc X.env) [] X.env.qual none .none (some X.env)) (fun cenv s4 =>
   codeAny (model X.prog X.w) X.A (.compStart (.ListComp elt [⟨tg,iter,ifs,0⟩] sc pos) 0 (.ref it) acc { cenv with scope:=relabel sc X.env }) (RR acc cenv.locals) s4) X.xe s3) X.xe s:=by
 refine wpAny_newObj_type (wpAny_newFunctionEnv O.nocell (by intro y hy;simp at hy) (fun h1 hns1 hsb1=>?_) O.kind)
 dsimp only at hns1 hsb1 ⊢
 have hDn:H s.heap.objs.size=none:=I.hok.fresh (Nat.le_refl _)
 obtain ⟨W,⟨m,w0⟩,step⟩:=h s.heap.objs.size hDn
 obtain ⟨s3,hs3⟩:∃x:Shared,x=({ s with heap:=s.heap.push { cls:=.type "list",dict:=none,data:=.seq ([]:List Value).toArray } }:Shared):=⟨_,rfl⟩
 have e3:s3.heap=s.heap.push { cls:=.type "list",dict:=none,data:=.seq ([]:List Value).toArray }:=by rw [hs3]
 rw [<- e3] at hns1 hsb1
 have hp3:∀b o,s.heap.get? b=some o->s3.heap.get? b=some o:=fun b o e=>by
  rw [e3]
  exact Heap.get?_push_of_some _ e
 have I3:Inv X pins σ (upd H s.heap.objs.size (.lst [])) s3:=by
  have q:=I.laid (a:=s.heap.objs.size) (o:=.lst []) (h':=s3.heap) (t':=s.toks) hp3 (Nat.le_refl _) ⟨Nat.zero_le _,[],_,.nil,by rw [e3];exact Heap.get?_push_size _ rfl⟩
  rw [hs3] at q ⊢
  exact q
 have hf3:∀b∈fp,FpOk X pins (upd H s.heap.objs.size (.lst [])) b:=fun b hb=>by
  obtain ⟨o,e,_⟩:=T.obj _ _ st b hb
  refine ⟨?_,(hf b hb).2⟩
  rw [z4 (Nat.ne_of_lt (Heap.lt_size e))]
  exact (hf b hb).1
 have st3:tn 0 s3.heap:=T.keep _ _ _ st fun b _ o e=>hp3 b o e
 have hob:∀b∈fp,∃o,s3.heap.get? b=some o:=fun b hb=>by
  obtain ⟨o,e,_⟩:=T.obj _ _ st3 b hb
  exact ⟨o,e⟩
 have hk1:∀b o,s3.heap.get? b=some o->h1.get? b=some o:=fun b o e=>hsb1.extBut b o (Nat.ne_of_lt (Heap.lt_size e)) (Heap.get?_push_of_some _ e)
 have J1:=zjp (t':=s3.toks+([]:List (Str×Value)).length) I3 O hf3 hob hns1 hk1
 have hfc:∀b∈fp,FpOk (cxC X sc NC ⟨s3.heap.objs.size,s3,upd H s.heap.objs.size (.lst []),fp⟩) [] (upd H s.heap.objs.size (.lst [])) b:=fun b hb =>
  ⟨(hf3 b hb).1,(J1.ok.exf b hb).1,J1.ok.exfs b hb,.inl hb,(J1.ok.exf b hb).2,fun p hp=>nomatch hp⟩
 have loop:codeAny (model X.prog X.w) X.A (.compLoop (.ListComp elt [⟨tg,iter,ifs,0⟩] sc pos) 0 (.ref it) (.ref s.heap.objs.size) (cxC X sc NC ⟨s3.heap.objs.size,s3,upd H s.heap.objs.size (.lst []),fp⟩).env) (RR (.ref s.heap.objs.size) s3.heap.objs.size)
   { s3 with heap:=h1,toks:=s3.toks+([]:List (Str×Value)).length }:=by
  refine zli (D:=s.heap.objs.size) (Q:=Q (.ref s.heap.objs.size)) hc hg ht he T J1 hfc (T.keep _ _ _ st3 fun b _ o e=>hk1 b o e) w0 step fun σ' H' s' J' q'=>?_
  have fC:H' s3.heap.objs.size=none:=J'.free
  refine fin _ _ s' H' q' ?_ (I3.fpOk (Nat.le_refl _) fC) fun h2 hb=>zjE I3 hf3 (Nat.le_refl _) J' hb
  obtain ⟨m',hn',_⟩:=J'.loc
  obtain ⟨o,es,ep,ho,hd,r⟩:=id hn'
  exact ⟨o,m',ho,hn',fun v z=>by rw [hd] at z;cases z⟩
 have self:=fun (RQ:Value->Shared->Prop) (EE:Value->Shared->Prop)=>T.self X.A 0 { s3 with heap:=h1,toks:=s3.toks+([]:List (Str×Value)).length } RQ EE (T.keep _ _ _ st3 fun b _ o e=>hk1 b o e)
 subst hs3
 exact codeAny_compStart_list loop (self _ _ loop)
variable {wi:TI}
theorem zmK (hc:X.calm=true)(O:CompOk X sc NC slots)(hi:PI X tg iter wi)(hg:∀j,PG (cxC X sc NC j) tg g)(ht:∀j,PTs (cxC X sc NC j) ifs ti)(he:∀j,PE (cxC X sc NC j) elt te)
  (hs:∀x,foldedSetIterable iter X.env x=pure x:=by intro _;rfl):PE X (.ListComp elt [⟨tg,iter,ifs,0⟩] sc pos) (tComp slots wi g ti te):=by
 intro pins s σ H Q I h
 rw [eval_ListComp]
 refine wpAny_comprehension_free (use:=none) rfl hs (zd8 (O.cells I.ok)) O.kind O.names (thn (hi pins s σ H _ I h) fun v s1 h1=>thn h1 fun itv s2 h2=>?_)
 obtain ⟨it,fp,tn,J,H2,rfl,I2,T,st2,f2,q2⟩:=h2
 refine zhf hc O hg ht he I2 T st2 f2 q2 fun D C s' H' q' ⟨o,m,ho,hn,_⟩ _ out=>⟨m,hn,fun h2 hb=>⟨.ref D,H',out h2 hb,rfl,q'⟩⟩
theorem zkp {i:Nat}{x:Str}{px spos:Pos}(hN:X.N.Nodup)(hix:X.N[i]?=some x)(hx:Loc X.env.scope x)(hc:X.calm=true)(O:CompOk X sc NC slots)(hi:PI X tg iter wi)(hg:∀j,PG (cxC X sc NC j) tg g)(ht:∀j,PTs (cxC X sc NC j) ifs ti)(he:∀j,PE (cxC X sc NC j) elt te)
  (hsw:swapsWith (.ListComp elt [⟨tg,iter,ifs,0⟩] sc pos) (some (.Name x px)) spos.line X.env=pure true:=by rfl) (hs:∀x,foldedSetIterable iter X.env x=pure x:=by intro _;rfl)
  (hf:X.fn x=true \/ X.env.scope.names.lookup x=some .local:=by first|exact .inl rfl|exact .inr rfl|assumption):PS X (.Assign [.Name x px] (.ListComp elt [⟨tg,iter,ifs,0⟩] sc pos) spos) (tAsg (tComp slots wi g ti te) (gName i)):=by
 intro pins s σ H Dd I h
 rw [exec_Assign_Name_used _ _ _ _ hsw,arm_evalThenUse_ListComp]
 refine wpAny_bind (wpAny_standAt (wpAny_bind (wpAny_bind ?_)))
 refine wpAny_comprehension_free (Q:=fun _ s'=>wpAny (model X.prog X.w) X.A (pure ()) (fun _ s''=>wpAny (model X.prog X.w) X.A (pure Flow.next) (SP X pins Dd) X.xe s'') X.xe s') rfl hs (zd8 (O.cells I.ok)) O.kind O.names (thn (hi pins s σ H _ I h) fun v s1 h1=>thn h1 fun itv s2 h2=>?_)
 obtain ⟨it,fp,tn,J,H2,rfl,I2,T,st2,f2,q2⟩:=h2
 refine zhf (Q:=fun x H1=>gName i x σ H1 Dd.nx) hc O hg ht he I2 T st2 f2 q2 fun D C s' H' q' ⟨o,m,ho,hn,hd⟩ FC out=>?_
 have I':Inv X pins σ H' s':=out s'.heap (Heap.SameBut.refl ..)
 have Ip:Inv X (pins++[(C,o)]) σ H' s':=I'.pins_of fun p hp=>(List.mem_append.mp hp).elim (fun z=>I'.pin p (List.mem_append_right _ z)) fun z=>by
  have e:p=(C,o):=by simpa using z
  subst e
  exact ⟨ho,FC.1,FC.2.1,FC.2.2.1,hd⟩
 show wpAny (model X.prog X.w) X.A (assign (.Name x px) X.env (.ref D)) _ _ s'
 refine wpAny_assign_Name (zel Ip hN hix hx (show RelV (.ref D) (.ref D) from rfl) (fun s6 I6=>?_) hf)
 have g6:=(I6.pin (C,o) (List.mem_append_right _ (List.mem_append_right _ List.mem_cons_self))).1
 obtain ⟨o',es,ep,ho',r⟩:=hn
 rw [ho] at ho'
 cases ho'
 refine ⟨m,⟨o,es,ep,g6,r⟩,fun h2 hb=>wpAny_pure (wpAny_pure ?_)⟩
 exact ⟨_,H',I6.unpinned.turned (t':=s6.toks) (fun b u hb' e=>(hb.2 b hb').trans e) FC.1 FC.2.1 FC.2.2.2.1 FC.2.2.2.2.1 FC.2.2.2.2.2,q'⟩
end
theorem zi1:∀{bs:List Bool} {us:List Value},Vals (bs.map V.bl) us->LSm.BoolsAre us bs
 | [],_,.nil=>.nil
 |b::bs,_,.cons r q=>by
  cases (show _=Value.bool b from r)
  exact .cons b (zi1 q)
section
variable {X:Cx}
def rAll (K:PySem.W.Frag):List V->Hp->VK->Prop:=fun xs H Q=>∃(l:Addr) (bs:List Bool),xs=[.ref l]/\SqL K H l (bs.map V.bl)/\Q (.bl (bs.all id)) H
theorem zly (hc:X.calm=true):CallR X (.builtin "all") (rAll X.K):=by
 intro pins s σ H xs us Q I r h
 obtain ⟨l,bs,rfl,hq,q⟩:=h
 obtain ⟨u,rfl,ru⟩:=Vals.one r
 cases (show u=Value.ref l from ru)
 obtain ⟨its,rv,pl,hz⟩:=I.list hq
 have hb:=zi1 rv
 have hl:=pl.isList
 have hlt:l<s.heap.objs.size:=by
  obtain ⟨_,e,_⟩:=hl
  exact Heap.lt_size e
 refine call_all_walk (wpAny_pyIter_list hl ?_)
 refine ⟨s.heap.objs.size,[s.heap.objs.size,l],[s.heap.objs.size],its.toArray.size,_,_,fun i=>(bs[i]?).getD true,rfl,Walks.list (A:=X.A.in1) (I.ok.hd hc) _ l (Nat.ne_of_lt hlt) its.toArray,⟨⟨_,Heap.get?_push_size _ rfl,rfl,rfl⟩,hl.push _⟩,fun i v s' Q' E' hP hQ=>?_,fun h' tk hk=>?_⟩
 ·obtain ⟨b,e,rfl⟩:=hb.get i v (by simpa using hP)
  simp only [e,Option.getD_some] at hQ
  exact wpAny_truthy_bool hQ
 ·have e:((List.range its.toArray.size).all fun i=>(bs[i]?).getD true)=bs.all id:=by
   rw [List.size_toArray,hb.length]
   exact LSm.range_all bs
  rw [e]
  exact ⟨.bl _,H,I.kept (t':=tk) (LSm.kept_iter hk),rfl,q⟩
end
section
variable {X:Cx}{pins:List (Addr×Obj)}{σ:St}{H:Hp}{s:Shared}
end
section
variable {X:Cx}{a:Expr}{ta:TE}{K:PySem.W.Frag}
end
end L2
namespace L2
end L2
namespace L2
open PySem PySem.Spec PyProof.Rows
section
variable {X:Cx}
def rMax (K:PySem.W.Frag):List V->Hp->VK->Prop:=fun xs H Q=>∃(l:Addr) (ns:List Int),xs=[.ref l]/\SqL K H l (ns.map V.int)/\0<ns.length/\∀M,M∈ns->(∀a,a∈ns->a<=M)->Q (.int M) H
theorem zkY (hc:X.calm=true):CallR X (.builtin "max") (rMax X.K):=by
 intro pins s σ H xs us Q I r h
 obtain ⟨l,ns,rfl,hq,hne,q⟩:=h
 obtain ⟨u,rfl,ru⟩:=Vals.one r
 cases (show u=Value.ref l from ru)
 obtain ⟨its,rv,pl,hz⟩:=I.list hq
 have hi:IntsAre its ns:=zjA rv
 obtain ⟨ys,e⟩:=hi.allInts.items
 have hns:ns=ys.toList.map (·.1):=by rw [<- hi.numsOf,<- nums_intItems,<- e]
 have hsz:0<ys.size:=by
  rw [hns,List.length_map,Array.length_toList] at hne
  exact hne
 have hl:=pl.isList
 rw [e] at hl
 refine max_intList (I.ok.hd hc) hl hsz fun v h' tk hv hk=>?_
 obtain ⟨t,rfl⟩:=intItems_at hv
 obtain ⟨h1,h2⟩:=argBest_gt (numAt ys) (ys.size - 1)
 refine ⟨.int _,H,I.kept (t':=tk) hk,⟨t,rfl⟩,q _ ?_ fun a ha=>?_⟩
 ·rw [hns,numAt_eq]
  exact getD_mem (by rw [List.length_map,Array.length_toList];omega)
 ·rw [hns] at ha
  obtain ⟨j,hj,rfl⟩:=mem_getD ha
  rw [List.length_map,Array.length_toList] at hj
  rw [<- numAt_eq]
  exact h2 j (by omega)
end
end L2
namespace WE
open PySem PySem.Spec PyProof.Rows
section
variable {pg:Program}{wd:World}{A:Around}{Er:Value->Shared->Prop}{s:Shared}
theorem tit_keep {h h':Heap}{i t:Addr}{j:Nat}(u:h.IsTupleIter i t j)(k:∀o,h.get? i=some o->h'.get? i=some o):h'.IsTupleIter i t j:=let ⟨o,g,r⟩:=u;⟨o,k o g,r⟩
theorem zf7 {h h':Heap}{t:Addr}{xs:Array Value}(u:h.IsTuple t xs)(k:∀o,h.get? t=some o->h'.get? t=some o):h'.IsTuple t xs:=let ⟨o,g,r⟩:=u;⟨o,k o g,r⟩
def Kz (z TO i1 i2:Addr)(h h':Heap):Prop:=∀c o,c≠z->c≠TO->c≠i1->c≠i2->h.get? c=some o->h'.get? c=some o
theorem zlc {z TI TO i1 i2 l1 l2:Addr}{j:Nat}{xs ys:Array Value}{x y a b:Value}{Q:Value->Shared->Prop}(D:ZipApart z TI TO i1 i2 l1 l2)
  (gz:IsZip s.heap z TI TO .none) (gI:IsPair s.heap TI (.ref i1) (.ref i2)) (gO:IsPair s.heap TO a b) (u1:s.heap.IsTupleIter i1 l1 j) (u2:s.heap.IsTupleIter i2 l2 j) (t1:s.heap.IsTuple l1 xs) (t2:s.heap.IsTuple l2 ys) (ex:xs[j]?=some x) (ey:ys[j]?=some y)
  (k:∀h',IsZip h' z TI TO (rawInt s.heap.objs.size)->IsPair h' TO x y->h'.IsTupleIter i1 l1 (j+1)->h'.IsTupleIter i2 l2 (j+1)->IsPair h' s.heap.objs.size x y->h'.objs.size=s.heap.objs.size+1->Kz z TO i1 i2 s.heap h'->Q (.ref s.heap.objs.size) { s with heap:=h' }) :
  wpAny (model pg wd) A (Builtin.«zip.__next__» ⟨[.ref z],[]⟩) (fun f s'=>∃v,f=.done (.ret v)/\Q v s') Er s:=by
 show wpAny _ _ (field (.ref z) 2 >>= _) _ _ _;refine wpAny_bind (wpAny_field gz rfl (x:=.bool false) rfl ?_)
 show wpAny _ _ (field (.ref z) 3 >>= _) _ _ _;refine wpAny_bind (wpAny_field gz rfl (x:=.ref TI) rfl ?_);refine wpAny_bind (wpAny_seqItems gI rfl ?_)
 show wpAny _ _ (Builtin.SmallTypes.ownedTupleIsFree (.ref z) >>= _) _ _ _;refine wpAny_bind ?_;unfold Builtin.SmallTypes.ownedTupleIsFree
 refine wpAny_bind (wpAny_field gz rfl (x:=.none) rfl (wpAny_pure ?_));simp only [if_true]
 refine wpAny_bind (wpAny_rule ?_);refine wpAny_bind (wpAny_field gz rfl (x:=.ref TO) rfl ?_);refine wpAny_bind (wpAny_setField_rec gz (by simp) fun ha za sa=>?_)
 replace za:IsZip ha z TI TO .ellipsis:=za
 refine wpAny_bind ?_;simp only [List.zipIdx_cons,List.zipIdx_nil,List.forIn_cons,List.forIn_nil];refine wpAny_bind (wpAny_bind (wpAny_onRaise ?_))
 show wpAny _ _ (Builtin.SmallTypes.nextOf (.ref i1) >>= _) _ _ _
 refine wpAny_bind (zfH (tit_keep u1 fun o e=>sa.extBut _ _ D.i1z e) (zf7 t1 fun o e=>sa.extBut _ _ D.l1z e) ex fun hb ub sb=>wpAny_pure ?_)
 have ob:IsPair hb TO a b:=sb.extBut _ _ D.TOi1 (sa.extBut _ _ D.TOz gO)
 refine wpAny_bind (wpAny_seqItems ob rfl ?_);refine wpAny_bind (wpAny_updateSeq_pair ob fun hc oc sc=>?_)
 replace oc:IsPair hc TO x b:=oc
 refine wpAny_bind (wpAny_letGo (wpAny_pure ?_));refine wpAny_bind (wpAny_bind (wpAny_onRaise ?_))
 show wpAny _ _ (Builtin.SmallTypes.nextOf (.ref i2) >>= _) _ _ _
 refine wpAny_bind (zfH (tit_keep u2 fun o e=>sc.extBut _ _ D.TOi2.symm (sb.extBut _ _ D.i12.symm (sa.extBut _ _ D.i2z e))) (zf7 t2 fun o e=>sc.extBut _ _ D.l2TO (sb.extBut _ _ D.l2i1 (sa.extBut _ _ D.l2z e))) ey fun hd ud sd=>wpAny_pure ?_)
 have od:IsPair hd TO x b:=sd.extBut _ _ D.TOi2 oc
 refine wpAny_bind (wpAny_seqItems od rfl ?_);refine wpAny_bind (wpAny_updateSeq_pair od fun he oe se=>?_)
 replace oe:IsPair he TO x y:=oe
 refine wpAny_bind (wpAny_letGo (wpAny_pure (wpAny_pure ?_)));refine wpAny_bind (wpAny_seqItems oe rfl ?_);refine wpAny_bind (wpAny_newTuple ?_)
 have sz:he.objs.size=s.heap.objs.size:=by rw [se.1,sd.1,sc.1,sb.1,sa.1]
 have ze:IsZip he z TI TO .ellipsis:=se.extBut _ _ D.TOz.symm (sd.extBut _ _ D.i2z.symm (sc.extBut _ _ D.TOz.symm (sb.extBut _ _ D.i1z.symm za)))
 have ke:Kz z TO i1 i2 s.heap he:=fun c o p1 p2 p3 p4 e=>se.extBut _ _ p2 (sd.extBut _ _ p4 (sc.extBut _ _ p2 (sb.extBut _ _ p3 (sa.extBut _ _ p1 e))))
 have v1:he.IsTupleIter i1 l1 (j+1):=tit_keep ub fun o e=>se.extBut _ _ D.TOi1.symm (sd.extBut _ _ D.i12 (sc.extBut _ _ D.TOi1.symm e))
 have v2:he.IsTupleIter i2 l2 (j+1):=tit_keep ud fun o e=>se.extBut _ _ D.TOi2.symm e
 have lz:z<he.objs.size:=Heap.lt_size ze
 show wpAny _ _ (Builtin.SmallTypes.ownedTupleHandOut (.ref z) (.ref he.objs.size) >>= _) _ _ _;refine wpAny_bind ?_;unfold Builtin.SmallTypes.ownedTupleHandOut
 have zf:IsZip (he.push { cls:=.type "tuple",data:=.seq #[x,y] }) z TI TO .ellipsis:=Heap.get?_push_of_some _ ze
 refine wpAny_bind (wpAny_setField_rec zf (by simp) fun hg zg sg=>?_)
 replace zg:IsZip hg z TI TO (rawInt he.objs.size):=zg
 refine wpAny_setField_rec zg (by simp) fun hi zi si=>?_
 replace zi:IsZip hi z TI TO (rawInt he.objs.size):=zi
 have up:∀c o,c≠z->he.get? c=some o->hi.get? c=some o:=fun c o p e=>si.extBut _ _ p (sg.extBut _ _ p (Heap.get?_push_of_some _ e))
 have pn:IsPair hi he.objs.size x y:=si.extBut _ _ (Nat.ne_of_gt lz) (sg.extBut _ _ (Nat.ne_of_gt lz) (Heap.get?_push_size _ rfl))
 have si8:hi.objs.size=he.objs.size+1:=by rw [si.1,sg.1,Heap.size_push]
 rw [sz] at zi pn si8
 refine wpAny_pure ⟨_,rfl,?_⟩;show Q (.ref he.objs.size) _;rw [sz]
 exact k hi zi (up _ _ D.TOz oe) (tit_keep v1 fun o e=>up _ o D.i1z e) (tit_keep v2 fun o e=>up _ o D.i2z e) pn si8 fun c o p1 p2 p3 p4 e=>up c o p1 (ke c o p1 p2 p3 p4 e)
theorem zlw {z TI TO i1 i2 l1 l2:Addr}{j:Nat}{xs:Array Value}{a b:Value}{Q:Fin->Shared->Prop}(hh:A.handled=none)(D:ZipApart z TI TO i1 i2 l1 l2)
  (gz:IsZip s.heap z TI TO .none) (gI:IsPair s.heap TI (.ref i1) (.ref i2)) (gO:IsPair s.heap TO a b) (u1:s.heap.IsTupleIter i1 l1 j) (t1:s.heap.IsTuple l1 xs) (ex:xs[j]?=none)
  (k:∀h' e,Kz z TO i1 i2 s.heap h'->(∃o,h'.get? e=some o/\o.cls=.type "StopIteration")->Er (.ref e) { s with heap:=h' }) :
  wpAny (model pg wd) A (Builtin.«zip.__next__» ⟨[.ref z],[]⟩) Q Er s:=by
 show wpAny _ _ (field (.ref z) 2 >>= _) _ _ _;refine wpAny_bind (wpAny_field gz rfl (x:=.bool false) rfl ?_)
 show wpAny _ _ (field (.ref z) 3 >>= _) _ _ _;refine wpAny_bind (wpAny_field gz rfl (x:=.ref TI) rfl ?_);refine wpAny_bind (wpAny_seqItems gI rfl ?_)
 show wpAny _ _ (Builtin.SmallTypes.ownedTupleIsFree (.ref z) >>= _) _ _ _;refine wpAny_bind ?_;unfold Builtin.SmallTypes.ownedTupleIsFree
 refine wpAny_bind (wpAny_field gz rfl (x:=.none) rfl (wpAny_pure ?_));simp only [if_true]
 refine wpAny_bind (wpAny_rule ?_);refine wpAny_bind (wpAny_field gz rfl (x:=.ref TO) rfl ?_);refine wpAny_bind (wpAny_setField_rec gz (by simp) fun ha za sa=>?_)
 replace za:IsZip ha z TI TO .ellipsis:=za
 refine wpAny_bind ?_;simp only [List.zipIdx_cons,List.zipIdx_nil,List.forIn_cons,List.forIn_nil];refine wpAny_bind (wpAny_bind (wpAny_onRaise ?_))
 show wpAny _ _ (Builtin.SmallTypes.nextOf (.ref i1) >>= _) _ _ _
 refine wpAny_bind (zid hh (tit_keep u1 fun o e=>sa.extBut _ _ D.i1z e) (zf7 t1 fun o e=>sa.extBut _ _ D.l1z e) ex fun hb e sb he=>?_)
 obtain ⟨oe,ge,ce⟩:=he
 have zb:IsZip hb z TI TO .ellipsis:=sb _ _ D.i1z.symm za
 have ne:e≠z:=fun q=>by subst q;rw [zb] at ge;cases ge;simp at ce
 exact wpAny_setField_rec zb (by simp) fun hc _ sc=>k hc e (fun c o p1 _ p3 _ q=>sc.extBut _ _ p1 (sb _ _ p3 (sa.extBut _ _ p1 q))) ⟨oe,sc.extBut _ _ ne ge,ce⟩
theorem pyNext_zipT {z TI TO i1 i2 l1 l2:Addr}{j:Nat}{xs ys:Array Value}{x y a b:Value}{Q:Option Value->Shared->Prop}(D:ZipApart z TI TO i1 i2 l1 l2)
  (gz:IsZip s.heap z TI TO .none) (gI:IsPair s.heap TI (.ref i1) (.ref i2)) (gO:IsPair s.heap TO a b) (u1:s.heap.IsTupleIter i1 l1 j) (u2:s.heap.IsTupleIter i2 l2 j) (t1:s.heap.IsTuple l1 xs) (t2:s.heap.IsTuple l2 ys) (ex:xs[j]?=some x) (ey:ys[j]?=some y)
  (k:∀h',IsZip h' z TI TO (rawInt s.heap.objs.size)->IsPair h' TO x y->h'.IsTupleIter i1 l1 (j+1)->h'.IsTupleIter i2 l2 (j+1)->IsPair h' s.heap.objs.size x y->h'.objs.size=s.heap.objs.size+1->Kz z TO i1 i2 s.heap h'->Q (some (.ref s.heap.objs.size)) { s with heap:=h' }) :
  wpAny (model pg wd) A (pyNext (.ref z)) Q Er s:=by
 have ty:s.TypeIs (.ref z) "zip":=⟨_,gz,rfl⟩
 unfold pyNext
 exact wpAny_bind (wpAny_attempt (wpAny_callSpecial?_slot (name:=Str.ofString "__next__") ty F.slot_zip_next (wpAny_call_entry F.slot_zip_next ty F.entry_zip_next (zlc D gz gI gO u1 u2 t1 t2 ex ey fun h' a1 a2 a3 a4 a5 a6 a7=>wpAny_pure (k h' a1 a2 a3 a4 a5 a6 a7)) (F.args_zip_next_1 _))))
theorem pyNext_zipE {z TI TO i1 i2 l1 l2:Addr}{j:Nat}{xs:Array Value}{a b:Value}{Q:Option Value->Shared->Prop}(hh:A.handled=none)(D:ZipApart z TI TO i1 i2 l1 l2)
  (gz:IsZip s.heap z TI TO .none) (gI:IsPair s.heap TI (.ref i1) (.ref i2)) (gO:IsPair s.heap TO a b) (u1:s.heap.IsTupleIter i1 l1 j) (t1:s.heap.IsTuple l1 xs) (ex:xs[j]?=none)
  (k:∀h',Kz z TO i1 i2 s.heap h'->Q none { s with heap:=h' }):wpAny (model pg wd) A (pyNext (.ref z)) Q Er s:=by
 have ty:s.TypeIs (.ref z) "zip":=⟨_,gz,rfl⟩
 unfold pyNext
 refine wpAny_bind (wpAny_attempt (wpAny_callSpecial?_slot (name:=Str.ofString "__next__") ty F.slot_zip_next (wpAny_call_entry F.slot_zip_next ty F.entry_zip_next (zlw hh D gz gI gO u1 t1 ex fun h' e kk he=>?_) (F.args_zip_next_1 _))))
 obtain ⟨o,ho,hc⟩:=he
 exact wpAny_bind (wpAny_isInstance (T:="StopIteration") (b:=true) ⟨o,ho,hc⟩ isSubtype_stop (wpAny_pure (k _ kk)))
end
abbrev ti (l:Addr):Obj:={ cls:=.type "tuple_iterator",data:=.fields #[.ref l,.int 0 0] }
abbrev zh1 (h:Heap)(l1:Addr):Heap:=h.push (ti l1)
abbrev zh2 (h:Heap)(l1 l2:Addr):Heap:=(zh1 h l1).push (ti l2)
abbrev zh3 (h:Heap)(l1 l2:Addr):Heap:=(zh2 h l1 l2).push { cls:=.type "tuple",data:=.seq #[.ref h.objs.size,.ref (zh1 h l1).objs.size] }
abbrev zh4 (h:Heap)(l1 l2:Addr):Heap:=(zh3 h l1 l2).push { cls:=.type "tuple",data:=.seq #[.none,.none] }
abbrev zh5 (h:Heap)(l1 l2:Addr):Heap:=(zh4 h l1 l2).push { cls:=.type "zip",data:=.fields #[.none,.bool false,.bool false,.ref (zh2 h l1 l2).objs.size,.ref (zh3 h l1 l2).objs.size] }
theorem zjH (l1 l2:Addr)(xs ys:Array Value) :
  Meets (Builtin.«zip.__new__» ⟨[.type "zip",.ref l1,.ref l2],[]⟩) (fun _ R s=>s.heap.IsTuple l1 xs/\s.heap.IsTuple l2 ys/\R (.ok (.ret (.ref (zh4 s.heap l1 l2).objs.size))) { s with heap:=zh5 s.heap l1 l2 }) :=
 .of_wp fun prog w A R s h=>by
  obtain ⟨hp,g,d,tk,os⟩:=s
  obtain ⟨q1,q2,h⟩:=h
  have hsub:=sub_zip
  have T1:Heap.IsTuple (Shared.heap ⟨hp,g,d,tk,os⟩) l1 xs:=q1
  have T2:Heap.IsTuple (Shared.heap ⟨hp.push (ti l1),g,d,tk,os⟩) l2 ys:=zf7 q2 fun o e=>Heap.get?_push_of_some _ e
  wp_walk using wpAny_pyIter_tuple T1,wpAny_pyIter_tuple T2
  exact ⟨_,rfl,h⟩
theorem call_zipT {pg:Program}{wd:World}{A:Around}{Er:Value->Shared->Prop}{s:Shared}{l1 l2:Addr}{xs ys:Array Value}{Q:Value->Shared->Prop}(t1:s.heap.IsTuple l1 xs)(t2:s.heap.IsTuple l2 ys)
  (k:∀h',IsZip h' (s.heap.objs.size+4) (s.heap.objs.size+2) (s.heap.objs.size+3) .none->IsPair h' (s.heap.objs.size+2) (.ref s.heap.objs.size) (.ref (s.heap.objs.size+1))->IsPair h' (s.heap.objs.size+3) .none .none->h'.IsTupleIter s.heap.objs.size l1 0->h'.IsTupleIter (s.heap.objs.size+1) l2 0 ->
   (∀b o,s.heap.get? b=some o->h'.get? b=some o)->Q (.ref (s.heap.objs.size+4)) { s with heap:=h' }):wpAny (model pg wd) A (call (.type "zip") [.ref l1,.ref l2]) Q Er s:=by
 refine callType_new F.called_zip (by decide) (F.typeCall_zip_2 _ _) (F.newCall_zip_2 _ _) (fun obj=>F.args_object_init_3 obj _ _) F.entry_zip_new (zjH l1 l2 xs ys) ⟨t1,t2,?_⟩
 have n1:(zh1 s.heap l1).objs.size=s.heap.objs.size+1:=Heap.size_push ..
 have n2:(zh2 s.heap l1 l2).objs.size=s.heap.objs.size+2:=by rw [Heap.size_push,n1]
 have n3:(zh3 s.heap l1 l2).objs.size=s.heap.objs.size+3:=by rw [Heap.size_push,n2]
 have n4:(zh4 s.heap l1 l2).objs.size=s.heap.objs.size+4:=by rw [Heap.size_push,n3]
 have kp:∀{h:Heap} {o:Obj} {b:Addr} {u:Obj},h.get? b=some u->(h.push o).get? b=some u:=fun e=>Heap.get?_push_of_some _ e
 have m5:(zh5 s.heap l1 l2).get? (zh4 s.heap l1 l2).objs.size=some _:=Heap.get?_push_size _ rfl
 have m4:(zh5 s.heap l1 l2).get? (zh3 s.heap l1 l2).objs.size=some _:=kp (Heap.get?_push_size _ rfl)
 have m3:(zh5 s.heap l1 l2).get? (zh2 s.heap l1 l2).objs.size=some _:=kp (kp (Heap.get?_push_size _ rfl))
 have m2:(zh5 s.heap l1 l2).get? (zh1 s.heap l1).objs.size=some _:=kp (kp (kp (Heap.get?_push_size _ rfl)))
 have m1:(zh5 s.heap l1 l2).get? s.heap.objs.size=some _:=kp (kp (kp (kp (Heap.get?_push_size _ rfl))))
 rw [n2,n3,n4] at m5
 rw [n1,n2] at m3
 rw [n3] at m4
 rw [n1] at m2
 show _/\_
 rw [n4]
 exact ⟨⟨_,m5,rfl⟩,k _ m5 m3 m4 ⟨_,m1,rfl,rfl⟩ ⟨_,m2,rfl,rfl⟩ fun b o e=>kp (kp (kp (kp (kp e))))⟩
end WE
namespace L2
open PySem PySem.Spec PyProof.Rows
def Itz (K:PySem.W.Frag)(a b:Addr):It :=
 ⟨fun i H=>∃xs ys x y,SqT K H a xs/\SqT K H b ys/\xs[i]?=some x/\ys[i]?=some y,fun i H v H'=>∃T,H T=none/\v=.ref T/\∀xs ys x y,SqT K H a xs->SqT K H b ys->xs[i]?=some x->ys[i]?=some y->H'=upd H T (.tup [x,y]),fun i H=>∃xs,SqT K H a xs/\xs.length=i⟩
theorem zku {P:Program}{w:World}{K:PySem.W.Frag}{es:List Expr}{kk:Nat}{pos:Pos}(z TI TO i1 i2 a b:Addr)(D:ZipApart z TI TO i1 i2 a b) :
  Turn P w K (.Tuple es kk pos) (Itz K a b) [z,TI,TO,i1,i2] z (fun i h=>IsZip h z TI TO .none/\IsPair h TI (.ref i1) (.ref i2)/\(∃p q,IsPair h TO p q)/\h.IsTupleIter i1 a i/\h.IsTupleIter i2 b i) where
 mem:=by simp
 obj:=fun i h st c hc=>by
  obtain ⟨g0,g1,⟨p,q,g2⟩,⟨o3,g3,_,d3⟩,⟨o4,g4,_,d4⟩⟩:=st
  simp only [List.mem_cons,List.not_mem_nil,or_false] at hc
  rcases hc with rfl|rfl|rfl|rfl|rfl
  ·exact ⟨_,g0,fun v y=>nomatch y⟩
  ·exact ⟨_,g1,fun v y=>nomatch y⟩
  ·exact ⟨_,g2,fun v y=>nomatch y⟩
  ·exact ⟨o3,g3,fun v y=>by rw [d3] at y;cases y⟩
  ·exact ⟨o4,g4,fun v y=>by rw [d4] at y;cases y⟩
 keep:=fun i h h' st k=>by
  obtain ⟨g0,g1,⟨p,q,g2⟩,g3,g4⟩:=st
  exact ⟨k z (by simp) _ g0,k TI (by simp) _ g1,⟨p,q,k TO (by simp) _ g2⟩,WE.tit_keep g3 fun o e=>k i1 (by simp) o e,WE.tit_keep g4 fun o e=>k i2 (by simp) o e⟩
 item:=by
  intro X hP hw hK hc i pins s σ H E I hf st hg
  subst hP hw hK
  obtain ⟨xs,ys,x,y,hq1,hq2,hx,hy⟩:=hg
  obtain ⟨its,rv,p1,_⟩:=I.tuple hq1
  obtain ⟨jts,rw',p2,_⟩:=I.tuple hq2
  obtain ⟨g0,g1,⟨p,q,g2⟩,g3,g4⟩:=st
  obtain ⟨u,hu,ru⟩:=rv.get hx
  obtain ⟨v,hv,rv2⟩:=rw'.get hy
  refine WE.pyNext_zipT D g0 g1 g2 g3 g4 p1 p2 (by simpa using hu) (by simpa using hv) fun h1 a1 a2 a3 a4 a5 a6 a7=>⟨_,rfl,?_⟩
  refine wpAny_letOwnedTupleGo_zip a1 fun h2 b1 b2=>?_
  have lt:∀{c o},s.heap.get? c=some o->s.heap.objs.size≠c:=fun e=>Nat.ne_of_gt (Heap.lt_size e)
  have hTz:s.heap.objs.size≠z:=lt g0
  have hch:∀c o,c∉[z,TI,TO,i1,i2]->s.heap.get? c=some o->h2.get? c=some o:=fun c o hn e=>b2.extBut _ _ (fun z'=>hn (by simp [z'])) (a7 c o (fun z'=>hn (by simp [z'])) (fun z'=>hn (by simp [z'])) (fun z'=>hn (by simp [z'])) (fun z'=>hn (by simp [z'])) e)
  have new:ObjOk X.prog X.w (upd H s.heap.objs.size (.tup [x,y])) h2 s.heap.objs.size (.tup [x,y]):=⟨by show 2<=sizeLine;decide,[u,v],.cons ru (.cons rv2 .nil),_,b2.extBut _ _ hTz a5,rfl,_,rfl⟩
  have I2:=I.turnLaid (t':=s.toks) hf hch (Nat.le_refl _) new
  have gI:IsPair h1 TI (.ref i1) (.ref i2):=a7 _ _ D.TIz D.TITO D.TIi1 D.TIi2 g1
  refine ⟨.ref s.heap.objs.size,_,I2,rfl,⟨s.heap.objs.size,I.hok.fresh (Nat.le_refl _),rfl,fun xs' ys' x' y' hx1 hy1 hx2 hy2=>?_⟩,⟨b1,b2.extBut _ _ D.TIz gI,⟨_,_,b2.extBut _ _ D.TOz a2⟩,WE.tit_keep a3 fun o e=>b2.extBut _ _ D.i1z e,WE.tit_keep a4 fun o e=>b2.extBut _ _ D.i2z e⟩,fun c hc=>?_⟩
  ·rw [I.tuple_inj hx1 hq1,hx] at hx2
   rw [I.tuple_inj hy1 hq2,hy] at hy2
   cases hx2
   cases hy2
   rfl
  ·have hne:c≠s.heap.objs.size:=fun z'=>by
    subst z'
    obtain ⟨o3,e3,_⟩:=g3
    obtain ⟨o4,e4,_⟩:=g4
    simp only [List.mem_cons,List.not_mem_nil,or_false] at hc
    rcases hc with z' | z' | z' | z' | z'
    ·exact lt g0 z'
    ·exact lt g1 z'
    ·exact lt g2 z'
    ·exact lt e3 z'
    ·exact lt e4 z'
   rw [z4 hne]
   exact (hf c hc).1
 done:=by
  intro X hP hw hK hc i pins s σ H E I hf st hg
  subst hP hw hK
  obtain ⟨xs,hq1,hx⟩:=hg
  obtain ⟨its,rv,p1,_⟩:=I.tuple hq1
  obtain ⟨g0,g1,⟨p,q,g2⟩,g3,g4⟩:=st
  have hl:=rv.length
  refine WE.pyNext_zipE (I.ok.hd hc) D g0 g1 g2 g3 p1 (by simp;omega) fun h' kz=>⟨rfl,I.turnedL (t':=s.toks) hf fun c o hn e=>kz c o (fun z'=>hn (by simp [z'])) (fun z'=>hn (by simp [z'])) (fun z'=>hn (by simp [z'])) (fun z'=>hn (by simp [z'])) e⟩
 self:=fun _ _ _ _ _ st q=>wpAny_pyIter_zip st.1 q
def iZpT (K:PySem.W.Frag)(ta:TA):TI:=fun σ H R=>ta σ H fun vs H1=>∃a b,vs=[.ref a,.ref b]/\(∃xs,SqT K H1 a xs)/\(∃ys,SqT K H1 b ys)/\R (Itz K a b) H1
theorem zm9 {X:Cx}{a b:Expr}{es:List Expr}{kk:Nat}{tp:Pos}{ta:TA}{p pos:Pos}(hg:Gl X "zip")(hm:X.mg "zip"=none)(ha:PA X [a,b] ta)(hs:starEach [a,b] X.env=[(false,eval a X.env),(false,eval b X.env)]:=by rfl)(hs2:starEach [b] X.env=[(false,eval b X.env)]:=by rfl) :
  PI X (.Tuple es kk tp) (.Call (.Name "zip" p) [a,b] [] pos) (iZpT X.K ta):=by
 intro pins s σ H R I h
 refine wpAny_Call_Name_kw (zg9 I hg hm boot_zip ?_)
 refine PyProof.Rows.callWith_type1 (thn (ha pos pins s σ H _ I h) fun us s1 ⟨vs,H1,I1,r1,q1⟩=>?_) (by rw [hs,hs2]) (by rw [hs2];rfl)
 obtain ⟨l1,l2,rfl,⟨xs,hq1⟩,⟨ys,hq2⟩,q⟩:=q1
 cases r1 with
 |cons r rr =>
  cases rr with
  |cons r2 r3 =>
   cases r3
   cases (show _=Value.ref l1 from r)
   cases (show _=Value.ref l2 from r2)
   obtain ⟨its,rv,pt1,_⟩:=I1.tuple hq1
   obtain ⟨jts,rv2,pt2,_⟩:=I1.tuple hq2
   have b1:l1<s1.heap.objs.size:=by obtain ⟨_,e,_⟩:=pt1;exact Heap.lt_size e
   have b2:l2<s1.heap.objs.size:=by obtain ⟨_,e,_⟩:=pt2;exact Heap.lt_size e
   refine WE.call_zipT pt1 pt2 fun h1 g0 g1 g2 g3 g4 kp=>?_
   refine wpAny_pyIter_zip g0 ?_
   refine ⟨_,[s1.heap.objs.size+4,s1.heap.objs.size+2,s1.heap.objs.size+3,s1.heap.objs.size,s1.heap.objs.size+1],_,_,H1,rfl,I1.kept (t':=s1.toks) kp,zku _ _ _ _ _ l1 l2 (zipApart_new b1 b2),⟨g0,g1,⟨_,_,g2⟩,g3,g4⟩,fun c hc=>?_,q⟩
   have hb2:s1.heap.objs.size<=c:=by
    simp only [List.mem_cons,List.not_mem_nil,or_false] at hc
    rcases hc with z' | z' | z' | z' | z' <;> subst z'
    ·exact Nat.le_add_right _ 4
    ·exact Nat.le_add_right _ 2
    ·exact Nat.le_add_right _ 3
    ·exact Nat.le_refl _
    ·exact Nat.le_add_right _ 1
   exact I1.fpOk hb2 (I1.hok.fresh hb2)
def CX1 (P:Program)(w:World):CXT:=fun outer H s E e s'=>∃(a:Addr) (cls a0:Value) (H':Hp) (B:Heap),e=.ref a/\s'.os=s.os/\AllBare s'.gens/\Heap.FlyingW B outer a cls a0 s'.heap/\HOk P w H' s'.heap/\Un (frs outer) [] H H' s.heap s'.heap /\
 (∀b o,s.heap.get? b=some o->H b=none->b∉frs outer->B.get? b=some o)/\(∀b u,H' b=some u->∃o,B.get? b=some o)/\(∀b o,s.heap.get? b=some o->b∉frs outer->∃o',B.get? b=some o')/\E cls none H'
theorem ObjOk.there {P:Program}{w:World}{H:Hp}{h:Heap}{a:Addr}{o:HO}(x:ObjOk P w H h a o):∃ob,h.get? a=some ob:=by
 induction o with
 |lst xs=>obtain ⟨_,_,_,_,e⟩:=x;exact ⟨_,e⟩
 |tup xs=>obtain ⟨_,_,_,ob,e,_⟩:=x;exact ⟨ob,e⟩
 |dK kvs=>obtain ⟨_,_,_,_,ob,_,_,e,_⟩:=x;exact ⟨ob,e⟩
 |dT kvs=>obtain ⟨_,_,_,_,ob,_,_,e,_⟩:=x;exact ⟨ob,e⟩
 |set S n=>obtain ⟨ob,_,_,_,e,_⟩:=x;exact ⟨ob,e⟩
 |ins C dx fs=>obtain ⟨_,_,_,e,_⟩:=x;exact ⟨_,e⟩
 |own y=>exact x
 |xd fs=>obtain ⟨_,⟨ob,_,_,e,_⟩,_⟩:=x;exact ⟨ob,e⟩
 |rng lo hi=>obtain ⟨_,_,_,e⟩:=x;exact ⟨_,e⟩
 |frz ob u ih=>exact ⟨ob,x.1⟩
 |tbl ps=>exact ⟨_,x⟩
 |met f y=>exact ⟨_,x⟩
 |ext φ=>exact x.2.1
theorem HOk.inB {P:Program}{w:World}{H:Hp}{h h' B:Heap}(ok:HOk P w H h)(hB:B.StaysIn h)(hB':B.StaysIn h')(tr:∀b u,H b=some u->∃o,B.get? b=some o):HOk P w H h':=fun a o e =>
 (ok a o e).stay (fun b u hb q=>by
  have hb':∃o,B.get? b=some o:=by
   rcases hb with z|z
   ·rw [z]
    exact tr a o e
   ·exact tr b _ z
  obtain ⟨o',q'⟩:=hb'
  have:=hB b o' q'
  rw [q] at this
  cases this
  exact hB' b u q') (fun _ q=>q) fun _ _ q=>q
section
variable {P:Program}{w:World}{K:PySem.W.Frag}{mg:Str->Option Value}{base:Heap}{N:List Str}{qual:Str}{scope:Scope}{f:Addr}{cd:Value}{A:Around}{outer:List Env}{s₀:Shared}{H₀:Hp}{E:XK}
 {pins:List (Addr×Obj)} {σ:St} {H:Hp} {s:Shared}
theorem zkg {h':Heap}{e:Addr}{cls:Value}{vs:List Value}(I:Inv (cxOf (CX1 P w) P w K mg base N qual scope f cd A outer s₀ H₀ E) pins σ H s)(hx:Heap.MadeExcOf s.heap h' e cls vs)(hE:E cls none H) :
  (cxOf (CX1 P w) P w K mg base N qual scope f cd A outer s₀ H₀ E).xe (.ref e) { s with heap:=h' }:=by
 have stk:s.heap.FunFrames base (envOfC qual scope s₀.heap.objs.size f cd::outer):=I.stack
 have hst:∀b,b∈frs (envOfC qual scope s₀.heap.objs.size f cd::outer)->b=s₀.heap.objs.size \/ b∈frs outer:=fun b hb=>by
  have hb':b∈s₀.heap.objs.size::frs outer:=hb
  exact List.mem_cons.mp hb'
 have inB:∀b o,s.heap.get? b=some o->b∉frs (envOfC qual scope s₀.heap.objs.size f cd::outer)->(PySem.W.hideAll s.heap (frs (envOfC qual scope s₀.heap.objs.size f cd::outer))).get? b=some o:=fun b o q n=>PySem.W.hideAll_get _ q n
 have hB:(PySem.W.hideAll s.heap (frs (envOfC qual scope s₀.heap.objs.size f cd::outer))).StaysIn s.heap:=fun b o q=>PySem.W.of_hideAll _ q
 have bse:Un (frs outer) [] H₀ H s₀.heap s.heap:=I.base
 have lt:∀b o,s₀.heap.get? b=some o->b≠s₀.heap.objs.size:=fun b o q=>Nat.ne_of_lt (Heap.lt_size q)
 have tr:∀b u,H b=some u->∃o,(PySem.W.hideAll s.heap (frs (envOfC qual scope s₀.heap.objs.size f cd::outer))).get? b=some o:=fun b u q=>by
  obtain ⟨o,ho⟩:=ObjOk.there (I.hok b u q)
  exact ⟨o,inB b o ho fun hb=>by
   have:=I.stkFree b hb
   rw [q] at this
   cases this⟩
 refine wpAny_leaves_madeW (base:=PySem.W.hideAll s.heap (frs (envOfC qual scope s₀.heap.objs.size f cd::outer))) (h:=s.heap) I.ok.frames rfl hB (PySem.W.funFrames_hide stk fun env he a ha=>List.mem_filterMap.mpr ⟨env,he,ha⟩) hx fun h'' t fl tu tn up=>?_
 have up':s.heap.UpToSlots h'':=(Heap.UpToSlots.of_keeps hx.keeps).trans up
 refine ⟨e,cls,_,H,_,rfl,I.os,I.bare,fl,HOk.inB I.hok hB fl.1 tr,⟨fun b o q n hb _=>?_,fun b o q n hb _=>?_,bse.free,fun b o q _=>?_,bse.tups,bse.frzs,bse.tbls⟩,fun b o q n hb=>?_,tr,fun b o q hb=>?_,hE⟩
 ·refine fl.1 b o (inB b o (bse.keep b o q n hb (by simp)) fun z=>?_)
  rcases hst b z with z|z
  ·exact lt b o q z
  ·exact hb z
 ·obtain ⟨sl,q1⟩:=bse.slot b o q n hb (by simp)
  obtain ⟨_,o',ho',hd⟩:=Heap.FunFrames.mem stk (show b∈List.filterMap (fun (z:Env)=>z.frame) _ from List.mem_cons_of_mem _ hb)
  obtain ⟨sl',q2⟩:=up' b _ q1 (by rw [ho'] at q1;cases q1;exact hd)
  exact ⟨sl',q2⟩
 ·obtain ⟨o',q1⟩:=bse.there b o q (by simp)
  by_cases hb:b∈frs (envOfC qual scope s₀.heap.objs.size f cd::outer)
  ·obtain ⟨_,o2,ho',hd⟩:=Heap.FunFrames.mem stk hb
   obtain ⟨sl',q2⟩:=up' b _ ho' hd
   exact ⟨_,q2⟩
  ·exact ⟨o',fl.1 b o' (inB b o' q1 hb)⟩
 ·refine inB b o (bse.keep b o q n hb (by simp)) fun z=>?_
  rcases hst b z with z|z
  ·exact lt b o q z
  ·exact hb z
 ·obtain ⟨o',q1⟩:=bse.there b o q (by simp)
  refine ⟨o',inB b o' q1 fun z=>?_⟩
  rcases hst b z with z|z
  ·exact lt b o q z
  ·exact hb z
theorem pass1:Passes (CX1 P w) (cxOf (CX1 P w) P w K mg base N qual scope f cd A outer s₀ H₀ E) E:=by
 intro pins σ H s e s' I h
 obtain ⟨a,cls,a0,H',B,rfl,os,bare,fl,hok,un,hB,tr,hT,hE⟩:=h
 have bse:Un (frs outer) [] H₀ H s₀.heap s.heap:=I.base
 have lt:∀b o,s₀.heap.get? b=some o->b≠s₀.heap.objs.size:=fun b o q=>Nat.ne_of_lt (Heap.lt_size q)
 have hst:∀b,b∈frs (envOfC qual scope s₀.heap.objs.size f cd::outer)->b=s₀.heap.objs.size \/ b∈frs outer:=fun b hb=>by
  have hb':b∈s₀.heap.objs.size::frs outer:=hb
  exact List.mem_cons.mp hb'
 have un':Un (frs (envOfC qual scope s₀.heap.objs.size f cd::outer)) [] H H' s.heap s'.heap:=un
 have kB:∀b o,s₀.heap.get? b=some o->H₀ b=none->b∉frs outer->B.get? b=some o:=fun b o q n hb=>hB b o (bse.keep b o q n hb (by simp)) (bse.free b o q n (by simp)) fun z=>by
  rcases hst b z with z|z
  ·exact lt b o q z
  ·exact hb z
 have kT:∀b o,s₀.heap.get? b=some o->b∉frs outer->∃o',B.get? b=some o':=fun b o q hb=>by
  obtain ⟨o',q1⟩:=bse.there b o q (by simp)
  refine hT b o' q1 fun z=>?_
  rcases hst b z with z|z
  ·exact lt b o q z
  ·exact hb z
 refine wpAny_leaves_onW I.ok.frames rfl fl fun h'' fl' up=>?_
 refine ⟨a,cls,a0,H',B,rfl,os.trans I.os,bare,fl',HOk.inB hok fl.1 fl'.1 tr,⟨fun b o q n hb _=>fl'.1 b o (kB b o q n hb),fun b o q n hb _=>?_,fun b o q n _=>?_,fun b o q _=>?_,fun b xs q=>un'.tups b xs (bse.tups b xs q),fun b o u q=>un'.frzs b o u (bse.frzs b o u q),fun b ps q=>?_⟩,kB,tr,kT,hE⟩
 ·obtain ⟨sl,q1⟩:=bse.slot b o q n hb (by simp)
  have n1:=bse.free b o q n (by simp)
  obtain ⟨sl1,q2⟩:=un'.slot b _ q1 n1 (List.mem_cons_of_mem _ hb) (by simp)
  obtain ⟨_,o',ho',hd⟩:=Heap.FunFrames.mem fl.2.2.1 (show b∈List.filterMap (fun (z:Env)=>z.frame) _ from List.mem_cons_of_mem _ hb)
  obtain ⟨sl',q3⟩:=up b _ q2 (by rw [ho'] at q2;cases q2;exact hd)
  exact ⟨sl',q3⟩
 ·obtain ⟨o',q1⟩:=bse.there b o q (by simp)
  exact un'.free b o' q1 (bse.free b o q n (by simp)) (by simp)
 ·obtain ⟨o',q1⟩:=bse.there b o q (by simp)
  obtain ⟨o2,q2⟩:=un'.there b o' q1 (by simp)
  by_cases hb:b∈frs outer
  ·obtain ⟨_,o3,ho3,hd⟩:=Heap.FunFrames.mem fl.2.2.1 (show b∈List.filterMap (fun (z:Env)=>z.frame) _ from List.mem_cons_of_mem _ hb)
   obtain ⟨sl',q3⟩:=up b _ ho3 hd
   exact ⟨_,q3⟩
  ·obtain ⟨o4,q4⟩:=kT b o q hb
   exact ⟨o4,fl'.1 b o4 q4⟩
 ·obtain ⟨m1,e1⟩:=bse.tbls b ps q
  obtain ⟨m2,e2⟩:=un'.tbls b _ e1
  exact ⟨m1++m2,by rw [e2,Array.append_assoc]⟩
end
section
variable {X:Cx}{e:Expr}{es:List Expr}{te:TE}
end
section
variable {X:Cx}{e:Expr}{es:List Expr}{t:TA}{E:XK}
end
section
variable {pg:Program}{wd:World}{A:Around}{E:Value->Shared->Prop}{h:Heap}{g:Array GenState}{d:Drawn}{t:Nat}{os:OsState}{a C:Addr}{o:Obj}{K:PySem.W.Frag}
end
def ExcO (a C:Addr):Heap->Prop:=fun h=>∃o,h.get? a=some o/\o.cls=.ref C
section
variable {X:Cx}
end
section
variable {X:Cx}{pins:List (Addr×Obj)}{σ:St}{H:Hp}{s:Shared}
end
section
variable {X:Cx}{pins:List (Addr×Obj)}{σ:St}{H:Hp}{s:Shared}
end
section
variable {X:Cx}{body suite:List Stmt}{b₀:Stmt}{x n:Str}{np hpos pos:Pos}{tb:XK->TS}{ts:TS}{W:Addr}{i:Nat}
end
section
variable {P:Program}{w:World}{K:PySem.W.Frag}{mg:Str->Option Value}{base:Heap}
end
section
variable {X:Cx}{k:Nat}{f:Addr}{fd:FuncData}{ps:List Str}{sp:Sp}{x:Str}{p pos:Pos}{e:Expr}{es:List Expr}{t:TA}
end
section
variable {P:Program}{w:World}{K:PySem.W.Frag}{mg:Str->Option Value}{base:Heap}
theorem Fun.okX {x qual:Str}{st:Stmt}{f:Addr}{fd:FuncData}{N ps:List Str}{k:Nat}{sp:Sp}(F:Fun K x qual st f fd)(S:FnScope N ps (defScope st))(len:∀vs H Q E,sp vs H Q E->vs.length=ps.length)
  (body:∀(cdv:Value) (A:Around) (outer:List Env) (s:Shared) (H:Hp) (vs:List V) (Q:VK) (E:XK),Room k (A.deeper (envOfC qual (defScope st) s.heap.objs.size f cdv))->sp vs H Q E ->
   ∃t,PSs (cxOf (CX1 P w) P w K mg base N qual (defScope st) f cdv A outer s H E) (defBody st) t/\t { nx:=fun _ H'=>Q .non H',rt:=Q } (start N vs) H):FnOk P w K mg base (CX1 P w) (k+1) f fd ps sp:=by
 obtain ⟨oc,od,kV,doc,pm,an,cdv,ct,osl,rfl,lk,hcd⟩:=F.ex
 exact zoX lk hcd S len fun A outer s H vs Q E hr hsp=>body cdv A outer s H vs Q E hr hsp
theorem own1 {N:List Str}{qual:Str}{scope:Scope}{f:Addr}{cd:Value}{A:Around}{outer:List Env}{s:Shared}{H:Hp}{E:XK}{CX:CXT} :
  PassesOwn (model (cxOf CX P w K mg base N qual scope f cd A outer s H E).prog (cxOf CX P w K mg base N qual scope f cd A outer s H E).w) (cxOf CX P w K mg base N qual scope f cd A outer s H E).A (cxOf CX P w K mg base N qual scope f cd A outer s H E).env (cxOf CX P w K mg base N qual scope f cd A outer s H E).xe :=
 PassesOwn.leaving
end
section
variable {X:Cx}
end
end L2
namespace L2
open PySem
@[irreducible] def KqSs (X:Cx)(st:List Stmt)(t:TS):Prop:=PSs X st t
@[irreducible] def KqS (X:Cx)(st:Stmt)(t:TS):Prop:=PS X st t
@[irreducible] def KqE (X:Cx)(e:Expr)(t:TE):Prop:=PE X e t
@[irreducible] def KqT (X:Cx)(e:Expr)(t:TT):Prop:=PT X e t
@[irreducible] def KqW (X:Cx)(e:Expr)(t:TT):Prop:=PW X e t
@[irreducible] def KqA (X:Cx)(es:List Expr)(t:TA):Prop:=PA X es t
@[irreducible] def KqG (X:Cx)(target:Expr)(t:TG):Prop:=PG X target t
@[irreducible] def KqGs (X:Cx)(ts:List Expr)(t:TGs):Prop:=PGs X ts t
@[irreducible] def KqI (X:Cx)(tg iter:Expr)(wi:TI):Prop:=PI X tg iter wi
@[irreducible] def KqO (X:Cx)(e:Option Expr)(t:TO):Prop:=PO X e t
@[irreducible] def KqTs (X:Cx)(ifs:List Expr)(t:TT):Prop:=PTs X ifs t
@[irreducible] def KqPs (X:Cx)(pos:Pos)(keys:List (Option Expr))(values:List Expr)(trs:List (TE×TE)):Prop:=PPs X pos keys values trs
section
variable {X:Cx}{pos:Pos}
theorem zaz {X:Cx}{e:Expr}{t:TT}(h:KqW X e t):KqT X e t:=by with_unfolding_all exact PW.pt h
theorem zbQ {o i:Expr}{to ti:TE}{t:TSet}(ho:KqE X o to)(hi:KqE X i ti)(hs:PSet X t)
  (ha:∀v,assign (.Subscript o i pos) X.env v=(do
   let ov <- holding [v] (eval o X.env)
   let iv <- holding [v,ov] (eval i X.env)
   standAt pos
   holding [v,ov,iv] (setItem ov iv v)
   release [v,ov,iv] []):=by intro _;rfl):KqG X (.Subscript o i pos) (gSub to ti t):=by with_unfolding_all exact zmh ho hi hs ha
theorem zlR {i j:Nat}{x y:Str}{a b:Expr}{ta:TA}{px py pt:Pos}{kt k2 pt2}(hc:X.calm=true)(hN:X.N.Nodup)(hi:X.N[i]?=some x)(hj:X.N[j]?=some y)(hij:i≠j)
  (hx:X.env.scope.names.lookup x=some .local) (hy:X.env.scope.names.lookup y=some .local) (ha:KqA X [a,b] ta)
  (hw:swappedStores [.Tuple [.Name x px,.Name y py] kt pt] (.Tuple [a,b] k2 pt2) X.env=pure (some [x,y]))
  (hs:swapsWithSole [.Tuple [.Name x px,.Name y py] kt pt] (.Tuple [a,b] k2 pt2) pos.line X.env=pure false:=by rfl) :
  KqS X (.Assign [.Tuple [.Name x px,.Name y py] kt pt] (.Tuple [a,b] k2 pt2) pos) (tPar i j ta):=by with_unfolding_all exact zoy hc hN hi hj hij hx hy ha hw hs
end
end L2
namespace IC
open PySem
inductive PV where
 | non|bl (b:Bool)|int (i:Int)|str (x:Str)|tp (k:Bool) (xs:List PV)|lst (xs:List PV)|loc (n:Nat)|exn (c:Nat)|scr (xs:List PV)
deriving Inhabited
noncomputable abbrev PV.tup (xs:List PV):PV:=.tp false xs
mutual
noncomputable def noLoc:PV->Bool
 | .loc _=>false
 | .exn _=>false
 | .tp _ xs=>noLocs xs
 | .lst xs=>noLocs xs
 | .scr xs=>noLocs xs
 |_=>true
noncomputable def noLocs:List PV->Bool
 | []=>true
 |x::xs=>noLoc x && noLocs xs
end
mutual
noncomputable def shd (n:Nat):PV->Bool
 | .non=>true
 | .bl _=>true
 | .int _=>true
 | .str x=>x.cps.all (· < 0x110000)
 | .tp _ xs=>decide (0<n) && shds (n - 1) xs
 | .lst xs=>decide (0<n) && shds (n - 1) xs
 |_=>false
noncomputable def shds (n:Nat):List PV->Bool
 | []=>true
 |x::xs=>shd n x && shds n xs
end
noncomputable abbrev shp (v:PV):Bool:=shd 60 v
noncomputable def flat:PV->Bool
 | .non=>true
 | .bl _=>true
 | .int _=>true
 | .str _=>true
 |_=>false
noncomputable def bi (b:Bool):Int:=if b then 1 else 0
mutual
noncomputable def peq:PV->PV->Bool
 | .non,.non=>true
 | .bl a,.bl b=>a == b
 | .bl a,.int j=>bi a == j
 | .int i,.bl b=>i == bi b
 | .int i,.int j=>i == j
 | .str x,.str y=>x == y
 | .tp _ xs,.tp _ ys=>peqs xs ys
 | .lst xs,.lst ys=>peqs xs ys
 |_,_=>false
noncomputable def peqs:List PV->List PV->Bool
 | [],[]=>true
 |x::xs,y::ys=>peq x y && peqs xs ys
 |_,_=>false
end
inductive Ob where
 | lst (xs:List PV)|dct (t:Bool) (kvs:List (PV×PV))|dead|ins (c:Nat) (fs:List (Str×PV))
noncomputable abbrev Env:=List (Option PV)
noncomputable abbrev Store:=List Ob
inductive R (α:Type) where
 | ok (a:α) (st:Store)|exc (c:Nat) (st:Store)|bad
noncomputable def R.bind {α β:Type}(r:R α)(k:α->Store->R β):R β :=
 match r with
 | .ok a st=>k a st
 | .exc c st=>.exc c st
 | .bad=>.bad
inductive BOp where
 | add|sub|mul|fdiv|mod|pow|shl|shr|band|bor|bxor
inductive COp where
 | eq|ne|lt|le|gt|ge|is|isnot|isin|notin
inductive Ty where
 | int|bool|str|tuple|list|cls (c:Nat)|val
inductive Blt where
 | len|int|abs|min|max|tuple|list|all|sum|dict|rev
inductive Mth where
 | append|extend|get|bits|upper|insert|count|index
inductive Tg where
 | n (i:Nat)|t (l:List Nat)
mutual
inductive Ce where
 | cst (v:PV)
 | var (i:Nat)
 | bin (o:BOp) (a b:Ce)
 | neg (a:Ce)
 | not (a:Ce)
 | and (a b:Ce)
 | or (a b:Ce)
 | cmp (o:COp) (a b:Ce)
 | chain (o p:COp) (a b c:Ce)
 | ite (c a b:Ce)
 | tup (es:Ces)
 | lst (es:Ces)
 | newl (es:Ces)
 | newd (kvs:List (Str×Int))
 | dict0 (t:Bool)
 | idx (a i:Ce)
 | slc (a:Ce) (lo hi:Ce)
 | call (f:Nat) (args:Ces)
 | blt (b:Blt) (args:Ces)
 | mth (m:Mth) (o:Ce) (args:Ces)
 | isi (a:Ce) (t:List Ty)
 | isx (a:Ce) (cs:List Nat) (t:List Ty)
 | comp (sl:List (Option Nat)) (tg:Tg) (it:Cit) (c:Ce) (e:Ce)
 | frz (a:Ce)
 | nope
 | fst (e:Ces)
 | rep (a b:Ce)
 | dix (D:List (Str×PV)) (a:Ce)
 | din (a:Ce) (D:List (Str×PV))
 | thw (a:Ce)
 | nin (a b:Ce)
 | fld (c:Nat) (a:Ce) (f:Str)
 | new (c i:Nat) (es:Ces)
 | mcl (c i:Nat) (m:Str) (o:Ce) (es:Ces)
 | dgt (a i:Ce)
 | inn (a b:Ce)
 | qcl (i:Nat) (es:Ces)
inductive Ces where
 | nil
 | cons (e:Ce) (es:Ces)
inductive Cit where
 | seq (e:Ce)
 | range1 (a:Ce)
 | range2 (a b:Ce)
 | rangeD (a b:Ce)
 | enum (e:Ce)
 | zip (a b:Ce)
end
mutual
inductive Cs where
 | expr (e:Ce)
 | asg (t:Tg) (e:Ce)
 | six (o i e:Ce)
 | dput (o i e:Ce)
 | aug (i:Nat) (o:BOp) (e:Ce)
 | ret (e:Ce)
 | ite (c:Ce) (a b:Css)
 | for (t:Tg) (it:Cit) (b:Css)
 | while (c:Ce) (b:Css)
 | nope
 | brk
 | cnt
 | pass
 | raise (c:Nat) (e:Ce)
 | try (b:Css) (cs:List Nat) (i:Nat) (h:Css)
 | six2 (o i p j e f:Ce)
 | sfl (c:Nat) (o:Ce) (f:Str) (e:Ce)
 | mkr (i:Nat) (D:List (Str×Nat)) (n:Ce) (es:Ces)
inductive Css where
 | nil
 | cons (s:Cs) (ss:Css)
end
noncomputable def CMulB (i j:Int):Bool:=(decide (i.natAbs<18446744073709551616)) || (decide (j.natAbs<18446744073709551616))
noncomputable def binI (o:BOp)(i j:Int):Option PV :=
 match o with
 | .add=>some (.int (i+j))
 | .sub=>some (.int (i - j))
 | .mul=>if CMulB i j then some (.int (i*j)) else none
 | .fdiv=>if 0<j/\j<10000000000000000000000000000000000000000000000000000000000000000000000 then some (.int (i / j)) else none
 | .mod=>if 0<j then some (.int (i % j)) else none
 | .pow=>if 0<=j/\j<=1000000/\i.natAbs<18446744073709551616 then some (.int (i ^ j.toNat)) else none
 | .shl=>if 0<=j/\j<=1000000/\i.natAbs<18446744073709551616 then some (.int (i*2 ^ j.toNat)) else none
 | .shr=>if 0<=j then some (.int (i / 2 ^ j.toNat)) else none
 | .band=>some (.int (Builtin.bitAnd i j))
 | .bor=>some (.int (Builtin.bitOr i j))
 | .bxor=>some (.int (Builtin.bitXor i j))
noncomputable def sizeMax:Nat:=16777216
noncomputable def catT (k:Bool)(a:List PV)(j:Bool)(b:List PV):PV:=if a.isEmpty then .tp j b else if b.isEmpty then .tp k a else .tup (a++b)
noncomputable def repV (x y:PV):Option PV :=
 match x,y with
 | .tp _ a,.int n=>if 2<=n/\n<=1000/\a.isEmpty=false/\a.length<=1000 then some (.tup (List.replicate n.toNat a).flatten) else none
 |_,_=>none
noncomputable def binV (o:BOp)(x y:PV):Option PV :=
 match x,y with
 | .int i,.int j=>binI o i j
 | .int i,.bl b=>match o with
  | .add=>some (.int (i+bi b))
  |_=>none
 | .str a,.str b=>match o with
  | .add=>if a.length+b.length<=sizeMax then some (.str (a++b)) else none
  |_=>none
 | .tp k a,.tp j b=>match o with
  | .add=>if a.length+b.length<=sizeMax then some (catT k a j b) else none
  |_=>none
 | .lst a,.lst b=>match o with
  | .add=>if a.length+b.length<=sizeMax then some (.lst (a++b)) else none
  |_=>none
 |_,_=>none
noncomputable def augV (o:BOp)(x y:PV):Option PV :=
 match x,y with
 | .int i,.int j=>binI o i j
 |_,_=>none
noncomputable def isNon:PV->Bool
 | .non=>true
 |_=>false
noncomputable def inL (x:PV):List PV->Bool
 | []=>false
 |y::ys=>peq y x || inL x ys
noncomputable def inS (a b:Str):Bool:=(List.range (b.length+1)).any fun i=>decide (i+a.length<=b.length) && (b.cps.extract i (i+a.length) == a.cps)
noncomputable def cmpI (o:COp)(i j:Int):Option PV :=
 match o with
 | .lt=>some (.bl (decide (i<j)))
 | .le=>some (.bl (decide (i<=j)))
 | .gt=>some (.bl (decide (j<i)))
 | .ge=>some (.bl (decide (j<=i)))
 |_=>none
noncomputable def cmpS (o:COp)(a b:Str):Option PV :=
 match o with
 | .lt=>some (.bl (decide (a.cps.toList<b.cps.toList)))
 | .le=>some (.bl (!decide (b.cps.toList<a.cps.toList)))
 |_=>none
noncomputable def cmpV (o:COp)(x y:PV):Option PV :=
 match o with
 | .eq=>if shp x && shp y then some (.bl (peq x y)) else none
 | .ne=>if shp x && shp y then some (.bl (!peq x y)) else none
 | .is=>match y with
  | .non=>some (.bl (isNon x))
  | .bl b=>match x with
   | .bl a=>some (.bl (a == b))
   |_=>none
  |_=>none
 | .isnot=>match y with
  | .non=>some (.bl (!isNon x))
  | .bl b=>match x with
   | .bl a=>some (.bl (!(a == b)))
   |_=>none
  |_=>none
 | .isin=>match x,y with
  | .str a,.str b=>some (.bl (inS a b))
  |x,.tp _ l=>if flat x && l.all flat then some (.bl (inL x l)) else none
  |x,.lst l=>if flat x && l.all flat then some (.bl (inL x l)) else none
  |_,_=>none
 | .notin=>match x,y with
  | .str a,.str b=>some (.bl (!inS a b))
  |x,.tp _ l=>if flat x && l.all flat then some (.bl (!inL x l)) else none
  |x,.lst l=>if flat x && l.all flat then some (.bl (!inL x l)) else none
  |_,_=>none
 |o=>match x,y with
  | .int i,.int j=>cmpI o i j
  | .str a,.str b=>cmpS o a b
  |_,_=>none
noncomputable def truV (st:Store)(x:PV):Option Bool :=
 match x with
 | .non=>some false
 | .bl b=>some b
 | .int i=>some (i != 0)
 | .str y=>if y.length<=sizeMax then some ((y.length:Int) != 0) else none
 | .tp _ xs=>some (!xs.isEmpty)
 | .lst xs=>some (!xs.isEmpty)
 | .loc n=>match st[n]? with
  |some (.lst xs)=>some (!xs.isEmpty)
  |_=>none
 |_=>none
noncomputable def ixI (n:Nat)(i:Int):Option Nat:=if 0<=i then (if i<n then some i.toNat else none) else if -(n:Int)<=i then some (i+n).toNat else none
noncomputable def at? {α:Type}(xs:List α)(i:Int):Option α:=(ixI xs.length i).bind fun j=>xs[j]?
noncomputable def look (k:PV):List (PV×PV)->Option PV
 | []=>none
 | (a,b)::r=>if peq a k then some b else look k r
noncomputable def put (k v:PV)(kvs:List (PV×PV)):List (PV×PV) :=
 if (kvs.any fun p=>peq p.1 k)=true then kvs.map (fun p=>if peq p.1 k=true then (p.1,v) else p) else kvs++[(k,v)]
noncomputable def isKey0:PV->Bool
 | .int _=>true
 | .str _=>true
 |_=>false
noncomputable def isKey (t:Bool)(k:PV):Bool :=
 match t with
 |false=>isKey0 k
 |true=>match k with
  | .tp false xs=>xs.all isKey0
  |_=>false
noncomputable def idxI {α:Type}(xs:List α)(i:PV):Option α :=
 match i with
 | .int k=>at? xs k
 |_=>none
noncomputable def idxV (st:Store)(x i:PV):Option PV :=
 match x with
 | .tp _ xs=>idxI xs i
 | .lst xs=>idxI xs i
 | .str s=>if s.length<=sizeMax then (idxI s.cps.toList i).map fun c=>.str ⟨#[c]⟩ else none
 | .loc n=>match st[n]? with
  |some (.lst xs)=>idxI xs i
  |_=>none
 |_=>none
noncomputable def clampI (n:Nat)(v:Int):Nat:=if v<0 then (v+(n:Int)).toNat else min v.toNat n
noncomputable def loOf (n:Nat)(lo:Option Int):Nat :=
 match lo with
 |none=>0
 |some i=>clampI n i
noncomputable def hiOf (n:Nat)(hi:Option Int):Nat :=
 match hi with
 |none=>n
 |some i=>clampI n i
noncomputable def cut {α:Type}(xs:List α)(lo hi:Option Int):List α:=(xs.drop (loOf xs.length lo)).take (hiOf xs.length hi - loOf xs.length lo)
noncomputable def optI:PV->Option (Option Int)
 | .non=>some none
 | .int i=>some (some i)
 |_=>none
noncomputable def slcO (x:PV)(a b:Option Int):Option PV :=
 match x with
 | .tp k xs=>if loOf xs.length a=0/\hiOf xs.length b=xs.length then some (.tp k xs) else some (.tup (cut xs a b))
 | .str s=>if s.length<=sizeMax then some (.str ⟨(cut s.cps.toList a b).toArray⟩) else none
 | .lst xs=>some (.lst (cut xs a b))
 | .scr xs=>some (.lst (cut xs a b))
 |_=>none
noncomputable def slcV (x:PV)(a:Option Int)(hi:PV):Option PV :=
 match optI hi with
 |some b=>slcO x a b
 |none=>none
noncomputable def isTy (x:PV)(t:Ty):Bool :=
 match x,t with
 | .int _,.int=>true
 | .bl _,.int=>true
 | .bl _,.bool=>true
 | .str _,.str=>true
 | .tp _ _,.tuple=>true
 | .lst _,.list=>true
 | .exn c,.cls d=>c == d
 | .exn _,.val=>true
 |_,_=>false
noncomputable def isBl:Ty->Bool
 | .cls _=>false
 | .val=>false
 |_=>true
noncomputable def isiV (x:PV)(ts:List Ty):Option PV :=
 match x with
 | .loc _=>none
 | .scr _=>none
 | .exn c=>if ts.all isBl then none else some (.bl (ts.any (isTy (.exn c))))
 |x=>match ts with
  | [t]=>if isBl t then some (.bl (isTy x t)) else none
  |_=>none
noncomputable def isxV (cs:List Nat)(x:PV)(ts:List Ty):Option PV :=
 match x with
 | .exn c=>if cs.contains c then some (.bl (ts.any (isTy (.exn c)))) else none
 |_=>none
noncomputable def fstS:PV->Option Str
 | .int i=>if i.natAbs.log2<1920 then some (Str.ofString (toString i)) else none
 | .str s=>if s.length<=16777216 then some s else none
 |_=>none
noncomputable def fstJ:Str->List PV->Option Str
 |out,[]=>if out.length<=16777216 then some out else none
 |out,v::vs=>match fstS v with
  |some y=>if (out++y).length<=16777216 then fstJ (out++y) vs else none
  |none=>none
noncomputable def fstR (r:R (List PV)):R PV :=
 match r with
 | .ok vs st=>match fstJ Str.empty vs with
  |some z=>.ok (.str z) st
  |none=>.bad
 |_=>.bad
noncomputable def allB:List PV->Option Bool
 | []=>some true
 | .bl b::r=>match allB r with
  |some c=>some (b && c)
  |none=>none
 |_::_=>none
noncomputable def sumI:List PV->Option Int
 | []=>some 0
 | .int i::r=>match sumI r with
  |some c=>some (i+c)
  |none=>none
 |_::_=>none
noncomputable def maxI:List PV->Option Int
 | []=>none
 | [.int i]=>some i
 | .int i::r=>match maxI r with
  |some c=>some (if i<c then c else i)
  |none=>none
 |_::_=>none
noncomputable def seqOf (st:Store):PV->Option (List PV)
 | .tp _ xs=>some xs
 | .lst xs=>some xs
 | .loc n=>match st[n]? with
  |some (.lst xs)=>some xs
  |_=>none
 |_=>none
noncomputable def lstOf (st:Store):PV->Option (List PV)
 | .lst xs=>some xs
 | .loc n=>match st[n]? with
  |some (.lst xs)=>some xs
  |_=>none
 |_=>none
noncomputable def lenV (st:Store)(x:PV):Option PV :=
 match x with
 | .str s=>if s.length<=sizeMax then some (.int s.length) else none
 |x=>(seqOf st x).map fun xs=>.int xs.length
noncomputable def intV (x:PV):Option PV :=
 match x with
 | .int i=>some (.int i)
 | .bl k=>some (.int (bi k))
 |_=>none
noncomputable def absV1 (x:PV):Option PV :=
 match x with
 | .int i=>some (.int (if i<0 then -i else i))
 |_=>none
noncomputable def minV (x y:PV):Option PV :=
 match x,y with
 | .int i,.int j=>some (.int (if j<i then j else i))
 |_,_=>none
noncomputable def maxV (x y:PV):Option PV :=
 match x,y with
 | .int i,.int j=>some (.int (if i<j then j else i))
 |_,_=>none
noncomputable def tupV (st:Store)(x:PV):Option PV :=
 match x with
 | .tp k xs=>some (.tp k xs)
 |x=>(lstOf st x).map .tup
noncomputable def revV:PV->Option PV
 | .tp _ xs=>if xs.isEmpty then none else some (.tup xs.reverse)
 |_=>none
noncomputable def bltV (b:Blt)(st:Store)(vs:List PV):Option PV :=
 match vs with
 | [x]=>match b with
  | .len=>lenV st x
  | .int=>intV x
  | .abs=>absV1 x
  | .max=>(lstOf st x).bind fun xs=>(maxI xs).map .int
  | .tuple=>tupV st x
  | .list=>(seqOf st x).map .lst
  | .all=>(lstOf st x).bind fun xs=>(allB xs).map .bl
  | .sum=>(lstOf st x).bind fun xs=>(sumI xs).map .int
  | .rev=>revV x
  |_=>none
 | [x,y]=>match b with
  | .min=>minV x y
  | .max=>maxV x y
  |_=>none
 |_=>none
noncomputable def dctOf (st:Store):PV->Option (Bool×List (PV×PV))
 | .loc n=>match st[n]? with
  |some (.dct t xs)=>some (t,xs)
  |_=>none
 |_=>none
noncomputable def mthOk (m:Mth)(st:Store)(x:PV):Option Bool :=
 match m with
 | .append=>(lstOf st x).map fun _=>true
 | .extend=>(lstOf st x).map fun _=>true
 | .insert=>(lstOf st x).map fun _=>true
 | .count=>(lstOf st x).map fun _=>true
 | .index=>(lstOf st x).map fun _=>true
 | .get=>(dctOf st x).map fun _=>true
 | .bits=>match x with
  | .int _=>some true
  |_=>none
 | .upper=>match x with
  | .str _=>some true
  |_=>none
noncomputable def appV (st:Store)(o v:PV):R PV :=
 match o with
 | .loc n=>match st[n]? with
  |some (.lst xs)=>if xs.length<1000000 then .ok .non (st.set n (.lst (xs++[v]))) else .bad
  |_=>.bad
 |_=>.bad
noncomputable def extV (st:Store)(o v:PV):R PV :=
 match o with
 | .loc n=>match st[n]? with
  |some (.lst xs)=>match v with
   | .lst ys=>if xs.length+ys.length<=1000000 then .ok .non (st.set n (.lst (xs++ys))) else .bad
   |_=>.bad
  |_=>.bad
 |_=>.bad
noncomputable def insV (st:Store)(o i v:PV):R PV :=
 match o with
 | .loc n=>match st[n]? with
  |some (.lst xs)=>match i with
   | .int k=>if 0<=k/\k<=xs.length/\xs.length<1000000 then .ok .non (st.set n (.lst (xs.take k.toNat++v::xs.drop k.toNat))) else .bad
   |_=>.bad
  |_=>.bad
 |_=>.bad
noncomputable def getV (st:Store)(o k d:PV):R PV :=
 match dctOf st o with
 |some (t,kvs)=>if isKey t k then .ok ((look k kvs).getD d) st else .bad
 |none=>.bad
noncomputable def cntV (st:Store)(o v:PV):R PV :=
 match lstOf st o with
 |some xs=>if flat v && xs.all flat then .ok (.int (xs.countP fun y=>peq y v)) st else .bad
 |none=>.bad
noncomputable def findP (v:PV):List PV->Option Nat
 | []=>none
 |y::ys=>if peq y v then some 0 else (findP v ys).map (·+1)
noncomputable def fndV (st:Store)(o v:PV):R PV :=
 match lstOf st o with
 |some xs=>if flat v && xs.all flat then (match findP v xs with
  |some j=>.ok (.int j) st
  |none=>.bad) else .bad
 |none=>.bad
noncomputable def upC (c:Nat):Nat:=if 97<=c/\c<=122 then c - 32 else c
noncomputable def upS (s:Str):Str:=⟨(s.cps.toList.map upC).toArray⟩
noncomputable def mthV (m:Mth)(st:Store)(o:PV)(vs:List PV):R PV :=
 match m,vs with
 | .append,[v]=>appV st o v
 | .extend,[v]=>extV st o v
 | .insert,[i,v]=>insV st o i v
 | .get,[k,d]=>getV st o k d
 | .count,[v]=>cntV st o v
 | .index,[v]=>fndV st o v
 | .bits,[]=>match o with
  | .int i=>.ok (.int (Builtin.Int.intBits i)) st
  |_=>.bad
 | .upper,[]=>match o with
  | .str s=>if s.cps.toList.all (· < 128)/\s.length<=1000000 then .ok (.str (upS s)) st else .bad
  |_=>.bad
 |_,_=>.bad
noncomputable def toR (o:Option PV)(st:Store):R PV :=
 match o with
 |some v=>.ok v st
 |none=>.bad
noncomputable def bindT (t:Tg)(v:PV)(ρ:Env):Option Env :=
 match t,v with
 | .n i,v=>some (ρ.set i (some v))
 | .t l,.tp _ xs=>if l.length=xs.length then some ((l.zip xs).foldl (fun ρ p=>ρ.set p.1 (some p.2)) ρ) else none
 |_,_=>none
noncomputable def pairsUp:Nat->List PV->List PV
 |_,[]=>[]
 |k,x::xs=>.tup [.int k,x]::pairsUp (k+1) xs
noncomputable def zipUp:List PV->List PV->List PV
 |x::xs,y::ys=>.tup [x,y]::zipUp xs ys
 |_,_=>[]
noncomputable def zipV (x y:PV):Option (List PV) :=
 match x,y with
 | .tp _ xs,.tp _ ys=>if xs.length<=ys.length then some (zipUp xs ys) else none
 |_,_=>none
noncomputable def dlook (s:Str):List (Str×PV)->Option PV
 | []=>none
 | (a,b)::r=>if decide (a=s) then some b else dlook s r
noncomputable def dixV (D:List (Str×PV))(x:PV):Option PV :=
 match x with
 | .str s=>dlook s D
 |_=>none
noncomputable def dinV (D:List (Str×PV))(x:PV):Option PV :=
 match x with
 | .str s=>some (.bl (dlook s D).isSome)
 |_=>none
noncomputable def rangeL:Nat->Int->Int->List PV
 |0,_,_=>[]
 |n+1,a,d=>.int a::rangeL n (a+d) d
noncomputable def rng1 (x:PV):Option (List PV) :=
 match x with
 | .int j=>if j.natAbs<1000000000 then some (rangeL j.toNat 0 1) else none
 |_=>none
noncomputable def rng2 (x y:PV):Option (List PV) :=
 match x,y with
 | .int i,.int j=>if i.natAbs<1000000000/\j.natAbs<1000000000 then some (rangeL (j - i).toNat i 1) else none
 |_,_=>none
noncomputable def rngD (x y:PV):Option (List PV) :=
 match x,y with
 | .int i,.int j=>if i.natAbs<1000000000/\j.natAbs<1000000000 then some (rangeL (i - j).toNat i (-1)) else none
 |_,_=>none
noncomputable def toL (o:Option (List PV))(st:Store):R (List PV) :=
 match o with
 |some v=>.ok v st
 |none=>.bad
noncomputable def frzV (v:PV)(st:Store):R PV :=
 match v with
 | .loc n=>match st[n]? with
  |some (.lst xs)=>.ok (.lst xs) (st.set n .dead)
  |_=>.bad
 |v=>.ok v st
noncomputable def thwV (v:PV)(st:Store):R PV :=
 match v with
 | .lst xs=>.ok (.loc st.length) (st++[.lst xs])
 |_=>.bad
noncomputable def ninV (st:Store)(x y:PV):Option PV :=
 match y with
 | .loc n=>match st[n]? with
  |some (.lst xs)=>if shp x && shds 60 xs then some (.bl (!inL x xs)) else none
  |_=>none
 |_=>none
noncomputable def dgtV (st:Store)(x k:PV):Option PV :=
 match dctOf st x with
 |some (t,kvs)=>if isKey t k then look k kvs else none
 |none=>none
noncomputable def innV (st:Store)(x y:PV):Option PV :=
 match seqOf st y with
 |some xs=>if shp x && shds 60 xs then some (.bl (inL x xs)) else none
 |none=>none
noncomputable def mkV (D:List (Str×Nat))(b:Bool)(x:PV):Option Nat :=
 match x with
 | .str s=>if b then D.lookup s else none
 |_=>none
noncomputable def fldV (c:Nat)(st:Store)(x:PV)(f:Str):Option PV :=
 match x with
 | .loc n=>match st[n]? with
  |some (.ins d fs)=>if d=c then fs.lookup f else none
  |_=>none
 |_=>none
noncomputable def putA (f:Str)(v:PV):List (Str×PV)->List (Str×PV)
 | []=>[(f,v)]
 | (g,x)::r=>if g=f then (g,v)::r else (g,x)::putA f v r
noncomputable def sflV (c:Nat)(st:Store)(x:PV)(f:Str)(v:PV):Option Store :=
 match x with
 | .loc n=>match st[n]? with
  |some (.ins d fs)=>if d=c/\fs.length<1000 then some (st.set n (.ins c (putA f v fs))) else none
  |_=>none
 |_=>none
noncomputable def insB (c:Nat)(m:Str)(st:Store)(x:PV):Option Bool :=
 match x with
 | .loc n=>match st[n]? with
  |some (.ins d fs)=>if d=c/\fs.lookup m=none then some true else none
  |_=>none
 |_=>none
noncomputable def newV (n:Nat)(v:PV)(st:Store):R PV :=
 match v with
 | .non=>.ok (.loc n) st
 |_=>.bad
noncomputable def noExc (r:R PV):R PV :=
 match r with
 | .ok v st=>.ok v st
 |_=>.bad
inductive Fl where
 | nx (ρ:Env) (st:Store)|rt (v:PV) (st:Store)|bk (ρ:Env) (st:Store)|ct (ρ:Env) (st:Store)|exc (c:Nat) (ρ:Env) (st:Store)|bad
noncomputable def onBl {α:Type}(x:PV)(k:Bool->R α):R α :=
 match x with
 | .bl b=>k b
 |_=>.bad
noncomputable def onO {α:Type}(o:Option Bool)(k:Bool->R α):R α :=
 match o with
 |some b=>k b
 |none=>.bad
noncomputable def onF (o:Option Bool)(k:Bool->Fl):Fl :=
 match o with
 |some b=>k b
 |none=>.bad
noncomputable def onP {α:Type}(o:Option (Option Int))(k:Option Int->R α):R α :=
 match o with
 |some b=>k b
 |none=>.bad
noncomputable def blO (o:Option PV):Option Bool :=
 match o with
 |some (.bl b)=>some b
 |_=>none
noncomputable def consO (o:Option PV)(ys:List PV):List PV :=
 match o with
 |some y=>y::ys
 |none=>ys
noncomputable def compL (one:PV->Store->R (Option PV)):List PV->Store->R (List PV)
 | [],st=>.ok [] st
 |x::xs,st=>(one x st).bind fun o st1=>(compL one xs st1).bind fun ys st2=>.ok (consO o ys) st2
noncomputable def lstR (r:R (List PV)):R PV :=
 match r with
 | .ok ys st=>if ys.length<=1000000 then .ok (.lst ys) st else .bad
 |_=>.bad
mutual
noncomputable def ev (call:Nat->List PV->Store->R PV)(ρ:Env)(st:Store):Ce->R PV
 | .cst v=>.ok v st
 | .var i=>match ρ[i]? with
  |some (some v)=>.ok v st
  |_=>.bad
 | .bin o a b=>(ev call ρ st a).bind fun x st1=>(ev call ρ st1 b).bind fun y st2=>toR (binV o x y) st2
 | .neg a=>(ev call ρ st a).bind fun x st1=>match x with
  | .int i=>.ok (.int (-i)) st1
  |_=>.bad
 | .not a=>(ev call ρ st a).bind fun x st1=>onBl x fun k=>.ok (.bl (!k)) st1
 | .and a b=>(ev call ρ st a).bind fun x st1=>onBl x fun k=>cond k (ev call ρ st1 b) (.ok (.bl false) st1)
 | .or a b=>(ev call ρ st a).bind fun x st1=>onBl x fun k=>cond k (.ok (.bl true) st1) (ev call ρ st1 b)
 | .cmp o a b=>(ev call ρ st a).bind fun x st1=>(ev call ρ st1 b).bind fun y st2=>toR (cmpV o x y) st2
 | .chain o p a b c=>(ev call ρ st a).bind fun x st1=>(ev call ρ st1 b).bind fun y st2=>onO (blO (cmpV o x y)) fun k=>cond k ((ev call ρ st2 c).bind fun z st3=>toR (cmpV p y z) st3) (.ok (.bl false) st2)
 | .ite c a b=>(ev call ρ st c).bind fun x st1=>onO (truV st1 x) fun k=>cond k (ev call ρ st1 a) (ev call ρ st1 b)
 | .tup es=>(evs call ρ st es).bind fun vs st1=>if vs.length<=sizeMax then .ok (.tup vs) st1 else .bad
 | .lst es=>(evs call ρ st es).bind fun vs st1=>if vs.length<=sizeMax then .ok (.lst vs) st1 else .bad
 | .newl es=>(evs call ρ st es).bind fun vs st1=>if vs.length<=sizeMax then .ok (.loc st1.length) (st1++[.lst vs]) else .bad
 | .newd kvs=>if kvs.length<=15 then .ok (.loc st.length) (st++[.dct false (kvs.foldl (fun acc kv=>put (.str kv.1) (.int kv.2) acc) [])]) else .bad
 | .dict0 t=>.ok (.loc st.length) (st++[.dct t []])
 | .idx a i=>(ev call ρ st a).bind fun x st1=>(ev call ρ st1 i).bind fun y st2=>toR (idxV st2 x y) st2
 | .slc a l h=>(ev call ρ st a).bind fun x st1=>(ev call ρ st1 l).bind fun y st2=>onP (optI y) fun o=>(ev call ρ st2 h).bind fun z st3=>toR (slcV x o z) st3
 | .call f es=>(evs call ρ st es).bind fun vs st1=>call f vs st1
 | .blt b es=>(evs call ρ st es).bind fun vs st1=>toR (bltV b st1 vs) st1
 | .mth m o es=>(ev call ρ st o).bind fun x st1=>onO (mthOk m st1 x) fun _=>(evs call ρ st1 es).bind fun vs st2=>mthV m st2 x vs
 | .isi a ts=>(ev call ρ st a).bind fun x st1=>toR (isiV x ts) st1
 | .isx a cs ts=>(ev call ρ st a).bind fun x st1=>toR (isxV cs x ts) st1
 | .comp sl tg it c e=>(evi call ρ st it).bind fun xs st1 =>
  let ρ0:Env:=sl.map fun o=>o.bind fun j=>(ρ[j]?).join
  lstR (compL (fun x st2=>match bindT tg x ρ0 with
   |none=>.bad
   |some ρ1=>(ev call ρ1 st2 c).bind fun b st3=>onO (truV st3 b) fun k=>cond k ((ev call ρ1 st3 e).bind fun y st4=>.ok (some y) st4) (.ok none st3)) xs st1)
 | .nope=>.bad
 | .frz a=>(ev call ρ st a).bind fun x st1=>frzV x st1
 | .fst es=>fstR (evs call ρ st es)
 | .rep a b=>(ev call ρ st a).bind fun x st1=>(ev call ρ st1 b).bind fun y st2=>toR (repV x y) st2
 | .dix D a=>(ev call ρ st a).bind fun x st1=>toR (dixV D x) st1
 | .din a D=>(ev call ρ st a).bind fun x st1=>toR (dinV D x) st1
 | .thw a=>(ev call ρ st a).bind fun x st1=>thwV x st1
 | .nin a b=>(ev call ρ st a).bind fun x st1=>(ev call ρ st1 b).bind fun y st2=>toR (ninV st2 x y) st2
 | .fld c a f=>(ev call ρ st a).bind fun x st1=>toR (fldV c st1 x f) st1
 | .new c i es=>(evs call ρ st es).bind fun vs st1=>(noExc (call i (.loc st1.length::vs) (st1++[.ins c []]))).bind fun v st2=>newV st1.length v st2
 | .dgt a i=>(ev call ρ st a).bind fun x st1=>(ev call ρ st1 i).bind fun y st2=>toR (dgtV st2 x y) st2
 | .qcl i es=>(evs call ρ st es).bind fun vs st1=>noExc (call i vs st1)
 | .inn a b=>(ev call ρ st a).bind fun x st1=>(ev call ρ st1 b).bind fun y st2=>toR (innV st2 x y) st2
 | .mcl c i m o es=>(ev call ρ st o).bind fun x st1=>onO (insB c m st1 x) fun _=>(evs call ρ st1 es).bind fun vs st2=>call i (x::vs) st2
noncomputable def evs (call:Nat->List PV->Store->R PV)(ρ:Env)(st:Store):Ces->R (List PV)
 | .nil=>.ok [] st
 | .cons e es=>(ev call ρ st e).bind fun v st1=>(evs call ρ st1 es).bind fun vs st2=>.ok (v::vs) st2
noncomputable def evi (call:Nat->List PV->Store->R PV)(ρ:Env)(st:Store):Cit->R (List PV)
 | .seq e=>(ev call ρ st e).bind fun v st1=>match v with
  | .tp _ xs=>.ok xs st1
  | .lst xs=>.ok xs st1
  |_=>.bad
 | .range1 a=>(ev call ρ st a).bind fun x st1=>toL (rng1 x) st1
 | .range2 a b=>(ev call ρ st a).bind fun x st1=>(ev call ρ st1 b).bind fun y st2=>toL (rng2 x y) st2
 | .rangeD a b=>(ev call ρ st a).bind fun x st1=>(ev call ρ st1 b).bind fun y st2=>toL (rngD x y) st2
 | .enum e=>(ev call ρ st e).bind fun v st1=>match v with
  | .tp _ xs=>.ok (pairsUp 0 xs) st1
  |_=>.bad
 | .zip a b=>(ev call ρ st a).bind fun x st1=>(ev call ρ st1 b).bind fun y st2=>toL (zipV x y) st2
end
noncomputable def R.fl {α:Type}(r:R α)(ρ:Env)(k:α->Store->Fl):Fl :=
 match r with
 | .ok a st=>k a st
 | .exc c st=>.exc c ρ st
 | .bad=>.bad
noncomputable def againF (f:Fl)(k:Env->Store->Fl):Fl :=
 match f with
 | .nx ρ st=>k ρ st
 | .ct ρ st=>k ρ st
 | .bk ρ st=>.nx ρ st
 |f=>f
noncomputable def forL (t:Tg)(body:Env->Store->Fl):List PV->Env->Store->Fl
 | [],ρ,st=>.nx ρ st
 |x::xs,ρ,st=>match bindT t x ρ with
  |none=>.bad
  |some ρ1=>againF (body ρ1 st) fun ρ2 st2=>forL t body xs ρ2 st2
noncomputable def whileL (test:Env->Store->R PV)(body:Env->Store->Fl):Nat->Env->Store->Fl
 |0,_,_=>.bad
 |n+1,ρ,st=>(test ρ st).fl ρ fun x st1=>onF (truV st1 x) fun k=>cond k (againF (body ρ st1) fun ρ2 st2=>whileL test body n ρ2 st2) (.nx ρ st1)
noncomputable def sixV (st:Store)(o i v:PV):Option Store :=
 match o with
 | .loc n=>match st[n]? with
  |some (.lst xs)=>match i with
   | .int k=>match ixI xs.length k with
    |some j=>some (st.set n (.lst (xs.set j v)))
    |none=>none
   |_=>none
  |_=>none
 |_=>none
noncomputable def dputV (st:Store)(o i v:PV):Option Store :=
 match o with
 | .loc n=>match st[n]? with
  |some (.dct t kvs)=>if isKey t i/\kvs.length<1000000 then some (st.set n (.dct t (put i v kvs))) else none
  |_=>none
 |_=>none
mutual
noncomputable def ex (call:Nat->List PV->Store->R PV)(ρ:Env)(st:Store):Cs->Fl
 | .expr e=>(ev call ρ st e).fl ρ fun _ st1=>.nx ρ st1
 | .asg t e=>(ev call ρ st e).fl ρ fun v st1=>match bindT t v ρ with
  |some ρ1=>.nx ρ1 st1
  |none=>.bad
 | .six o i e=>(ev call ρ st e).fl ρ fun v st1=>(ev call ρ st1 o).fl ρ fun x st2=>(ev call ρ st2 i).fl ρ fun y st3=>match sixV st3 x y v with
  |some st4=>.nx ρ st4
  |none=>.bad
 | .dput o i e=>(ev call ρ st e).fl ρ fun v st1=>(ev call ρ st1 o).fl ρ fun x st2=>(ev call ρ st2 i).fl ρ fun y st3=>match dputV st3 x y v with
  |some st4=>.nx ρ st4
  |none=>.bad
 | .aug i o e=>match ρ[i]? with
  |some (some x)=>(ev call ρ st e).fl ρ fun y st1=>match augV o x y with
   |some z=>.nx (ρ.set i (some z)) st1
   |none=>.bad
  |_=>.bad
 | .ret e=>(ev call ρ st e).fl ρ fun v st1=>.rt v st1
 | .ite c a b=>(ev call ρ st c).fl ρ fun x st1=>onF (truV st1 x) fun k=>cond k (exs call ρ st1 a) (exs call ρ st1 b)
 | .for t it b=>(evi call ρ st it).fl ρ fun xs st1=>forL t (fun ρ2 st2=>exs call ρ2 st2 b) xs ρ st1
 | .while c b=>whileL (fun ρ2 st2=>ev call ρ2 st2 c) (fun ρ2 st2=>exs call ρ2 st2 b) 100000 ρ st
 | .nope=>.bad
 | .brk=>.bk ρ st
 | .cnt=>.ct ρ st
 | .pass=>.nx ρ st
 | .raise c e=>(ev call ρ st e).fl ρ fun _ st1=>.exc c ρ st1
 | .try b cs i h=>match exs call ρ st b with
  | .exc d ρ1 st1=>if cs.contains d then (match exs call (ρ1.set i (some (.exn d))) st1 h with
   | .nx ρ2 st2=>.nx (ρ2.set i none) st2
   | .rt v st2=>.rt v st2
   |_=>.bad) else .bad
  |f=>f
 | .six2 o i p j e f=>(ev call ρ st e).fl ρ fun v st1=>(ev call ρ st1 f).fl ρ fun w st2=>(ev call ρ st2 o).fl ρ fun x st3=>(ev call ρ st3 i).fl ρ fun y st4=>match sixV st4 x y v with
  |none=>.bad
  |some st5=>(ev call ρ st5 p).fl ρ fun x2 st6=>(ev call ρ st6 j).fl ρ fun y2 st7=>match sixV st7 x2 y2 w with
   |some st8=>.nx ρ st8
   |none=>.bad
 | .mkr i D n es=>(ev call ρ st n).fl ρ fun x st1=>match mkV D (decide (i<ρ.length)) x with
  |some j=>((evs call (ρ.set i none) st1 es).bind fun vs st2=>call j vs st2).fl (ρ.set i none) fun v st3=>.rt v st3
  |none=>.bad
 | .sfl c o f e=>(ev call ρ st e).fl ρ fun v st1=>(ev call ρ st1 o).fl ρ fun x st2=>match sflV c st2 x f v with
  |some st3=>.nx ρ st3
  |none=>.bad
noncomputable def exs (call:Nat->List PV->Store->R PV)(ρ:Env)(st:Store):Css->Fl
 | .nil=>.nx ρ st
 | .cons s ss=>match ex call ρ st s with
  | .nx ρ1 st1=>exs call ρ1 st1 ss
  |f=>f
end
structure Fn where
 np:Nat
 ns:Nat
 pure:Bool
 body:Css
noncomputable def callT (T:Nat->Option Fn):Nat->Nat->List PV->Store->R PV
 |0,_,_,_=>.bad
 |k+1,f,args,st=>match T f with
  |none=>.bad
  |some fn=>if args.length=fn.np then
    if fn.pure then
     if noLocs args then match exs (callT T k) (args.map some++List.replicate (fn.ns - fn.np) none) [] fn.body with
      | .rt v _=>if noLoc v then .ok v st else .bad
      | .nx _ _=>.ok .non st
      | .exc c _ _=>.exc c st
      |_=>.bad
     else .bad
    else match exs (callT T k) (args.map some++List.replicate (fn.ns - fn.np) none) st fn.body with
     | .rt v st1=>.ok v st1
     | .nx _ st1=>.ok .non st1
     | .exc c _ st1=>.exc c st1
     |_=>.bad
   else .bad
def RLe {α:Type}(r q:R α):Prop:=r=.bad \/ r=q
def FLe (f g:Fl):Prop:=f=.bad \/ f=g
noncomputable abbrev Cl:=Nat->List PV->Store->R PV
theorem RLe.rfl {α:Type}{r:R α}:RLe r r:=.inr (Eq.refl _)
theorem FLe.rfl {f:Fl}:FLe f f:=.inr (Eq.refl _)
theorem RLe.bind {α β:Type}{r q:R α}{k l:α->Store->R β}(h:RLe r q)(hk:∀a s,RLe (k a s) (l a s)):RLe (r.bind k) (q.bind l):=by
 rcases h with h|h
 ·subst h;exact .inl (Eq.refl _)
 ·subst h
  cases r with
  |ok a s=>exact hk a s
  |exc c s=>exact .rfl
  |bad=>exact .rfl
theorem RLe.comp {r q:R (List PV)}(h:RLe r q):RLe (lstR r) (lstR q):=by
 rcases h with h|h
 ·subst h;exact .inl (Eq.refl _)
 ·subst h;exact .rfl
end IC
namespace L2
open PySem PySem.Spec PyProof.Rows IC
noncomputable abbrev Ph:=List (Option Addr)
section
variable (K:PySem.W.Frag)(cl:Nat->Addr)(B:Addr->Prop)(φ:Ph)(H:Hp)
def RTup (k:Bool)(a:Addr)(xs:List V):Prop:=(H a=some (.tup xs)/\¬B a/\some a∉φ) \/
 k=true/\∃(o:Obj) (its:Array Value) (n:Nat),K.lookup a=some o/\o.cls=.type "tuple"/\o.data=.seq its n/\its.size<=sizeLine/\Vals xs its.toList
def RLst (a:Addr)(xs:List V):Prop:=H a=some (.lst xs)/\¬B a/\some a∉φ
def RScr (a:Addr)(xs:List V):Prop:=(Rd H a (.lst xs)/\¬B a/\some a∉φ) \/
 ∃(o:Obj) (its:Array Value) (n:Nat),K.lookup a=some o/\o.cls=.type "list"/\o.dict=none/\o.data=.seq its n/\its.size<=sizeLine/\Vals xs its.toList
mutual
noncomputable def RepV:PV->V->Prop
 | .non,x=>x=.non
 | .bl b,x=>x=.bl b
 | .int i,x=>x=.int i
 | .str s,x=>x=.str s
 | .tp k vs,x=>∃a xs,x=.ref a/\RTup K B φ H k a xs/\RepL vs xs
 | .lst vs,x=>∃a xs,x=.ref a/\RLst B φ H a xs/\RepL vs xs
 | .loc n,x=>n<φ.length/\∃a,x=.ref a/\∀b,φ[n]?=some (some b)->b=a
 | .exn c,x=>∃a,x=.ref a/\H a=some (.ext (ExcO a (cl c)))/\¬B a/\some a∉φ
 | .scr vs,x=>∃a xs,x=.ref a/\RScr K B φ H a xs/\RepL vs xs
noncomputable def RepL:List PV->List V->Prop
 | [],xs=>xs=[]
 |v::vs,xs=>∃y ys,xs=y::ys/\RepV v y/\RepL vs ys
end
noncomputable def keyP:Key->PV
 | .inl i=>.int i
 | .inr y=>.str y
noncomputable def DK:List (PV×PV)->List (Key×V)->Prop
 | [],ks=>ks=[]
 | (k,v)::r,ks=>∃q x s,ks=(q,x)::s/\k=keyP q/\RepV K cl B φ H v x/\DK r s
noncomputable def DT:List (PV×PV)->List (List Key×V)->Prop
 | [],ks=>ks=[]
 | (k,v)::r,ks=>∃q x s,ks=(q,x)::s/\k=.tup (q.map keyP)/\RepV K cl B φ H v x/\DT r s
noncomputable def FS:List (Str×PV)->List (Str×V)->Prop
 | [],ks=>ks=[]
 | (k,v)::r,ks=>∃x s,ks=(k,x)::s/\RepV K cl B φ H v x/\FS r s
noncomputable def RepO:Ob->Addr->Prop
 | .lst vs,a=>∃xs,H a=some (.lst xs)/\RepL K cl B φ H vs xs
 | .dct false kvs,a=>∃ks,H a=some (.dK ks)/\DK K cl B φ H kvs ks
 | .dct true kvs,a=>∃ks,H a=some (.dT ks)/\DT K cl B φ H kvs ks
 | .dead,_=>False
 | .ins c fs,a=>∃ks,(∃dx,H a=some (.ins (cl c) dx ks))/\FS K cl B φ H fs ks
structure RepS (st:Store):Prop where
 len:φ.length=st.length
 inj:∀(m n:Nat) (a:Addr),φ[m]?=some (some a)->φ[n]?=some (some a)->m=n
 obj:∀(n:Nat) (a:Addr),φ[n]?=some (some a)->∃o,st[n]?=some o/\RepO K cl B φ H o a
 liv:∀(n:Nat) (o:Ob),st[n]?=some o->o ≠ .dead->∃a,φ[n]?=some (some a)
 nb:∀a,some a∈φ->¬B a
 dom:∀a,B a->∃o,H a=some o
structure RepE (ρ:IC.Env)(σ:St):Prop where
 len:ρ.length=σ.length
 get:∀(i:Nat) (v:PV),ρ[i]?=some (some v)->∃x,σ[i]?=some (some x)/\RepV K cl B φ H v x
end
structure Step (φ:Ph)(H:Hp)(φ':Ph)(H':Hp):Prop where
 keep:∀b o,some b∉φ->H b=some o->H' b=some o
 len:φ.length<=φ'.length
 pre:∀(n:Nat) (a:Addr),n<φ.length->φ'[n]?=some (some a)->φ[n]?=some (some a)
 new:∀b,some b∈φ'->some b∈φ \/ H b=none
theorem Step.rfl {φ:Ph}{H:Hp}:Step φ H φ H:=⟨fun _ _ _ e=>e,Nat.le_refl _,fun _ _ _ e=>e,fun _ h=>.inl h⟩
theorem Step.trans {φ φ1 φ2:Ph}{H H1 H2:Hp}(s:Step φ H φ1 H1)(t:Step φ1 H1 φ2 H2):Step φ H φ2 H2:=by
 refine ⟨fun b o n e=>?_,Nat.le_trans s.len t.len,fun n a hn e=>s.pre n a hn (t.pre n a (Nat.lt_of_lt_of_le hn s.len) e),fun b hb=>?_⟩
 ·refine t.keep b o (fun h=>?_) (s.keep b o n e)
  rcases s.new b h with q|q
  ·exact n q
  ·rw [e] at q;cases q
 ·rcases t.new b hb with q|q
  ·exact s.new b q
  ·by_cases h:some b∈φ
   ·exact .inl h
   ·refine .inr ?_
    cases e:H b with
    |none=>exact Eq.refl _
    |some o=>rw [s.keep b o h e] at q;cases q
section
variable {K:PySem.W.Frag}{cl:Nat->Addr}{B:Addr->Prop}{φ φ':Ph}{H H':Hp}{st:Store}{ρ:IC.Env}{σ:St}
theorem Rd.step (s:Step φ H φ' H'){a:Addr}{u:HO}(n:some a∉φ)(r:Rd H a u):Rd H' a u/\some a∉φ':=by
 have h:∃o,H a=some o:=by
  rcases r with r|⟨o,r⟩ <;> exact ⟨_,r⟩
 refine ⟨?_,fun z=>?_⟩
 ·rcases r with r|⟨o,r⟩
  ·exact .inl (s.keep _ _ n r)
  ·exact .inr ⟨o,s.keep _ _ n r⟩
 ·obtain ⟨o,e⟩:=h
  rcases s.new a z with q|q
  ·exact n q
  ·rw [e] at q;cases q
theorem RTup.step (s:Step φ H φ' H'){k:Bool}{a:Addr}{xs:List V}(r:RTup K B φ H k a xs):RTup K B φ' H' k a xs:=by
 rcases r with ⟨r,b,n⟩|r
 ·obtain ⟨_,n'⟩:=(Rd.of r).step s n
  exact .inl ⟨s.keep _ _ n r,b,n'⟩
 ·exact .inr r
theorem RLst.step (s:Step φ H φ' H'){a:Addr}{xs:List V}(r:RLst B φ H a xs):RLst B φ' H' a xs:=by
 obtain ⟨r,b,n⟩:=r
 obtain ⟨_,n'⟩:=(Rd.of r).step s n
 exact ⟨s.keep _ _ n r,b,n'⟩
theorem RScr.step (s:Step φ H φ' H'){a:Addr}{xs:List V}(r:RScr K B φ H a xs):RScr K B φ' H' a xs:=by
 rcases r with ⟨r,b,n⟩|r
 ·obtain ⟨r',n'⟩:=r.step s n
  exact .inl ⟨r',b,n'⟩
 ·exact .inr r
mutual
theorem RepV.step (s:Step φ H φ' H'):∀(v:PV) (x:V),RepV K cl B φ H v x->RepV K cl B φ' H' v x
 | .non,x,h=>by simp only [RepV] at h ⊢;exact h
 | .bl b,x,h=>by simp only [RepV] at h ⊢;exact h
 | .int i,x,h=>by simp only [RepV] at h ⊢;exact h
 | .str y,x,h=>by simp only [RepV] at h ⊢;exact h
 | .tp k vs,x,h=>by
  simp only [RepV] at h ⊢
  obtain ⟨a,xs,e,r,l⟩:=h
  exact ⟨a,xs,e,r.step s,RepL.step s vs xs l⟩
 | .lst vs,x,h=>by
  simp only [RepV] at h ⊢
  obtain ⟨a,xs,e,r,l⟩:=h
  exact ⟨a,xs,e,r.step s,RepL.step s vs xs l⟩
 | .loc n,x,h=>by
  simp only [RepV] at h ⊢
  obtain ⟨h1,a,e,h2⟩:=h
  exact ⟨Nat.lt_of_lt_of_le h1 s.len,a,e,fun b q=>h2 b (s.pre n b h1 q)⟩
 | .exn c,x,h=>by
  simp only [RepV] at h ⊢
  obtain ⟨a,e,r,b,n⟩:=h
  obtain ⟨_,n'⟩:=(Rd.of r).step s n
  exact ⟨a,e,s.keep _ _ n r,b,n'⟩
 | .scr vs,x,h=>by
  simp only [RepV] at h ⊢
  obtain ⟨a,xs,e,r,l⟩:=h
  exact ⟨a,xs,e,r.step s,RepL.step s vs xs l⟩
theorem RepL.step (s:Step φ H φ' H'):∀(v:List PV) (x:List V),RepL K cl B φ H v x->RepL K cl B φ' H' v x
 | [],x,h=>by simp only [RepL] at h ⊢;exact h
 |v::vs,x,h=>by
  simp only [RepL] at h ⊢
  obtain ⟨y,ys,e,r,l⟩:=h
  exact ⟨y,ys,e,RepV.step s v y r,RepL.step s vs ys l⟩
end
theorem RepE.step (s:Step φ H φ' H')(r:RepE K cl B φ H ρ σ):RepE K cl B φ' H' ρ σ:=⟨r.len,fun i v e=>by
 obtain ⟨x,h,q⟩:=r.get i v e
 exact ⟨x,h,q.step s⟩⟩
mutual
theorem RepV.inn (hn:∀a,some a∈φ->¬B a):∀(v:PV) (x:V),noLoc v=true->RepV K cl B φ H v x->RepV K cl (fun a=>B a \/ some a∈φ) [] H v x
 | .non,x,_,h=>by simp only [RepV] at h ⊢;exact h
 | .bl b,x,_,h=>by simp only [RepV] at h ⊢;exact h
 | .int i,x,_,h=>by simp only [RepV] at h ⊢;exact h
 | .str y,x,_,h=>by simp only [RepV] at h ⊢;exact h
 | .tp k vs,x,q,h=>by
  simp only [RepV] at h ⊢
  obtain ⟨a,xs,e,r,l⟩:=h
  refine ⟨a,xs,e,?_,RepL.inn hn vs xs (by simpa only [noLoc] using q) l⟩
  rcases r with ⟨r,b,n⟩|r
  ·exact .inl ⟨r,fun z=>z.elim b n,by simp⟩
  ·exact .inr r
 | .lst vs,x,q,h=>by
  simp only [RepV] at h ⊢
  obtain ⟨a,xs,e,⟨r,b,n⟩,l⟩:=h
  exact ⟨a,xs,e,⟨r,fun z=>z.elim b n,by simp⟩,RepL.inn hn vs xs (by simpa only [noLoc] using q) l⟩
 | .loc n,x,q,h=>by simp [noLoc] at q
 | .exn c,x,q,h=>by simp [noLoc] at q
 | .scr vs,x,q,h=>by
  simp only [RepV] at h ⊢
  obtain ⟨a,xs,e,r,l⟩:=h
  refine ⟨a,xs,e,?_,RepL.inn hn vs xs (by simpa only [noLoc] using q) l⟩
  rcases r with ⟨r,b,n⟩|r
  ·exact .inl ⟨r,fun z=>z.elim b n,by simp⟩
  ·exact .inr r
theorem RepL.inn (hn:∀a,some a∈φ->¬B a):∀(v:List PV) (x:List V),noLocs v=true->RepL K cl B φ H v x->RepL K cl (fun a=>B a \/ some a∈φ) [] H v x
 | [],x,_,h=>by simp only [RepL] at h ⊢;exact h
 |v::vs,x,q,h=>by
  simp only [RepL] at h ⊢
  simp only [noLocs,Bool.and_eq_true] at q
  obtain ⟨y,ys,e,r,l⟩:=h
  exact ⟨y,ys,e,RepV.inn hn v y q.1 r,RepL.inn hn vs ys q.2 l⟩
end
mutual
theorem RepV.out {ψ:Ph}:∀(v:PV) (x:V),noLoc v=true->RepV K cl (fun a=>B a \/ some a∈φ) ψ H v x->RepV K cl B φ H v x
 | .non,x,_,h=>by simp only [RepV] at h ⊢;exact h
 | .bl b,x,_,h=>by simp only [RepV] at h ⊢;exact h
 | .int i,x,_,h=>by simp only [RepV] at h ⊢;exact h
 | .str y,x,_,h=>by simp only [RepV] at h ⊢;exact h
 | .tp k vs,x,q,h=>by
  simp only [RepV] at h ⊢
  obtain ⟨a,xs,e,r,l⟩:=h
  refine ⟨a,xs,e,?_,RepL.out vs xs (by simpa only [noLoc] using q) l⟩
  rcases r with ⟨r,b,n⟩|r
  ·exact .inl ⟨r,fun z=>b (.inl z),fun z=>b (.inr z)⟩
  ·exact .inr r
 | .lst vs,x,q,h=>by
  simp only [RepV] at h ⊢
  obtain ⟨a,xs,e,⟨r,b,n⟩,l⟩:=h
  exact ⟨a,xs,e,⟨r,fun z=>b (.inl z),fun z=>b (.inr z)⟩,RepL.out vs xs (by simpa only [noLoc] using q) l⟩
 | .loc n,x,q,h=>by simp [noLoc] at q
 | .exn c,x,q,h=>by simp [noLoc] at q
 | .scr vs,x,q,h=>by
  simp only [RepV] at h ⊢
  obtain ⟨a,xs,e,r,l⟩:=h
  refine ⟨a,xs,e,?_,RepL.out vs xs (by simpa only [noLoc] using q) l⟩
  rcases r with ⟨r,b,n⟩|r
  ·exact .inl ⟨r,fun z=>b (.inl z),fun z=>b (.inr z)⟩
  ·exact .inr r
theorem RepL.out {ψ:Ph}:∀(v:List PV) (x:List V),noLocs v=true->RepL K cl (fun a=>B a \/ some a∈φ) ψ H v x->RepL K cl B φ H v x
 | [],x,_,h=>by simp only [RepL] at h ⊢;exact h
 |v::vs,x,q,h=>by
  simp only [RepL] at h ⊢
  simp only [noLocs,Bool.and_eq_true] at q
  obtain ⟨y,ys,e,r,l⟩:=h
  exact ⟨y,ys,e,RepV.out v y q.1 r,RepL.out vs ys q.2 l⟩
end
theorem RepL.length:∀{v:List PV} {x:List V},RepL K cl B φ H v x->v.length=x.length
 | [],x,h=>by simp only [RepL] at h;subst h;rfl
 |v::vs,x,h=>by
  simp only [RepL] at h
  obtain ⟨y,ys,rfl,_,l⟩:=h
  simp [RepL.length l]
theorem DK.step (s:Step φ H φ' H'):∀{kvs:List (PV×PV)} {ks:List (Key×V)},DK K cl B φ H kvs ks->DK K cl B φ' H' kvs ks
 | [],ks,h=>h
 | (k,v)::r,ks,h=>by
  obtain ⟨q,x,t,e,m,rv,l⟩:=h
  exact ⟨q,x,t,e,m,rv.step s,DK.step s l⟩
theorem DT.step (s:Step φ H φ' H'):∀{kvs:List (PV×PV)} {ks:List (List Key×V)},DT K cl B φ H kvs ks->DT K cl B φ' H' kvs ks
 | [],ks,h=>h
 | (k,v)::r,ks,h=>by
  obtain ⟨q,x,t,e,m,rv,l⟩:=h
  exact ⟨q,x,t,e,m,rv.step s,DT.step s l⟩
theorem FS.step (s:Step φ H φ' H'):∀{kvs:List (Str×PV)} {ks:List (Str×V)},FS K cl B φ H kvs ks->FS K cl B φ' H' kvs ks
 | [],ks,h=>h
 | (k,v)::r,ks,h=>by
  obtain ⟨x,t,e,rv,l⟩:=h
  exact ⟨x,t,e,rv.step s,FS.step s l⟩
theorem RepO.step (s:Step φ H φ' H'){o:Ob}{a:Addr}(e:H' a=H a)(r:RepO K cl B φ H o a):RepO K cl B φ' H' o a:=by
 cases o with
 |lst vs =>
  obtain ⟨xs,q,l⟩:=r
  exact ⟨xs,e.trans q,l.step s⟩
 |dct t kvs =>
  cases t with
  |false=>obtain ⟨ks,q,l⟩:=r;exact ⟨ks,e.trans q,l.step s⟩
  |true=>obtain ⟨ks,q,l⟩:=r;exact ⟨ks,e.trans q,l.step s⟩
 |dead=>exact r
 |ins c fs=>obtain ⟨ks,⟨dx,q⟩,l⟩:=r;exact ⟨ks,⟨dx,e.trans q⟩,l.step s⟩
theorem RepO.there {o:Ob}{a:Addr}(r:RepO K cl B φ H o a):∃u,H a=some u:=by
 cases o with
 |lst vs=>obtain ⟨xs,q,l⟩:=r;exact ⟨_,q⟩
 |dct t kvs=>cases t <;> (obtain ⟨ks,q,l⟩:=r;exact ⟨_,q⟩)
 |dead=>exact r.elim
 |ins c fs=>obtain ⟨ks,⟨dx,q⟩,l⟩:=r;exact ⟨_,q⟩
theorem RepS.there (S:RepS K cl B φ H st){a:Addr}(h:some a∈φ):∃u,H a=some u:=by
 obtain ⟨n,e⟩:=List.mem_iff_getElem?.mp h
 obtain ⟨o,_,r⟩:=S.obj n a e
 exact r.there
theorem Step.upd {p:Addr}{o:HO}(hp:H p=none):Step φ H φ (upd H p o) :=
 ⟨fun b u n e=>by rw [z4 (zad e hp)];exact e,Nat.le_refl _,fun _ _ _ e=>e,fun _ h=>.inl h⟩
theorem RepS.same (S:RepS K cl B φ H st)(k:∀b o,H b=some o->H' b=some o):RepS K cl B φ H' st:=by
 have s:Step φ H φ H':=⟨fun b o _ e=>k b o e,Nat.le_refl _,fun _ _ _ e=>e,fun _ h=>.inl h⟩
 refine ⟨S.len,S.inj,fun n a e=>?_,S.liv,S.nb,fun a h=>?_⟩
 ·obtain ⟨o,q,r⟩:=S.obj n a e
  obtain ⟨u,z⟩:=r.there
  exact ⟨o,q,r.step s ((k a u z).trans z.symm)⟩
 ·obtain ⟨o,q⟩:=S.dom a h
  exact ⟨o,k a o q⟩
theorem RepS.upd {p:Addr}{o:HO}(S:RepS K cl B φ H st)(hp:H p=none):RepS K cl B φ (upd H p o) st:=S.same fun b u e=>by rw [z4 (zad e hp)];exact e
mutual
theorem RepV.moreB {B':Addr->Prop}(hn:∀y,B' y->B y \/ H y=none):∀(v:PV) (x:V),RepV K cl B φ H v x->RepV K cl B' φ H v x
 | .non,x,h=>by simp only [RepV] at h ⊢;exact h
 | .bl b,x,h=>by simp only [RepV] at h ⊢;exact h
 | .int i,x,h=>by simp only [RepV] at h ⊢;exact h
 | .str y,x,h=>by simp only [RepV] at h ⊢;exact h
 | .tp k vs,x,h=>by
  simp only [RepV] at h ⊢
  obtain ⟨y,xs,e,r,l⟩:=h
  refine ⟨y,xs,e,?_,RepL.moreB hn vs xs l⟩
  rcases r with ⟨r,b,n⟩|r
  ·exact .inl ⟨r,fun z=>(hn y z).elim b fun q=>(by rw [q] at r;cases r),n⟩
  ·exact .inr r
 | .lst vs,x,h=>by
  simp only [RepV] at h ⊢
  obtain ⟨y,xs,e,⟨r,b,n⟩,l⟩:=h
  exact ⟨y,xs,e,⟨r,fun z=>(hn y z).elim b fun q=>(by rw [q] at r;cases r),n⟩,RepL.moreB hn vs xs l⟩
 | .loc n,x,h=>by simp only [RepV] at h ⊢;exact h
 | .exn c,x,h=>by
  simp only [RepV] at h ⊢
  obtain ⟨y,e,r,b,n⟩:=h
  exact ⟨y,e,r,fun z=>(hn y z).elim b fun q=>(by rw [q] at r;cases r),n⟩
 | .scr vs,x,h=>by
  simp only [RepV] at h ⊢
  obtain ⟨y,xs,e,r,l⟩:=h
  refine ⟨y,xs,e,?_,RepL.moreB hn vs xs l⟩
  rcases r with ⟨r,b,n⟩|r
  ·refine .inl ⟨r,fun z=>(hn y z).elim b fun q=>?_,n⟩
   rcases r with r|⟨o,r⟩ <;> (rw [q] at r;cases r)
  ·exact .inr r
theorem RepL.moreB {B':Addr->Prop}(hn:∀y,B' y->B y \/ H y=none):∀(v:List PV) (x:List V),RepL K cl B φ H v x->RepL K cl B' φ H v x
 | [],x,h=>by simp only [RepL] at h ⊢;exact h
 |v::vs,x,h=>by
  simp only [RepL] at h ⊢
  obtain ⟨y,ys,e,r,l⟩:=h
  exact ⟨y,ys,e,RepV.moreB hn v y r,RepL.moreB hn vs ys l⟩
end
end
structure Se where
 cl:Nat->Addr
 call:Nat->List PV->Store->R PV
 may:Bool
section
variable (S:Se)(X:Cx)
def ExcAt (σ:St)(B:Addr->Prop)(φ:Ph)(H:Hp)(k:Nat)(st':Store)(e:Value)(s':Shared):Prop :=
 (∃pins H1 s φ1,Inv X pins σ H1 s/\Step φ H φ1 H1/\CX1 X.prog X.w X.stack H1 s (fun cls _ H'=>cls=.ref (S.cl k)/\∃φ',Step φ1 H1 φ' H'/\RepS X.K S.cl B φ' H' st') e s') \/
 (S.may=true/\∃pins H1 s φ1 h' e0 vs,Inv X pins σ H1 s/\Step φ H φ1 H1/\RepS X.K S.cl B φ1 H1 st'/\Heap.MadeExcOf s.heap h' e0 (.ref (S.cl k)) vs/\e=.ref e0/\s'={ s with heap:=h' })
def Run {α β:Type}(σ:St)(B:Addr->Prop)(φ:Ph)(H:Hp)(Rel:Ph->Hp->α->β->Prop)(r:R α)(Q:β->Hp->Prop):Prop :=
 match r with
 | .ok v st'=>∀x H' φ',Step φ H φ' H'->RepS X.K S.cl B φ' H' st'->Rel φ' H' v x->Q x H'
 | .exc k st'=>∀e s',ExcAt S X σ B φ H k st' e s'->X.xe e s'
 | .bad=>False
noncomputable abbrev RV (B:Addr->Prop):Ph->Hp->PV->V->Prop:=fun φ H=>RepV X.K S.cl B φ H
noncomputable abbrev RL (B:Addr->Prop):Ph->Hp->List PV->List V->Prop:=fun φ H=>RepL X.K S.cl B φ H
noncomputable abbrev RB:Ph->Hp->Bool->Bool->Prop:=fun _ _ b c=>b=c
noncomputable def tE (c:Ce):TE:=fun σ H Q=>∃B φ st ρ,RepS X.K S.cl B φ H st/\RepE X.K S.cl B φ H ρ σ/\Run S X σ B φ H (RV S X B) (ev S.call ρ st c) Q
noncomputable def tAs (c:Ces):TA:=fun σ H Q=>∃B φ st ρ,RepS X.K S.cl B φ H st/\RepE X.K S.cl B φ H ρ σ/\Run S X σ B φ H (RL S X B) (evs S.call ρ st c) Q
noncomputable def truR (r:R PV):R Bool:=r.bind fun x st=>onO (truV st x) fun b=>.ok b st
noncomputable def tTs (c:Ce):TT:=fun σ H Q=>∃B φ st ρ,RepS X.K S.cl B φ H st/\RepE X.K S.cl B φ H ρ σ/\Run S X σ B φ H RB (truR (ev S.call ρ st c)) Q
end
section
variable {S:Se}{X:Cx}{σ:St}{B:Addr->Prop}{φ φ1:Ph}{H H1:Hp}
theorem ExcAt.back {k:Nat}{st':Store}{e:Value}{s':Shared}(s:Step φ H φ1 H1)(h:ExcAt S X σ B φ1 H1 k st' e s'):ExcAt S X σ B φ H k st' e s':=by
 rcases h with ⟨pins,H2,t,φ2,I,q,c⟩|⟨m,pins,H2,t,φ2,h',e0,vs,I,q,c⟩
 ·exact .inl ⟨pins,H2,t,φ2,I,s.trans q,c⟩
 ·exact .inr ⟨m,pins,H2,t,φ2,h',e0,vs,I,s.trans q,c⟩
variable {α β γ δ:Type}{Rel:Ph->Hp->α->β->Prop}{Rel2:Ph->Hp->γ->δ->Prop}
theorem Run.on {r:R α}{Q:β->Hp->Prop}(s:Step φ H φ1 H1)(h:Run S X σ B φ H Rel r Q):Run S X σ B φ1 H1 Rel r Q:=by
 cases r with
 |ok v st'=>exact fun x H' φ' t=>h x H' φ' (s.trans t)
 |exc k st'=>exact fun e s' x=>h e s' (x.back s)
 |bad=>exact h
theorem Run.mono {r:R α}{Q Q':β->Hp->Prop}(h:Run S X σ B φ H Rel r Q)(k:∀x H',Q x H'->Q' x H'):Run S X σ B φ H Rel r Q':=by
 cases r with
 |ok v st'=>exact fun x H' φ' t rs rv=>k x H' (h x H' φ' t rs rv)
 |exc c st'=>exact h
 |bad=>exact h
theorem Run.bind {r:R α}{k:α->Store->R γ}{Q:δ->Hp->Prop}(h:Run S X σ B φ H Rel2 (r.bind k) Q) :
  Run S X σ B φ H Rel r fun x H1=>∃v st1 φ1,Step φ H φ1 H1/\RepS X.K S.cl B φ1 H1 st1/\Rel φ1 H1 v x/\Run S X σ B φ1 H1 Rel2 (k v st1) Q:=by
 cases r with
 |ok v st'=>exact fun x H' φ' t rs rv=>⟨v,st',φ',t,rs,rv,Run.on t h⟩
 |exc c st'=>exact h
 |bad=>exact h
theorem Run.ok {v:α}{st:Store}{Q:β->Hp->Prop}(h:Run S X σ B φ H Rel (.ok v st) Q)(rs:RepS X.K S.cl B φ H st){x:β}(rv:Rel φ H v x):Q x H:=h x H φ .rfl rs rv
theorem PE.imp {e:Expr}{t t':TE}(h:PE X e t')(k:∀σ H Q,t σ H Q->t' σ H Q):PE X e t:=fun pins s σ H Q I q=>h pins s σ H Q I (k σ H Q q)
theorem PT.imp {e:Expr}{t t':TT}(h:PT X e t')(k:∀σ H Q,t σ H Q->t' σ H Q):PT X e t:=fun pins s σ H Q I q=>h pins s σ H Q I (k σ H Q q)
theorem PW.imp {e:Expr}{t t':TT}(h:PW X e t')(k:∀σ H Q,t σ H Q->t' σ H Q):PW X e t:=fun wh pins s σ H Q I q=>h wh pins s σ H Q I (k σ H Q q)
theorem PA.imp {e:List Expr}{t t':TA}(h:PA X e t')(k:∀σ H Q,t σ H Q->t' σ H Q):PA X e t:=fun pos pins s σ H Q I q=>h pos pins s σ H Q I (k σ H Q q)
theorem tE.bind {c:Ce}{ρ:IC.Env}{st:Store}{k:PV->Store->R γ}{Q:δ->Hp->Prop}{P:V->Hp->Prop}(rs:RepS X.K S.cl B φ H st)(re:RepE X.K S.cl B φ H ρ σ)(h:Run S X σ B φ H Rel2 ((ev S.call ρ st c).bind k) Q)
  (n:∀x H1 v st1 φ1,Step φ H φ1 H1->RepS X.K S.cl B φ1 H1 st1->RepE X.K S.cl B φ1 H1 ρ σ->RepV X.K S.cl B φ1 H1 v x->Run S X σ B φ1 H1 Rel2 (k v st1) Q->P x H1):tE S X c σ H P :=
 ⟨B,φ,st,ρ,rs,re,(Run.bind h).mono fun x H1 ⟨v,st1,φ1,s,rs1,rv,h1⟩=>n x H1 v st1 φ1 s rs1 (re.step s) rv h1⟩
theorem tAs.bind {c:Ces}{ρ:IC.Env}{st:Store}{k:List PV->Store->R γ}{Q:δ->Hp->Prop}{P:List V->Hp->Prop}(rs:RepS X.K S.cl B φ H st)(re:RepE X.K S.cl B φ H ρ σ)(h:Run S X σ B φ H Rel2 ((evs S.call ρ st c).bind k) Q)
  (n:∀x H1 v st1 φ1,Step φ H φ1 H1->RepS X.K S.cl B φ1 H1 st1->RepE X.K S.cl B φ1 H1 ρ σ->RepL X.K S.cl B φ1 H1 v x->Run S X σ B φ1 H1 Rel2 (k v st1) Q->P x H1):tAs S X c σ H P :=
 ⟨B,φ,st,ρ,rs,re,(Run.bind h).mono fun x H1 ⟨v,st1,φ1,s,rs1,rv,h1⟩=>n x H1 v st1 φ1 s rs1 (re.step s) rv h1⟩
variable {i:Int}{b:Bool}{x:Str}{j:Nat}{pos:Pos}{e a a':Expr}{c ca cb cc:Ce}
theorem zoF:PE X (.Constant (.int i) j pos) (tE S X (.cst (.int i))):=pe_int.imp fun σ H Q ⟨B,φ,st,ρ,rs,re,h⟩=>by
 simp only [ev] at h
 exact h.ok rs (by simp only [RepV])
theorem zd:KqE X (.Constant (.int i) j pos) (tE S X (.cst (.int i))):=by with_unfolding_all exact zoF
theorem zo0:PE X (.Constant (.bool b) j pos) (tE S X (.cst (.bl b))):=pe_bl.imp fun σ H Q ⟨B,φ,st,ρ,rs,re,h⟩=>by
 simp only [ev] at h
 exact h.ok rs (by simp only [RepV])
theorem zan:KqE X (.Constant (.bool b) j pos) (tE S X (.cst (.bl b))):=by with_unfolding_all exact zo0
theorem zor:PE X (.Constant .none j pos) (tE S X (.cst .non)):=pe_non.imp fun σ H Q ⟨B,φ,st,ρ,rs,re,h⟩=>by
 simp only [ev] at h
 exact h.ok rs (by simp only [RepV])
theorem zlo:KqE X (.Constant .none j pos) (tE S X (.cst .non)):=by with_unfolding_all exact zor
theorem zoi:PE X (.Constant (.str x) j pos) (tE S X (.cst (.str x))):=pe_str.imp fun σ H Q ⟨B,φ,st,ρ,rs,re,h⟩=>by
 simp only [ev] at h
 exact h.ok rs (by simp only [RepV])
theorem zC:KqE X (.Constant (.str x) j pos) (tE S X (.cst (.str x))):=by with_unfolding_all exact zoi
theorem zmk {i:Nat}(hN:X.N[i]?=some x)(hv:Vis X.env.scope x)(hd:(x == ("__debug__":Str))=false:=by decide)(hcd:(x == ("__classdict__":Str))=false:=by decide):PE X (.Name x pos) (tE S X (.var i)) :=
 (zoI hN hv hd hcd).imp fun σ H Q ⟨B,φ,st,ρ,rs,re,h⟩=>by
  simp only [ev] at h
  cases q:ρ[i]? with
  |none=>rw [q] at h;exact h.elim
  |some o =>
   cases o with
   |none=>rw [q] at h;exact h.elim
   |some v =>
    rw [q] at h
    obtain ⟨y,hy,rv⟩:=re.get i v q
    exact ⟨y,hy,h.ok rs rv⟩
theorem zc0 {o:Option PV}{st:Store}{Q:VK}(h:Run S X σ B φ H (RV S X B) (toR o st) Q)(rs:RepS X.K S.cl B φ H st):∃z,o=some z/\∀z' H' φ',Step φ H φ' H'->RepS X.K S.cl B φ' H' st->RepV X.K S.cl B φ' H' z z'->Q z' H':=by
 cases o with
 |none=>exact h.elim
 |some z=>exact ⟨z,rfl,h⟩
noncomputable def rT2 (S:Se)(X:Cx)(f:PV->PV->Option PV):R2:=fun x y H Q=>∃B φ st v w z,RepS X.K S.cl B φ H st/\RepV X.K S.cl B φ H v x/\RepV X.K S.cl B φ H w y/\f v w=some z /\
 ∀z' H' φ',Step φ H φ' H'->RepS X.K S.cl B φ' H' st->RepV X.K S.cl B φ' H' z z'->Q z' H'
theorem zt {op:Operator}{o:BOp}(ho:OpR X (binaryOp op) (rT2 S X (binV o)))(ha:KqE X a (tE S X ca))(hb:KqE X a' (tE S X cb)):KqE X (.BinOp a op a' pos) (tE S X (.bin o ca cb)):= by
 with_unfolding_all
 exact PE.imp (zos ho ha hb) fun σ H Q ⟨B,φ,st,ρ,rs,re,h⟩=>by
  simp only [ev] at h
  refine tE.bind rs re h fun x H1 v st1 φ1 s1 rs1 re1 rv h1=>tE.bind rs1 re1 h1 fun y H2 w st2 φ2 s2 rs2 re2 rw h2=>?_
  obtain ⟨z,e,q⟩:=zc0 h2 rs2
  exact ⟨B,φ2,st2,v,w,z,rs2,rv.step s2,rw,e,q⟩
theorem zab {op:CmpOp}{o:COp}(ho:OpR X (compareOp op) (rT2 S X (cmpV o)))(ha:KqE X a (tE S X ca))(hb:KqE X a' (tE S X cb))(hm:behindInMarks op a'=false):KqE X (.Compare a [op] [a'] pos) (tE S X (.cmp o ca cb)):= by
 with_unfolding_all
 exact PE.imp (zj5 ho ha hb hm) fun σ H Q ⟨B,φ,st,ρ,rs,re,h⟩=>by
  simp only [ev] at h
  refine tE.bind rs re h fun x H1 v st1 φ1 s1 rs1 re1 rv h1=>tE.bind rs1 re1 h1 fun y H2 w st2 φ2 s2 rs2 re2 rw h2=>?_
  obtain ⟨z,e,q⟩:=zc0 h2 rs2
  exact ⟨B,φ2,st2,v,w,z,rs2,rv.step s2,rw,e,q⟩
end
section
variable {S:Se}{X:Cx}{σ:St}{B:Addr->Prop}{φ φ1:Ph}{H H1:Hp}{K:PySem.W.Frag}{cl:Nat->Addr}{st:Store}
theorem RTup.sq {k:Bool}{a:Addr}{xs:List V}(r:RTup K B φ H k a xs):SqT K H a xs:=by
 rcases r with ⟨r,_⟩|r
 ·exact .inl (.inl r)
 ·exact .inr r.2
theorem RLst.sq {a:Addr}{xs:List V}(r:RLst B φ H a xs):SqL K H a xs:=.inl (.inl r.1)
theorem RepV.tup_new {vs:List PV}{xs:List V}{p:Addr}(hp:H p=none)(rs:RepS K cl B φ H st)(r:RepL K cl B φ H vs xs):RepV K cl B φ (upd H p (.tup xs)) (.tup vs) (.ref p):=by
 simp only [RepV]
 refine ⟨p,xs,rfl,.inl ⟨zal,fun z=>?_,fun z=>?_⟩,r.step (.upd hp)⟩
 ·obtain ⟨o,e⟩:=rs.dom p z
  rw [hp] at e;cases e
 ·obtain ⟨o,e⟩:=rs.there z
  rw [hp] at e;cases e
theorem RepV.lst_new {vs:List PV}{xs:List V}{p:Addr}(hp:H p=none)(rs:RepS K cl B φ H st)(r:RepL K cl B φ H vs xs):RepV K cl B φ (upd H p (.lst xs)) (.lst vs) (.ref p):=by
 simp only [RepV]
 refine ⟨p,xs,rfl,⟨zal,fun z=>?_,fun z=>?_⟩,r.step (.upd hp)⟩
 ·obtain ⟨o,e⟩:=rs.dom p z
  rw [hp] at e;cases e
 ·obtain ⟨o,e⟩:=rs.there z
  rw [hp] at e;cases e
theorem RepL.append:∀{vs ws:List PV} {xs ys:List V},RepL K cl B φ H vs xs->RepL K cl B φ H ws ys->RepL K cl B φ H (vs++ws) (xs++ys)
 | [],ws,xs,ys,h,q=>by simp only [RepL] at h;subst h;exact q
 |v::vs,ws,xs,ys,h,q=>by
  simp only [RepL] at h
  obtain ⟨y,zs,rfl,r,l⟩:=h
  show RepL K cl B φ H (v::(vs++ws)) (y::(zs++ys))
  simp only [RepL]
  exact ⟨y,zs++ys,rfl,r,RepL.append l q⟩
theorem RepL.get:∀{vs:List PV} {xs:List V} (j:Nat) {v:PV},RepL K cl B φ H vs xs->vs[j]?=some v->∃x,xs[j]?=some x/\RepV K cl B φ H v x
 | [],xs,j,v,h,e=>by simp at e
 |w::vs,xs,0,v,h,e=>by
  simp only [RepL] at h
  obtain ⟨y,zs,rfl,r,l⟩:=h
  simp at e;subst e
  exact ⟨y,rfl,r⟩
 |w::vs,xs,j+1,v,h,e=>by
  simp only [RepL] at h
  obtain ⟨y,zs,rfl,r,l⟩:=h
  obtain ⟨x,q1,q2⟩:=RepL.get j l (by simpa using e)
  exact ⟨x,by simpa using q1,q2⟩
theorem RepL.drop:∀{vs:List PV} {xs:List V} (n:Nat),RepL K cl B φ H vs xs->RepL K cl B φ H (vs.drop n) (xs.drop n)
 |vs,xs,0,h=>by simpa using h
 | [],xs,n+1,h=>by simp only [RepL] at h;subst h;simp [RepL]
 |v::vs,xs,n+1,h=>by
  simp only [RepL] at h
  obtain ⟨y,ys,rfl,_,l⟩:=h
  simpa using RepL.drop n l
theorem RepL.take:∀{vs:List PV} {xs:List V} (n:Nat),RepL K cl B φ H vs xs->RepL K cl B φ H (vs.take n) (xs.take n)
 |vs,xs,0,h=>by simp [RepL]
 | [],xs,n+1,h=>by simp only [RepL] at h;subst h;simp [RepL]
 |v::vs,xs,n+1,h=>by
  simp only [RepL] at h
  obtain ⟨y,ys,rfl,r,l⟩:=h
  simp only [List.take_succ_cons,RepL]
  exact ⟨y,ys.take n,rfl,r,RepL.take n l⟩
theorem zhC {f:Value->Value->Sem Value}{o:BOp}{C:Int->Int->Prop}{g:Int->Int->Int}(h:OpR X f (rI C fun i j=>.int (g i j)))
  (hb:∀v w z,binV o v w=some z->∃i j,v=.int i/\w=.int j/\C i j/\z=.int (g i j)):OpR X f (rT2 S X (binV o)):=by
 rintro pins s σ H x y v u Q I rx ry ⟨B,φ,st,a,b,z,rs,ra,rb,e,q⟩
 obtain ⟨i,j,rfl,rfl,hc,rfl⟩:=hb a b z e
 simp only [RepV] at ra rb
 subst ra rb
 exact h pins s σ H _ _ v u Q I rx ry ⟨i,j,rfl,rfl,hc,q _ H φ .rfl rs (by simp only [RepV])⟩
theorem zlj {f:Value->Value->Sem Value}{o:BOp}{g:Int->Int->Int}(h:OpR X f (rI0 fun i j=>.int (g i j)))
  (hb:∀v w z,binV o v w=some z->∃i j,v=.int i/\w=.int j/\z=.int (g i j)):OpR X f (rT2 S X (binV o)):=by
 rintro pins s σ H x y v u Q I rx ry ⟨B,φ,st,a,b,z,rs,ra,rb,e,q⟩
 obtain ⟨i,j,rfl,rfl,rfl⟩:=hb a b z e
 simp only [RepV] at ra rb
 subst ra rb
 exact h pins s σ H _ _ v u Q I rx ry ⟨i,j,rfl,rfl,q _ H φ .rfl rs (by simp only [RepV])⟩
theorem zna (v w z:PV)(h:binV .sub v w=some z):∃i j,v=.int i/\w=.int j/\z=.int (i - j):=by
 unfold binV at h
 split at h <;> first|(cases h;done)|skip
 exact ⟨_,_,rfl,rfl,(Option.some.inj h).symm⟩
theorem znm (v w z:PV)(h:binV .mul v w=some z):∃i j,v=.int i/\w=.int j/\CMul i j/\z=.int (i*j):=by
 unfold binV at h
 split at h <;> first|(cases h;done)|skip
 rename_i i j
 simp only [IC.binI] at h
 split at h
 ·rename_i c
  refine ⟨i,j,rfl,rfl,?_,(Option.some.inj h).symm⟩
  simp only [CMulB,Bool.or_eq_true,decide_eq_true_eq] at c
  unfold CMul
  rcases c with c|c
  ·left;constructor <;> omega
  ·right;constructor <;> omega
 ·cases h
theorem zlk (v w z:PV)(h:binV .fdiv v w=some z):∃i j,v=.int i/\w=.int j/\CDivB i j/\z=.int (i / j):=by
 unfold binV at h
 split at h <;> first|(cases h;done)|skip
 rename_i i j
 simp only [IC.binI] at h
 split at h
 ·rename_i c
  exact ⟨i,j,rfl,rfl,c,(Option.some.inj h).symm⟩
 ·cases h
theorem zmP (v w z:PV)(h:binV .mod v w=some z):∃i j,v=.int i/\w=.int j/\0<j/\z=.int (i % j):=by
 unfold binV at h
 split at h <;> first|(cases h;done)|skip
 rename_i i j
 simp only [IC.binI] at h
 split at h
 ·rename_i c
  exact ⟨i,j,rfl,rfl,c,(Option.some.inj h).symm⟩
 ·cases h
theorem znf (v w z:PV)(h:binV .pow v w=some z):∃i j,v=.int i/\w=.int j/\CPow i j/\z=.int (i ^ j.toNat):=by
 unfold binV at h
 split at h <;> first|(cases h;done)|skip
 rename_i i j
 simp only [IC.binI] at h
 split at h
 ·rename_i c
  exact ⟨i,j,rfl,rfl,⟨c.1,c.2.1,by have:=c.2.2;omega⟩,(Option.some.inj h).symm⟩
 ·cases h
theorem zco:OpR X (binaryOp .Sub) (rT2 S X (binV .sub)):=zlj zn4 zna
theorem zb2:OpR X (binaryOp .Mult) (rT2 S X (binV .mul)):=zhC znY znm
theorem zk4:OpR X (binaryOp .FloorDiv) (rT2 S X (binV .fdiv)):=zhC zma zlk
theorem ze5:OpR X (binaryOp .Mod) (rT2 S X (binV .mod)):=zhC zok zmP
theorem zhO:OpR X (binaryOp .Pow) (rT2 S X (binV .pow)):=zhC znN znf
theorem za1:sizeMax=sizeLine:=by rw [sizeLine_eq];rfl
theorem zmL:OpR X (binaryOp .Add) (fun x y H Q=>∃a b ys,x=.ref a/\y=.ref b/\SqT X.K H a []/\SqT X.K H b ys/\Q (.ref b) H):=by
 intro pins s σ H x y v u Q I rx ry h
 obtain ⟨a,b,ys,rfl,rfl,ha,hb,q⟩:=h
 cases rx
 cases ry
 obtain ⟨its,r1,p1,_⟩:=I.tuple ha
 obtain ⟨its2,r2,p2,_⟩:=I.tuple hb
 have:its=[]:=r1.nil_iff.mpr rfl
 subst this
 obtain ⟨⟨cls,dd,data,sl⟩,ho,hc,n,hd⟩:=id p1
 obtain ⟨⟨cls2,dd2,data2,sl2⟩,ho2,hc2,n2,hd2⟩:=id p2
 simp only at hc hd hc2 hd2
 subst hc hd hc2 hd2
 exact concat_meets ⟨_,ho,rfl⟩ ⟨_,ho2,rfl⟩ noFill_tuple_add seq_tuple_add PySem.F.slot_tuple_add PySem.F.entry_tuple_add (PySem.F.args_tuple_add_2 _ _)
   (tuple_addW0 a b [].toArray its2.toArray n n2 dd dd2 sl sl2 (by simp)) ⟨ho,ho2,⟨.ref b,H,I,rfl,q⟩⟩
theorem zaB:OpR X (binaryOp .Add) (rT2 S X (binV .add)):=by
 rintro pins s σ H x y v u Q I rx ry ⟨B,φ,st,a,b,z,rs,ra,rb,e,q⟩
 unfold binV at e
 split at e
 ·rename_i i j
  simp only [RepV] at ra rb
  subst ra rb
  cases e
  exact zoJ pins s σ H _ _ v u Q I rx ry ⟨i,j,rfl,rfl,q _ H φ .rfl rs (by simp only [RepV])⟩
 ·rename_i i k
  simp only [RepV] at ra rb
  subst ra rb
  cases e
  exact zj1 pins s σ H _ _ v u Q I rx ry ⟨i,k,rfl,rfl,q _ H φ .rfl rs (by simp only [RepV];cases k <;> rfl)⟩
 ·rename_i i j
  simp only [RepV] at ra rb
  subst ra rb
  dsimp only at e
  split at e
  ·rename_i c
   cases e
   exact zjz pins s σ H _ _ v u Q I rx ry ⟨i,j,rfl,rfl,by rw [<- za1];exact c,q _ H φ .rfl rs (by simp only [RepV])⟩
  ·cases e
 ·rename_i k1 vs k2 ws
  simp only [RepV] at ra rb
  obtain ⟨p,xs,rfl,r1,l1⟩:=ra
  obtain ⟨p',ys,rfl,r2,l2⟩:=rb
  dsimp only at e
  split at e
  ·rename_i c
   cases e
   have n1:=l1.length
   have n2:=l2.length
   unfold catT at q
   cases vs with
   |nil =>
    have:xs=[]:=by cases xs with|nil=>rfl|cons _ _=>simp at n1
    subst this
    refine zmL pins s σ H _ _ v u Q I rx ry ⟨p,p',ys,rfl,rfl,r1.sq,r2.sq,q _ H φ .rfl rs ?_⟩
    simp only [List.isEmpty_nil,if_true,RepV]
    exact ⟨p',ys,rfl,r2,l2⟩
   |cons v1 vr =>
    simp only [List.isEmpty_cons,Bool.false_eq_true,if_false] at q
    refine znp pins s σ H _ _ v u Q I rx ry ⟨p,p',xs,ys,rfl,rfl,r1.sq,r2.sq,?_,by rw [<- za1];omega,fun z=>?_,fun z t ht=>?_⟩
    ·rintro rfl
     simp at n1
    ·subst z
     have:ws=[]:=by cases ws with|nil=>rfl|cons _ _=>simp at n2
     subst this
     simp only [List.isEmpty_nil,if_true] at q
     refine q _ H φ .rfl rs ?_
     simp only [RepV]
     exact ⟨p,xs,rfl,r1,l1⟩
    ·cases ws with
     |nil=>exact absurd (List.length_eq_zero_iff.mp n2.symm) z
     |cons w1 wr =>
      simp only [List.isEmpty_cons,Bool.false_eq_true,if_false] at q
      exact q _ _ φ (.upd ht) (rs.upd ht) (.tup_new ht rs (l1.append l2))
  ·cases e
 ·rename_i vs ws
  simp only [RepV] at ra rb
  obtain ⟨p,xs,rfl,r1,l1⟩:=ra
  obtain ⟨p',ys,rfl,r2,l2⟩:=rb
  dsimp only at e
  split at e
  ·rename_i c
   cases e
   have n1:=l1.length
   have n2:=l2.length
   exact zmz pins s σ H _ _ v u Q I rx ry ⟨p,p',xs,ys,rfl,rfl,r1.1,r2.1,by rw [<- za1];omega,fun t ht=>q _ _ φ (.upd ht) (rs.upd ht) (.lst_new ht rs (l1.append l2))⟩
  ·cases e
 ·cases e
end
mutual
noncomputable def toD:PV->PyData
 | .non=>.none
 | .bl b=>.bool b
 | .int i=>.int i
 | .str x=>.str x
 | .tp _ xs=>.tuple (toDs xs)
 | .lst xs=>.list (toDs xs)
 |_=>.none
noncomputable def toDs:List PV->List PyData
 | []=>[]
 |x::xs=>toD x::toDs xs
end
mutual
theorem zhE:∀(v:PV) (n:Nat),shd n v=true->(toD v).canLay0=true/\(toD v).depth<=n
 | .non,n,h=>by simp [toD,PyData.canLay0,PyData.depth]
 | .bl b,n,h=>by simp [toD,PyData.canLay0,PyData.depth]
 | .int i,n,h=>by simp [toD,PyData.canLay0,PyData.depth]
 | .str x,n,h=>by
  simp only [shd] at h
  simp only [toD,PyData.canLay0,PyData.depth,Nat.zero_le,and_true]
  exact h
 | .tp _ xs,n,h=>by
  simp only [shd,Bool.and_eq_true,decide_eq_true_eq] at h
  obtain ⟨q1,q2⟩:=zhx xs (n - 1) h.2
  simp only [toD,PyData.canLay0,PyData.depth]
  exact ⟨q1,by omega⟩
 | .lst xs,n,h=>by
  simp only [shd,Bool.and_eq_true,decide_eq_true_eq] at h
  obtain ⟨q1,q2⟩:=zhx xs (n - 1) h.2
  simp only [toD,PyData.canLay0,PyData.depth]
  exact ⟨q1,by omega⟩
 | .loc k,n,h=>by simp [shd] at h
 | .exn k,n,h=>by simp [shd] at h
 | .scr xs,n,h=>by simp [shd] at h
theorem zhx:∀(v:List PV) (n:Nat),shds n v=true->PyData.canLayAll0 (toDs v)=true/\PyData.depthAll (toDs v)<=n
 | [],n,h=>by simp [toDs,PyData.canLayAll0,PyData.depthAll]
 |v::vs,n,h=>by
  simp only [shds,Bool.and_eq_true] at h
  obtain ⟨q1,q2⟩:=zhE v n h.1
  obtain ⟨q3,q4⟩:=zhx vs n h.2
  simp only [toDs,PyData.canLayAll0,PyData.depthAll,Bool.and_eq_true]
  exact ⟨⟨q1,q3⟩,by omega⟩
end
theorem zei {v:PV}(h:shp v=true):SeqAt.shaped (toD v)=true:=by
 obtain ⟨q1,q2⟩:=zhE v 60 h
 unfold SeqAt.shaped
 rw [q1,Bool.true_and,decide_eq_true_eq]
 omega
mutual
theorem zhy:∀(v w:PV) (n m:Nat),shd n v=true->shd m w=true->PyData.eqv (toD v) (toD w)=peq v w
 | .non,w,n,m,h,q=>by cases w <;> simp_all [toD,PyData.eqv,peq,shd]
 | .bl b,w,n,m,h,q=>by cases w <;> simp_all [toD,PyData.eqv,peq,shd,bi]
 | .int i,w,n,m,h,q=>by cases w <;> simp_all [toD,PyData.eqv,peq,shd,bi]
 | .str x,w,n,m,h,q=>by cases w <;> simp_all [toD,PyData.eqv,peq,shd]
 | .tp _ xs,.tp _ ys,n,m,h,q=>by
  simp only [shd,Bool.and_eq_true] at h q
  simp only [toD,PyData.eqv,peq]
  exact zhm xs ys (n - 1) (m - 1) h.2 q.2
 | .lst xs,.lst ys,n,m,h,q=>by
  simp only [shd,Bool.and_eq_true] at h q
  simp only [toD,PyData.eqv,peq]
  exact zhm xs ys (n - 1) (m - 1) h.2 q.2
 | .tp _ xs,.non,n,m,h,q=>by simp [toD,PyData.eqv,peq]
 | .tp _ xs,.bl _,n,m,h,q=>by simp [toD,PyData.eqv,peq]
 | .tp _ xs,.int _,n,m,h,q=>by simp [toD,PyData.eqv,peq]
 | .tp _ xs,.str _,n,m,h,q=>by simp [toD,PyData.eqv,peq]
 | .tp _ xs,.lst _,n,m,h,q=>by simp [toD,PyData.eqv,peq]
 | .lst xs,.non,n,m,h,q=>by simp [toD,PyData.eqv,peq]
 | .lst xs,.bl _,n,m,h,q=>by simp [toD,PyData.eqv,peq]
 | .lst xs,.int _,n,m,h,q=>by simp [toD,PyData.eqv,peq]
 | .lst xs,.str _,n,m,h,q=>by simp [toD,PyData.eqv,peq]
 | .lst xs,.tp _ _,n,m,h,q=>by simp [toD,PyData.eqv,peq]
 | .loc k,w,n,m,h,q=>by simp [shd] at h
 | .exn k,w,n,m,h,q=>by simp [shd] at h
 | .scr k,w,n,m,h,q=>by simp [shd] at h
 |v,.loc k,n,m,h,q=>by simp [shd] at q
 |v,.exn k,n,m,h,q=>by simp [shd] at q
 |v,.scr k,n,m,h,q=>by simp [shd] at q
theorem zhm:∀(v w:List PV) (n m:Nat),shds n v=true->shds m w=true->PyData.eqvAll (toDs v) (toDs w)=peqs v w
 | [],[],n,m,h,q=>by simp [toDs,PyData.eqvAll,peqs]
 | [],y::ys,n,m,h,q=>by simp [toDs,PyData.eqvAll,peqs]
 |x::xs,[],n,m,h,q=>by simp [toDs,PyData.eqvAll,peqs]
 |x::xs,y::ys,n,m,h,q=>by
  simp only [shds,Bool.and_eq_true] at h q
  simp only [toDs,PyData.eqvAll,peqs]
  rw [zhy x y n m h.1 q.1,zhm xs ys n m h.2 q.2]
end
section
variable {S:Se}{X:Cx}{σ:St}{B:Addr->Prop}{φ φ1:Ph}{H H1:Hp}{st:Store}{pins:List (Addr×Obj)}{s:Shared}
mutual
theorem zcS (I:Inv X pins σ H s):∀(v:PV) (n:Nat) (x:V) (u:Value),shd n v=true->RepV X.K S.cl B φ H v x->RelV x u->∃as,Reads s.heap u (toD v) as
 | .non,n,x,u,h,r,q=>by
  simp only [RepV] at r;subst r;cases (show u=Value.none from q);exact ⟨_,.none⟩
 | .bl b,n,x,u,h,r,q=>by
  simp only [RepV] at r;subst r;cases (show u=Value.bool b from q);exact ⟨_,.bool b⟩
 | .int i,n,x,u,h,r,q=>by
  simp only [RepV] at r;subst r;obtain ⟨t,rfl⟩:=q;exact ⟨_,.int i t⟩
 | .str y,n,x,u,h,r,q=>by
  simp only [RepV] at r;subst r;obtain ⟨t,rfl⟩:=q;exact ⟨_,.str y t⟩
 | .tp _ vs,n,x,u,h,r,q=>by
  simp only [RepV] at r
  obtain ⟨a,xs,rfl,rt,l⟩:=r
  cases (show u=Value.ref a from q)
  simp only [shd,Bool.and_eq_true] at h
  obtain ⟨its,rv,⟨o,g,c,k,d⟩,_⟩:=I.tuple rt.sq
  obtain ⟨as,z⟩:=zgo I vs (n - 1) xs its h.2 l rv
  exact ⟨as,.tuple g c d (by simpa using z)⟩
 | .lst vs,n,x,u,h,r,q=>by
  simp only [RepV] at r
  obtain ⟨a,xs,rfl,rt,l⟩:=r
  cases (show u=Value.ref a from q)
  simp only [shd,Bool.and_eq_true] at h
  obtain ⟨its,rv,⟨o,k,g,c,_,d⟩,_⟩:=I.list (rt.sq (K:=X.K))
  obtain ⟨as,z⟩:=zgo I vs (n - 1) xs its h.2 l rv
  exact ⟨_,.list g c d (by simpa using z)⟩
 | .loc k,n,x,u,h,r,q=>by simp [shd] at h
 | .exn k,n,x,u,h,r,q=>by simp [shd] at h
 | .scr k,n,x,u,h,r,q=>by simp [shd] at h
theorem zgo (I:Inv X pins σ H s):∀(v:List PV) (n:Nat) (x:List V) (u:List Value),shds n v=true->RepL X.K S.cl B φ H v x->Vals x u->∃as,ReadsAll s.heap u (toDs v) as
 | [],n,x,u,h,r,q=>by
  simp only [RepL] at r;subst r;cases q;exact ⟨_,.nil⟩
 |v::vs,n,x,u,h,r,q=>by
  simp only [RepL] at r
  obtain ⟨y,ys,rfl,rv,l⟩:=r
  simp only [shds,Bool.and_eq_true] at h
  cases q with
  |cons q1 q2 =>
   obtain ⟨as,z1⟩:=zcS I v n y _ h.1 rv q1
   obtain ⟨bs,z2⟩:=zgo I vs n ys _ h.2 l q2
   exact ⟨_,.cons z1 z2⟩
end
theorem za0 (hu:X.A.units+64<cLine):OpR X (compareOp .Eq) (rT2 S X (cmpV .eq)):=by
 rintro pins s σ H x y v u Q I rx ry ⟨B,φ,st,a,b,z,rs,ra,rb,e,q⟩
 simp only [cmpV] at e
 split at e
 ·rename_i c
  rw [Bool.and_eq_true] at c
  cases e
  obtain ⟨as,z1⟩:=zcS (S:=S) I a 60 x v c.1 ra rx
  obtain ⟨bs,z2⟩:=zcS (S:=S) I b 60 y u c.2 rb ry
  refine eq_dataH z1 z2 (zei c.1) (zei c.2) hu ⟨.bl _,H,I,rfl,?_⟩
  rw [zhy a b 60 60 c.1 c.2]
  exact q _ H φ .rfl rs (by simp only [RepV])
 ·cases e
theorem zdw (hu:X.A.units+64<cLine):OpR X (compareOp .NotEq) (rT2 S X (cmpV .ne)):=by
 rintro pins s σ H x y v u Q I rx ry ⟨B,φ,st,a,b,z,rs,ra,rb,e,q⟩
 simp only [cmpV] at e
 split at e
 ·rename_i c
  rw [Bool.and_eq_true] at c
  cases e
  obtain ⟨as,z1⟩:=zcS (S:=S) I a 60 x v c.1 ra rx
  obtain ⟨bs,z2⟩:=zcS (S:=S) I b 60 y u c.2 rb ry
  refine ne_dataH z1 z2 (zei c.1) (zei c.2) hu ⟨.bl _,H,I,rfl,?_⟩
  rw [zhy a b 60 60 c.1 c.2]
  exact q _ H φ .rfl rs (by simp only [RepV])
 ·cases e
theorem zk7 {f:Value->Value->Sem Value}{o:COp}{g:Int->Int->Bool}(h:OpR X f (rI0 fun i j=>.bl (g i j)))
  (hb:∀v w z,cmpV o v w=some z->∃i j,v=.int i/\w=.int j/\z=.bl (g i j)):OpR X f (rT2 S X (cmpV o)):=by
 rintro pins s σ H x y v u Q I rx ry ⟨B,φ,st,a,b,z,rs,ra,rb,e,q⟩
 obtain ⟨i,j,rfl,rfl,rfl⟩:=hb a b z e
 simp only [RepV] at ra rb
 subst ra rb
 exact h pins s σ H _ _ v u Q I rx ry ⟨i,j,rfl,rfl,q _ H φ .rfl rs (by simp only [RepV])⟩
theorem zo3 {o:COp}{g:Int->Int->Bool}(ho:∀v w,cmpV o v w=match v,w with
   | .int i,.int j=>cmpI o i j
   |_,_=>none) (hg:∀i j,cmpI o i j=some (.bl (g i j))) (v w z:PV) (h:cmpV o v w=some z):∃i j,v=.int i/\w=.int j/\z=.bl (g i j):=by
 rw [ho] at h
 split at h
 ·rename_i i j
  rw [hg] at h
  exact ⟨i,j,rfl,rfl,(Option.some.inj h).symm⟩
 ·cases h
theorem zkK:OpR X (compareOp .LtE) (fun x y H Q=>∃i j,x=.str i/\y=.str j/\Q (.bl (!decide (j.cps.toList<i.cps.toList))) H):=by
 intro pins s σ H x y v u Q I rx ry h
 obtain ⟨i,j,rfl,rfl,q⟩:=h
 obtain ⟨t,rfl⟩:=rx
 obtain ⟨t',rfl⟩:=ry
 exact PySem.P.le_str (zgC I q rfl)
theorem zgG:OpR X (compareOp .Lt) (rT2 S X (cmpV .lt)):=by
 rintro pins s σ H x y v u Q I rx ry ⟨B,φ,st,a,b,z,rs,ra,rb,e,q⟩
 simp only [cmpV] at e
 split at e
 ·rename_i i j
  simp only [RepV] at ra rb
  subst ra rb
  cases e
  exact zoT pins s σ H _ _ v u Q I rx ry ⟨i,j,rfl,rfl,q _ H φ .rfl rs (by simp only [RepV])⟩
 ·rename_i i j
  simp only [RepV] at ra rb
  subst ra rb
  cases e
  exact zkt pins s σ H _ _ v u Q I rx ry ⟨i,j,rfl,rfl,q _ H φ .rfl rs (by simp only [RepV])⟩
 ·cases e
theorem zh8:OpR X (compareOp .LtE) (rT2 S X (cmpV .le)):=by
 rintro pins s σ H x y v u Q I rx ry ⟨B,φ,st,a,b,z,rs,ra,rb,e,q⟩
 simp only [cmpV] at e
 split at e
 ·rename_i i j
  simp only [RepV] at ra rb
  subst ra rb
  cases e
  exact zo7 pins s σ H _ _ v u Q I rx ry ⟨i,j,rfl,rfl,q _ H φ .rfl rs (by simp only [RepV])⟩
 ·rename_i i j
  simp only [RepV] at ra rb
  subst ra rb
  cases e
  exact zkK pins s σ H _ _ v u Q I rx ry ⟨i,j,rfl,rfl,q _ H φ .rfl rs (by simp only [RepV])⟩
 ·cases e
theorem ziZ {o:COp}{g:Int->Int->Bool}(ho:∀v w,cmpV o v w=match v,w with
   | .int i,.int j=>cmpI o i j
   | .str a,.str b=>cmpS o a b
   |_,_=>none) (hs:∀a b,cmpS o a b=none) (hg:∀i j,cmpI o i j=some (.bl (g i j))) (v w z:PV) (h:cmpV o v w=some z):∃i j,v=.int i/\w=.int j/\z=.bl (g i j):=by
 rw [ho] at h
 split at h
 ·rename_i i j
  rw [hg] at h
  exact ⟨i,j,rfl,rfl,(Option.some.inj h).symm⟩
 ·rw [hs] at h;cases h
 ·cases h
theorem ziN:OpR X (compareOp .Gt) (rT2 S X (cmpV .gt)):=zk7 zoQ (ziZ (fun _ _=>rfl) (fun _ _=>rfl) fun _ _=>rfl)
theorem znW:OpR X (compareOp .GtE) (rT2 S X (cmpV .ge)):=zk7 zo2 (ziZ (fun _ _=>rfl) (fun _ _=>rfl) fun _ _=>rfl)
theorem RepV.isNon {K:PySem.W.Frag}{cl:Nat->Addr}{v:PV}{x:V}(r:RepV K cl B φ H v x):decide (x=.non)=IC.isNon v:=by
 cases v with
 |loc n=>simp only [RepV] at r;obtain ⟨_,a,rfl,_⟩:=r;rfl
 |non=>simp only [RepV] at r;subst r;rfl
 |bl b=>simp only [RepV] at r;subst r;rfl
 |int b=>simp only [RepV] at r;subst r;rfl
 |str b=>simp only [RepV] at r;subst r;rfl
 |tp k vs=>simp only [RepV] at r;obtain ⟨a,xs,rfl,_⟩:=r;rfl
 |lst vs=>simp only [RepV] at r;obtain ⟨a,xs,rfl,_⟩:=r;rfl
 |exn vs=>simp only [RepV] at r;obtain ⟨a,rfl,_⟩:=r;rfl
 |scr vs=>simp only [RepV] at r;obtain ⟨a,xs,rfl,_⟩:=r;rfl
theorem zlP {M:Model}{A:Around}{E:Value->Shared->Prop}{s:Shared}{a b:Bool}{Q:Value->Shared->Prop}(h:Q (.bool (a == b)) s):wpAny M A (compareOp .Is (.bool a) (.bool b)) Q E s:=by
 have e:(Value.bool a == Value.bool b)=(a == b):=by cases a <;> cases b <;> rfl
 rw [<- e] at h
 exact wpAny_pure h
theorem ziX {M:Model}{A:Around}{E:Value->Shared->Prop}{s:Shared}{a b:Bool}{Q:Value->Shared->Prop}(h:Q (.bool (!(a == b))) s):wpAny M A (compareOp .IsNot (.bool a) (.bool b)) Q E s:=by
 have e:(Value.bool a == Value.bool b)=(a == b):=by cases a <;> cases b <;> rfl
 rw [<- e] at h
 exact wpAny_pure h
theorem zo6:OpR X (compareOp .Is) (rT2 S X (cmpV .is)):=by
 rintro pins s σ H x y v u Q I rx ry ⟨B,φ,st,a,b,z,rs,ra,rb,e,q⟩
 simp only [cmpV] at e
 split at e
 ·cases e
  simp only [RepV] at rb
  exact zoC pins s σ H _ _ v u Q I rx ry ⟨rb,q _ H φ .rfl rs (by simp only [RepV];rw [ra.isNon])⟩
 ·rename_i k
  split at e
  ·rename_i j
   cases e
   simp only [RepV] at ra rb
   subst ra rb
   cases (show v=Value.bool j from rx)
   cases (show u=Value.bool k from ry)
   exact zlP (zgC I (q _ H φ .rfl rs (by simp only [RepV])) rfl)
  ·cases e
 ·cases e
theorem zhq:OpR X (compareOp .IsNot) (rT2 S X (cmpV .isnot)):=by
 rintro pins s σ H x y v u Q I rx ry ⟨B,φ,st,a,b,z,rs,ra,rb,e,q⟩
 simp only [cmpV] at e
 split at e
 ·cases e
  simp only [RepV] at rb
  exact znD pins s σ H _ _ v u Q I rx ry ⟨rb,q _ H φ .rfl rs (by simp only [RepV];rw [ra.isNon])⟩
 ·rename_i k
  split at e
  ·rename_i j
   cases e
   simp only [RepV] at ra rb
   subst ra rb
   cases (show v=Value.bool j from rx)
   cases (show u=Value.bool k from ry)
   exact ziX (zgC I (q _ H φ .rfl rs (by simp only [RepV])) rfl)
  ·cases e
 ·cases e
theorem RepV.flat {K:PySem.W.Frag}{cl:Nat->Addr}{v:PV}{x:V}(r:RepV K cl B φ H v x)(h:IC.flat v=true):flatV x=true/\∀(w:PV) (y:V),IC.flat w=true->RepV K cl B φ H w y->eqV x y=peq v w:=by
 cases v with
 |non =>
  simp only [RepV] at r;subst r
  refine ⟨rfl,fun w y hw rw=>?_⟩
  cases w <;> first|(simp [IC.flat] at hw;done)|(simp only [RepV] at rw;subst rw;simp [eqV,peq,bi])
 |bl b =>
  simp only [RepV] at r;subst r
  refine ⟨rfl,fun w y hw rw=>?_⟩
  cases w <;> first|(simp [IC.flat] at hw;done)|(simp only [RepV] at rw;subst rw;simp [eqV,peq,bi])
 |int b =>
  simp only [RepV] at r;subst r
  refine ⟨rfl,fun w y hw rw=>?_⟩
  cases w <;> first|(simp [IC.flat] at hw;done)|(simp only [RepV] at rw;subst rw;simp [eqV,peq,bi])
 |str b =>
  simp only [RepV] at r;subst r
  refine ⟨rfl,fun w y hw rw=>?_⟩
  cases w <;> first|(simp [IC.flat] at hw;done)|(simp only [RepV] at rw;subst rw;simp [eqV,peq,bi])
 |_=>simp [IC.flat] at h
theorem ziP {K:PySem.W.Frag}{cl:Nat->Addr}{v:PV}{x:V}(r:RepV K cl B φ H v x)(h:IC.flat v=true):∀{vs:List PV} {xs:List V},RepL K cl B φ H vs xs->vs.all IC.flat=true->xs.all flatV=true/\inV x xs=inL v vs
 | [],xs,l,_=>by simp only [RepL] at l;subst l;exact ⟨rfl,rfl⟩
 |w::vs,xs,l,f=>by
  simp only [RepL] at l
  obtain ⟨y,ys,rfl,rw,l⟩:=l
  rw [List.all_cons,Bool.and_eq_true] at f
  obtain ⟨q1,q2⟩:=ziP r h l f.2
  obtain ⟨q3,q4⟩:=rw.flat f.1
  refine ⟨by rw [List.all_cons,q3,q1];rfl,?_⟩
  unfold inV at q2 ⊢
  rw [List.any_cons,q2,q4 v x h r]
  rfl
end
theorem zne (a b:Str):(!(Builtin.Str.occurrences b a 0 b.length 1).isEmpty)=inS a b:=by
 rw [Bool.eq_iff_iff,StrLaws.found_iff]
 unfold inS
 rw [List.any_eq_true]
 constructor
 ·rintro ⟨i,h1,h2⟩
  exact ⟨i,by rw [List.mem_range];omega,by rw [Bool.and_eq_true,decide_eq_true_eq];exact ⟨h1,h2⟩⟩
 ·rintro ⟨i,_,h⟩
  rw [Bool.and_eq_true,decide_eq_true_eq] at h
  exact ⟨i,h.1,h.2⟩
section
variable {S:Se}{X:Cx}{σ:St}{B:Addr->Prop}{φ φ1:Ph}{H H1:Hp}{st:Store}
theorem zlv:OpR X (compareOp .In) (rT2 S X (cmpV .isin)):=by
 rintro pins s σ H x y v u Q I rx ry ⟨B,φ,st,a,b,z,rs,ra,rb,e,q⟩
 simp only [cmpV] at e
 split at e
 ·rename_i i j
  simp only [RepV] at ra rb
  subst ra rb
  cases e
  exact zks pins s σ H _ _ v u Q I rx ry ⟨i,j,rfl,rfl,by rw [zne];exact q _ H φ .rfl rs (by simp only [RepV])⟩
 ·rename_i l
  split at e
  ·rename_i c
   rw [Bool.and_eq_true] at c
   cases e
   simp only [RepV] at rb
   obtain ⟨p,xs,rfl,r,l'⟩:=rb
   obtain ⟨q1,q2⟩:=ziP ra c.1 l' c.2
   exact zhN pins s σ H _ _ v u Q I rx ry ⟨p,xs,rfl,.inr r.sq,(ra.flat c.1).1,q1,q _ H φ .rfl rs (by simp only [RepV];rw [<- q2];rfl)⟩
  ·cases e
 ·rename_i l
  split at e
  ·rename_i c
   rw [Bool.and_eq_true] at c
   cases e
   simp only [RepV] at rb
   obtain ⟨p,xs,rfl,r,l'⟩:=rb
   obtain ⟨q1,q2⟩:=ziP ra c.1 l' c.2
   exact zhN pins s σ H _ _ v u Q I rx ry ⟨p,xs,rfl,.inl r.sq,(ra.flat c.1).1,q1,q _ H φ .rfl rs (by simp only [RepV];rw [<- q2];rfl)⟩
  ·cases e
 ·cases e
theorem RepL.empty {K:PySem.W.Frag}{cl:Nat->Addr}{vs:List PV}{xs:List V}(l:RepL K cl B φ H vs xs):vs.isEmpty=xs.isEmpty:=by
 have:=l.length
 cases vs <;> cases xs <;> simp_all
theorem zm1 {K:PySem.W.Frag}{cl:Nat->Addr}{v:PV}{x:V}{k:Bool}(rs:RepS K cl B φ H st)(r:RepV K cl B φ H v x)(h:truV st v=some k):TruV K x H k:=by
 cases v with
 |non=>simp only [RepV] at r;subst r;cases h;rfl
 |bl b=>simp only [RepV] at r;subst r;cases h;rfl
 |int b=>simp only [RepV] at r;subst r;cases h;rfl
 |str b =>
  simp only [RepV] at r;subst r
  simp only [truV] at h
  split at h
  ·rename_i c
   cases h
   exact ⟨by rw [<- za1];exact c,rfl⟩
  ·cases h
 |tp k vs =>
  simp only [RepV] at r
  obtain ⟨a,xs,rfl,rt,l⟩:=r
  cases h
  exact .inr (.inl ⟨xs,rt.sq,by rw [l.empty]⟩)
 |lst vs =>
  simp only [RepV] at r
  obtain ⟨a,xs,rfl,rt,l⟩:=r
  cases h
  exact .inl ⟨xs,rt.sq,by rw [l.empty]⟩
 |loc n =>
  simp only [RepV] at r
  obtain ⟨hn,a,rfl,ha⟩:=r
  simp only [truV] at h
  split at h
  ·rename_i vs hv
   cases h
   obtain ⟨b,hb⟩:=rs.liv n _ hv (by intro z;cases z)
   obtain rfl:=ha b hb
   obtain ⟨o,ho,ro⟩:=rs.obj n b hb
   rw [hv] at ho;cases ho
   obtain ⟨xs,hx,l⟩:=ro
   exact .inl ⟨xs,.of hx,by rw [l.empty]⟩
  ·cases h
 |exn c=>cases h
 |scr c=>cases h
end
theorem R.bind_assoc {α β γ:Type}{r:R α}{k:α->Store->R β}{l:β->Store->R γ}:(r.bind k).bind l=r.bind fun a s=>(k a s).bind l:=by
 cases r <;> rfl
section
variable {S:Se}{X:Cx}{σ:St}{B:Addr->Prop}{φ φ1:Ph}{H H1:Hp}{st:Store}{ρ:IC.Env}{pos:Pos}{a b c d:Expr}{ca cb cc:Ce}{es:List Expr}{ces:Ces}
theorem zkE {o:COp}{v w z:PV}(h:cmpV o v w=some z):∃k,z=.bl k:=by
 cases o <;> simp only [cmpV] at h
 all_goals (repeat' split at h) <;> first|(cases h;done)|(cases h;exact ⟨_,rfl⟩)|skip
 all_goals (simp only [cmpI] at h;cases h;exact ⟨_,rfl⟩)
theorem zB {op:CmpOp}{o:COp}(ho:OpR X (compareOp op) (rT2 S X (cmpV o)))(ha:KqE X a (tE S X ca))(hb:KqE X b (tE S X cb))(hm:behindInMarks op b=false):KqT X (.Compare a [op] [b] pos) (tTs S X (.cmp o ca cb)):= by
 with_unfolding_all
 exact PT.imp (zlg ho ha hb hm) fun σ H Q ⟨B,φ,st,ρ,rs,re,h⟩=>by
  simp only [ev,truR,R.bind_assoc] at h
  refine tE.bind rs re h fun x H1 v st1 φ1 s1 rs1 re1 rv h1=>tE.bind rs1 re1 h1 fun y H2 w st2 φ2 s2 rs2 re2 rw h2=>?_
  cases e:cmpV o v w with
  |none=>rw [e] at h2;exact h2.elim
  |some z =>
   obtain ⟨k,rfl⟩:=zkE e
   rw [e] at h2
   refine ⟨B,φ2,st2,v,w,.bl k,rs2,rv.step s2,rw,e,fun z' H' φ' s' rs' rz=>?_⟩
   simp only [RepV] at rz
   exact ⟨k,rz,h2 k H' φ' s' rs' rfl⟩
theorem z7 (ha:KqE X a (tE S X ca))(he:∀whole,isTrue a X.env whole=(do let v <- whole;standAt a.pos;holding [v] (truthy v)):=by intro _;rfl):KqT X a (tTs S X ca):= by
 with_unfolding_all
 exact PT.imp (zl4 ha he) fun σ H Q ⟨B,φ,st,ρ,rs,re,h⟩=>by
  simp only [truR] at h
  refine tE.bind rs re h fun x H1 v st1 φ1 s1 rs1 re1 rv h1=>?_
  cases e:truV st1 v with
  |none=>rw [e] at h1;exact h1.elim
  |some k =>
   rw [e] at h1
   exact ⟨k,zm1 rs1 rv e,h1.ok rs1 rfl⟩
theorem tTs.bind {γ δ:Type}{Rel2:Ph->Hp->γ->δ->Prop}{k:Bool->Store->R γ}{Q:δ->Hp->Prop}{P:Bool->Hp->Prop}(rs:RepS X.K S.cl B φ H st)(re:RepE X.K S.cl B φ H ρ σ)(h:Run S X σ B φ H Rel2 ((truR (ev S.call ρ st ca)).bind k) Q)
  (n:∀b H1 st1 φ1,Step φ H φ1 H1->RepS X.K S.cl B φ1 H1 st1->RepE X.K S.cl B φ1 H1 ρ σ->Run S X σ B φ1 H1 Rel2 (k b st1) Q->P b H1):tTs S X ca σ H P :=
 ⟨B,φ,st,ρ,rs,re,(Run.bind h).mono fun x H1 ⟨v,st1,φ1,s,rs1,rv,h1⟩=>by
  subst rv
  exact n v H1 st1 φ1 s rs1 (re.step s) h1⟩
theorem ziy (r:R PV)(f:Bool->Store->R PV):truR (r.bind fun x st1=>onBl x fun b=>f b st1)=r.bind fun x st1=>onBl x fun b=>truR (f b st1):=by
 unfold truR
 rw [R.bind_assoc]
 congr 1
 funext x st1
 cases x <;> rfl
theorem Run.bl_tru {r:R PV}{k:Bool->Store->R Bool}{Q:Bool->Hp->Prop}(h:Run S X σ B φ H RB (r.bind fun x st1=>onBl x fun b=>k b st1) Q):Run S X σ B φ H RB ((truR r).bind k) Q:=by
 cases r with
 |bad=>exact h
 |exc c s=>exact h
 |ok v s =>
  cases v with
  |bl b=>exact h
  |_=>exact h.elim
theorem zak (ha:KqT X a (tTs S X ca)):KqT X (.UnaryOp .Not a pos) (tTs S X (.not ca)):= by
 with_unfolding_all
 exact PT.imp (zob ha) fun σ H Q ⟨B,φ,st,ρ,rs,re,h⟩=>by
  simp only [ev] at h
  rw [ziy _ fun k st1=>.ok (.bl (!k)) st1] at h
  exact tTs.bind rs re (Run.bl_tru (k:=fun b st1=>.ok (!b) st1) h) fun b H1 st1 φ1 s1 rs1 re1 h1=>h1.ok rs1 rfl
variable {rest:List Expr}
theorem zfk (ha:KqT X a (tTs S X ca)):KqW X (.BoolOp .And [a] pos) (tTs S X ca):= by
 with_unfolding_all
 exact zmF ha
theorem zar (ha:KqT X a (tTs S X ca)):KqW X (.BoolOp .Or [a] pos) (tTs S X ca):= by
 with_unfolding_all
 exact zn1 ha
theorem zeg (ha:KqT X a (tTs S X ca))(hb:KqW X (.BoolOp .And (b::rest) pos) (tTs S X cb)):KqW X (.BoolOp .And (a::b::rest) pos) (tTs S X (.and ca cb)):= by
 with_unfolding_all
 exact PW.imp (zou ha hb) fun σ H Q ⟨B,φ,st,ρ,rs,re,h⟩=>by
  simp only [ev] at h
  rw [ziy _ fun k st1=>cond k (ev S.call ρ st1 cb) (.ok (.bl false) st1)] at h
  refine tTs.bind rs re (Run.bl_tru h) fun k H1 st1 φ1 s1 rs1 re1 h1=>?_
  cases k with
  |false=>exact h1.ok rs1 rfl
  |true=>exact ⟨B,φ1,st1,ρ,rs1,re1,h1⟩
theorem zai (ha:KqT X a (tTs S X ca))(hb:KqW X (.BoolOp .Or (b::rest) pos) (tTs S X cb)):KqW X (.BoolOp .Or (a::b::rest) pos) (tTs S X (.or ca cb)):= by
 with_unfolding_all
 exact PW.imp (zoZ ha hb) fun σ H Q ⟨B,φ,st,ρ,rs,re,h⟩=>by
  simp only [ev] at h
  rw [ziy _ fun k st1=>cond k (.ok (.bl true) st1) (ev S.call ρ st1 cb)] at h
  refine tTs.bind rs re (Run.bl_tru h) fun k H1 st1 φ1 s1 rs1 re1 h1=>?_
  cases k with
  |true=>exact h1.ok rs1 rfl
  |false=>exact ⟨B,φ1,st1,ρ,rs1,re1,h1⟩
theorem zaa {op:BoolOp}(h:KqE X a (tE S X ca)):KqE X (.BoolOp op [a] pos) (tE S X ca):= by
 with_unfolding_all
 exact zn9 h
theorem zN (ha:KqE X a (tE S X ca))(hb:KqE X (.BoolOp .And (b::rest) pos) (tE S X cb)):KqE X (.BoolOp .And (a::b::rest) pos) (tE S X (.and ca cb)):= by
 with_unfolding_all
 exact PE.imp (zn8 ha hb) fun σ H Q ⟨B,φ,st,ρ,rs,re,h⟩=>by
  simp only [ev] at h
  refine tE.bind rs re h fun x H1 v st1 φ1 s1 rs1 re1 rv h1=>?_
  cases v with
  |bl k =>
   simp only [RepV] at rv
   refine ⟨k,rv,?_⟩
   cases k with
   |true=>exact ⟨B,φ1,st1,ρ,rs1,re1,h1⟩
   |false=>exact h1.ok rs1 (by simp only [RepV])
  |_=>exact h1.elim
theorem ziR (ha:KqE X a (tE S X ca))(hb:KqE X (.BoolOp .Or (b::rest) pos) (tE S X cb)):KqE X (.BoolOp .Or (a::b::rest) pos) (tE S X (.or ca cb)):= by
 with_unfolding_all
 exact PE.imp (zo5 ha hb) fun σ H Q ⟨B,φ,st,ρ,rs,re,h⟩=>by
  simp only [ev] at h
  refine tE.bind rs re h fun x H1 v st1 φ1 s1 rs1 re1 rv h1=>?_
  cases v with
  |bl k =>
   simp only [RepV] at rv
   refine ⟨k,rv,?_⟩
   cases k with
   |false=>exact ⟨B,φ1,st1,ρ,rs1,re1,h1⟩
   |true=>exact h1.ok rs1 (by simp only [RepV])
  |_=>exact h1.elim
theorem zjf (ha:KqE X a (tE S X ca)):KqE X (.UnaryOp .Not a pos) (tE S X (.not ca)):= by
 with_unfolding_all
 exact PE.imp (zol ha) fun σ H Q ⟨B,φ,st,ρ,rs,re,h⟩=>by
  simp only [ev] at h
  refine tE.bind rs re h fun x H1 v st1 φ1 s1 rs1 re1 rv h1=>?_
  cases v with
  |bl k =>
   simp only [RepV] at rv
   exact ⟨k,rv,h1.ok rs1 (by simp only [RepV])⟩
  |_=>exact h1.elim
theorem zef (ha:KqE X a (tE S X ca)):KqE X (.UnaryOp .USub a pos) (tE S X (.neg ca)):= by
 with_unfolding_all
 exact PE.imp (zoY zot ha) fun σ H Q ⟨B,φ,st,ρ,rs,re,h⟩=>by
  simp only [ev] at h
  refine tE.bind rs re h fun x H1 v st1 φ1 s1 rs1 re1 rv h1=>?_
  split at h1
  ·simp only [RepV] at rv
   exact ⟨_,rv,h1.ok rs1 (by simp only [RepV])⟩
  ·exact h1.elim
theorem zlq (hc:KqT X c (tTs S X cc))(ha:KqE X a (tE S X ca))(hb:KqE X b (tE S X cb)):KqE X (.IfExp c a b pos) (tE S X (.ite cc ca cb)):= by
 with_unfolding_all
 exact PE.imp (zln hc ha hb) fun σ H Q ⟨B,φ,st,ρ,rs,re,h⟩=>by
  simp only [ev] at h
  have e:((ev S.call ρ st cc).bind fun x st1=>onO (truV st1 x) fun k=>cond k (ev S.call ρ st1 ca) (ev S.call ρ st1 cb))=(truR (ev S.call ρ st cc)).bind fun k st1=>cond k (ev S.call ρ st1 ca) (ev S.call ρ st1 cb):=by
   unfold truR
   rw [R.bind_assoc]
   congr 1
   funext x st1
   cases truV st1 x <;> rfl
  rw [e] at h
  refine tTs.bind rs re h fun k H1 st1 φ1 s1 rs1 re1 h1=>?_
  cases k with
  |true=>exact ⟨B,φ1,st1,ρ,rs1,re1,h1⟩
  |false=>exact ⟨B,φ1,st1,ρ,rs1,re1,h1⟩
theorem zlf:PA X [] (tAs S X .nil):=pa_nil.imp fun σ H Q ⟨B,φ,st,ρ,rs,re,h⟩=>by
 simp only [evs] at h
 exact h.ok rs (by simp only [RepL])
theorem zj:KqA X [] (tAs S X .nil):=by with_unfolding_all exact zlf
theorem ziF (ha:PE X a (tE S X ca))(hr:PA X es (tAs S X ces))(hs:starEach (a::es) X.env=(false,eval a X.env)::starEach es X.env:=by rfl):PA X (a::es) (tAs S X (.cons ca ces)) :=
 (zeS ha hr hs).imp fun σ H Q ⟨B,φ,st,ρ,rs,re,h⟩=>by
  simp only [evs] at h
  refine tE.bind rs re h fun x H1 v st1 φ1 s1 rs1 re1 rv h1=>tAs.bind rs1 re1 h1 fun xs H2 vs st2 φ2 s2 rs2 re2 rvs h2=>?_
  refine h2.ok rs2 ?_
  simp only [RepL]
  exact ⟨x,xs,rfl,rv.step s2,rvs⟩
theorem zc (ha:KqE X a (tE S X ca))(hr:KqA X es (tAs S X ces))(hs:starEach (a::es) X.env=(false,eval a X.env)::starEach es X.env:=by rfl):KqA X (a::es) (tAs S X (.cons ca ces)):=by with_unfolding_all exact ziF ha hr hs
theorem zA {k:Nat}(h:KqA X es (tAs S X ces)):KqE X (.Tuple es k pos) (tE S X (.tup ces)):= by
 with_unfolding_all
 exact PE.imp (zmc h) fun σ H Q ⟨B,φ,st,ρ,rs,re,h⟩=>by
  simp only [ev] at h
  refine tAs.bind rs re h fun xs H1 vs st1 φ1 s1 rs1 re1 rv h1=>?_
  split at h1
  ·rename_i c
   refine ⟨by rw [<- za1,<- rv.length];exact c,fun p hp=>h1 _ _ φ1 (.upd hp) (rs1.upd hp) (.tup_new hp rs1 rv)⟩
  ·exact h1.elim
theorem zfa (h:KqA X es (tAs S X ces)):KqE X (.List es pos) (tE S X (.lst ces)):= by
 with_unfolding_all
 exact PE.imp (zmq h) fun σ H Q ⟨B,φ,st,ρ,rs,re,h⟩=>by
  simp only [ev] at h
  refine tAs.bind rs re h fun xs H1 vs st1 φ1 s1 rs1 re1 rv h1=>?_
  split at h1
  ·rename_i c
   refine ⟨by rw [<- za1,<- rv.length];exact c,fun p hp=>h1 _ _ φ1 (.upd hp) (rs1.upd hp) (.lst_new hp rs1 rv)⟩
  ·exact h1.elim
theorem Step.push {p:Addr}{o:HO}(hp:H p=none):Step φ H (φ++[some p]) (L2.upd H p o):=by
 refine ⟨fun b u n e=>by rw [z4 (zad e hp)];exact e,by simp,fun n a hn e=>?_,fun b h=>?_⟩
 ·rw [List.getElem?_append_left hn] at e
  exact e
 ·rw [List.mem_append] at h
  rcases h with h|h
  ·exact .inl h
  ·have:b=p:=by simpa using h
   subst this
   exact .inr hp
theorem RepS.push {K:PySem.W.Frag}{cl:Nat->Addr}{p:Addr}{u:HO}{o:Ob}(rs:RepS K cl B φ H st)(hp:H p=none)(hb:¬B p)(ho:RepO K cl B (φ++[some p]) (L2.upd H p u) o p):RepS K cl B (φ++[some p]) (L2.upd H p u) (st++[o]):=by
 have s:Step φ H (φ++[some p]) (L2.upd H p u):=.push hp
 have np:some p∉φ:=fun z=>by
  obtain ⟨w,e⟩:=rs.there z
  rw [hp] at e;cases e
 have hl:φ.length=st.length:=rs.len
 refine ⟨by simp [hl],fun m n a e1 e2=>?_,fun n a e=>?_,fun n o' e ho'=>?_,fun a h=>?_,fun a h=>?_⟩
 ·by_cases hm:m<φ.length
  ·rw [List.getElem?_append_left hm] at e1
   by_cases hn:n<φ.length
   ·rw [List.getElem?_append_left hn] at e2
    exact rs.inj m n a e1 e2
   ·rw [List.getElem?_append_right (by omega)] at e2
    have:a=p:=by
     cases q:n - φ.length with
     |zero=>rw [q] at e2;simpa using e2.symm
     |succ k=>rw [q] at e2;simp at e2
    subst this
    exact absurd (List.mem_of_getElem? e1) np
  ·rw [List.getElem?_append_right (by omega)] at e1
   have:m - φ.length=0/\a=p:=by
    cases q:m - φ.length with
    |zero=>rw [q] at e1;exact ⟨rfl,by simpa using e1.symm⟩
    |succ k=>rw [q] at e1;simp at e1
   obtain ⟨q1,rfl⟩:=this
   by_cases hn:n<φ.length
   ·rw [List.getElem?_append_left hn] at e2
    exact absurd (List.mem_of_getElem? e2) np
   ·rw [List.getElem?_append_right (by omega)] at e2
    have:n - φ.length=0:=by
     cases q:n - φ.length with
     |zero=>rfl
     |succ k=>rw [q] at e2;simp at e2
    omega
 ·by_cases hn:n<φ.length
  ·rw [List.getElem?_append_left hn] at e
   obtain ⟨o',q,r⟩:=rs.obj n a e
   refine ⟨o',by rw [List.getElem?_append_left (by omega)];exact q,r.step s ?_⟩
   rw [z4]
   rintro rfl
   exact np (List.mem_of_getElem? e)
  ·rw [List.getElem?_append_right (by omega)] at e
   have:n - φ.length=0/\a=p:=by
    cases q:n - φ.length with
    |zero=>rw [q] at e;exact ⟨rfl,by simpa using e.symm⟩
    |succ k=>rw [q] at e;simp at e
   obtain ⟨q1,rfl⟩:=this
   refine ⟨o,?_,ho⟩
   rw [List.getElem?_append_right (by omega)]
   have:n - st.length=0:=by omega
   rw [this];rfl
 ·by_cases hn:n<φ.length
  ·rw [List.getElem?_append_left (by omega)] at e
   obtain ⟨a,q⟩:=rs.liv n o' e ho'
   exact ⟨a,by rw [List.getElem?_append_left hn];exact q⟩
  ·rw [List.getElem?_append_right (by omega)] at e
   have:n - st.length=0:=by
    cases q:n - st.length with
    |zero=>rfl
    |succ k=>rw [q] at e;simp at e
   refine ⟨p,?_⟩
   rw [List.getElem?_append_right (by omega)]
   have:n - φ.length=0:=by omega
   rw [this];rfl
 ·rw [List.mem_append] at h
  rcases h with h|h
  ·exact rs.nb a h
  ·have:a=p:=by simpa using h
   subst this
   exact hb
 ·obtain ⟨w,e⟩:=rs.dom a h
  exact ⟨w,by rw [z4 (zad e hp)];exact e⟩
theorem RepS.nB {K:PySem.W.Frag}{cl:Nat->Addr}{p:Addr}(rs:RepS K cl B φ H st)(hp:H p=none):¬B p:=fun z=>by
 obtain ⟨o,e⟩:=rs.dom p z
 rw [hp] at e;cases e
theorem RepV.loc_new {K:PySem.W.Frag}{cl:Nat->Addr}{p:Addr}(rs:RepS K cl B φ H st):RepV K cl B (φ++[some p]) H1 (.loc st.length) (.ref p):=by
 simp only [RepV]
 have hl:=rs.len
 refine ⟨by simp [hl],p,rfl,fun b e=>?_⟩
 rw [List.getElem?_append_right (by omega)] at e
 have:st.length - φ.length=0:=by omega
 rw [this] at e
 simpa using e.symm
theorem zcw (h:KqA X es (tAs S X ces)):KqE X (.List es pos) (tE S X (.newl ces)):= by
 with_unfolding_all
 exact PE.imp (zmq h) fun σ H Q ⟨B,φ,st,ρ,rs,re,h⟩=>by
  simp only [ev] at h
  refine tAs.bind rs re h fun xs H1 vs st1 φ1 s1 rs1 re1 rv h1=>?_
  split at h1
  ·rename_i c
   refine ⟨by rw [<- za1,<- rv.length];exact c,fun p hp=>h1 _ _ (φ1++[some p]) (.push hp) (rs1.push hp (rs1.nB hp) ⟨xs,zal,rv.step (.push hp)⟩) (.loc_new rs1)⟩
  ·exact h1.elim
end
section
variable {S:Se}{X:Cx}{σ:St}{B:Addr->Prop}{φ φ1:Ph}{H H1:Hp}{st:Store}{ρ:IC.Env}{pos p2:Pos}{a b c d:Expr}{ca cb cc:Ce}{es:List Expr}{ces:Ces}{K:PySem.W.Frag}{cl:Nat->Addr}
theorem zm0 {o:COp}{v w:PV}{α β:Type}{Rel:Ph->Hp->α->β->Prop}{k:Bool->R α}{Q:β->Hp->Prop}(h:Run S X σ B φ H Rel (onO (blO (cmpV o v w)) k) Q):∃b,cmpV o v w=some (.bl b)/\Run S X σ B φ H Rel (k b) Q:=by
 cases e:cmpV o v w with
 |none=>rw [e] at h;exact h.elim
 |some z =>
  obtain ⟨b,rfl⟩:=zkE e
  rw [e] at h
  exact ⟨b,rfl,h⟩
theorem zfG {op op':CmpOp}{o p:COp}(ho:OpR X (compareOp op) (rT2 S X (cmpV o)))(ho':OpR X (compareOp op') (rT2 S X (cmpV p)))(ha:KqE X a (tE S X ca))(hb:KqE X b (tE S X cb))(hc:KqE X c (tE S X cc))
  (hm:lastMarks [op,op'] [b,c]=false:=by with_unfolding_all rfl):KqE X (.Compare a [op,op'] [b,c] pos) (tE S X (.chain o p ca cb cc)):= by
 with_unfolding_all
 exact PE.imp (zlT ho ho' ha hb hc hm) fun σ H Q ⟨B,φ,st,ρ,rs,re,h⟩=>by
  simp only [ev] at h
  refine tE.bind rs re h fun x H1 v st1 φ1 s1 rs1 re1 rv h1=>tE.bind rs1 re1 h1 fun y H2 w st2 φ2 s2 rs2 re2 rw h2=>?_
  obtain ⟨k,e,h2⟩:=zm0 h2
  refine ⟨B,φ2,st2,v,w,.bl k,rs2,rv.step s2,rw,e,fun z' H' φ' s' rs' rz=>?_⟩
  simp only [RepV] at rz
  refine ⟨k,rz,?_⟩
  cases k with
  |false=>exact h2 _ H' φ' s' rs' (by simp only [RepV])
  |true =>
   refine tE.bind rs' (re2.step s') (Run.on s' h2) fun z H3 v3 st3 φ3 s3 rs3 re3 rv3 h3=>?_
   obtain ⟨q,eq,hq⟩:=zc0 h3 rs3
   exact ⟨B,φ3,st3,w,v3,q,rs3,(rw.step s').step s3,rv3,eq,hq⟩
theorem RepL.at {vs:List PV}{xs:List V}{i:Int}{v:PV}(l:RepL K cl B φ H vs xs)(h:at? vs i=some v):∃x,atI xs i=some x/\RepV K cl B φ H v x:=by
 unfold at? at h
 rw [l.length] at h
 unfold atI
 cases e:ixI xs.length i with
 |none=>rw [e] at h;cases h
 |some j =>
  rw [e] at h
  have e':ixN xs.length i=some j:=e
  rw [e']
  exact l.get j h
theorem RepS.list {n:Nat}{vs:List PV}{x:V}(rs:RepS K cl B φ H st)(r:RepV K cl B φ H (.loc n) x)(h:st[n]?=some (.lst vs)):∃a xs,x=.ref a/\φ[n]?=some (some a)/\H a=some (.lst xs)/\RepL K cl B φ H vs xs:=by
 simp only [RepV] at r
 obtain ⟨hn,a,rfl,ha⟩:=r
 obtain ⟨b,hb⟩:=rs.liv n _ h (by intro z;cases z)
 obtain rfl:=ha b hb
 obtain ⟨o,ho,ro⟩:=rs.obj n b hb
 rw [h] at ho;cases ho
 obtain ⟨xs,hx,l⟩:=ro
 exact ⟨b,xs,rfl,hb,hx,l⟩
noncomputable def rTS (S:Se)(X:Cx)(f:Store->PV->PV->Option PV):R2:=fun x y H Q=>∃B φ st v w z,RepS X.K S.cl B φ H st/\RepV X.K S.cl B φ H v x/\RepV X.K S.cl B φ H w y/\f st v w=some z /\
 ∀z' H' φ',Step φ H φ' H'->RepS X.K S.cl B φ' H' st->RepV X.K S.cl B φ' H' z z'->Q z' H'
theorem zf8 {α:Type}{xs:List α}{i:PV}{z:α}(h:idxI xs i=some z):∃k,i=.int k/\at? xs k=some z:=by
 cases i with
 |int k=>exact ⟨k,rfl,h⟩
 |_=>cases h
theorem zni:IxR X (rTS S X idxV):=by
 rintro value slice pins s σ H x y v u Q I rx ry ⟨B,φ,st,a,i,z,rs,ra,ri,e,q⟩ hs
 cases a with
 |tp k vs =>
  obtain ⟨k,rfl,e⟩:=zf8 e
  simp only [RepV] at ra ri
  subst ri
  obtain ⟨p,xs,rfl,rt,l⟩:=ra
  obtain ⟨w,e1,rw⟩:=l.at e
  exact zjm value slice pins s σ H _ _ v u Q I rx ry (.inr (.inl ⟨p,xs,k,w,rfl,rfl,rt.sq,e1,q w H φ .rfl rs rw⟩)) hs
 |lst vs =>
  obtain ⟨k,rfl,e⟩:=zf8 e
  simp only [RepV] at ra ri
  subst ri
  obtain ⟨p,xs,rfl,rt,l⟩:=ra
  obtain ⟨w,e1,rw⟩:=l.at e
  exact zjm value slice pins s σ H _ _ v u Q I rx ry (.inl ⟨p,xs,k,w,rfl,rfl,rt.sq,e1,q w H φ .rfl rs rw⟩) hs
 |loc n =>
  simp only [idxV] at e
  split at e
  ·rename_i vs h1
   obtain ⟨k,rfl,e⟩:=zf8 e
   simp only [RepV] at ri
   subst ri
   obtain ⟨p,xs,rfl,_,hx,l⟩:=rs.list ra h1
   obtain ⟨w,e1,rw⟩:=l.at e
   exact zjm value slice pins s σ H _ _ v u Q I rx ry (.inl ⟨p,xs,k,w,rfl,rfl,.of hx,e1,q w H φ .rfl rs rw⟩) hs
  ·cases e
 |str t =>
  simp only [idxV] at e
  split at e
  ·rename_i hl
   cases e1:idxI t.cps.toList i with
   |none=>rw [e1] at e;cases e
   |some c =>
    rw [e1] at e
    cases e
    obtain ⟨k,rfl,e1⟩:=zf8 e1
    simp only [RepV] at ra ri
    subst ra ri
    exact zjm value slice pins s σ H _ _ v u Q I rx ry (.inr (.inr ⟨t,k,c,rfl,rfl,by rw [<- za1];exact hl,e1,q _ H φ .rfl rs (by simp only [RepV])⟩)) hs
  ·cases e
 |_=>cases e
theorem zp (ha:KqE X a (tE S X ca))(hb:KqE X b (tE S X cb))(hs:PlainIx b:=by exact fun _ _=>rfl):KqE X (.Subscript a b pos) (tE S X (.idx ca cb)):= by
 with_unfolding_all
 exact PE.imp (zo4 zni ha hb hs) fun σ H Q ⟨B,φ,st,ρ,rs,re,h⟩=>by
  simp only [ev] at h
  refine tE.bind rs re h fun x H1 v st1 φ1 s1 rs1 re1 rv h1=>tE.bind rs1 re1 h1 fun y H2 w st2 φ2 s2 rs2 re2 rw h2=>?_
  obtain ⟨z,e,q⟩:=zc0 h2 rs2
  exact ⟨B,φ2,st2,v,w,z,rs2,rv.step s2,rw,e,q⟩
theorem RepL.cut {vs:List PV}{xs:List V}(lo hi:Option Int)(l:RepL K cl B φ H vs xs):RepL K cl B φ H (IC.cut vs lo hi) (cutV xs lo hi):=by
 have e1:∀n o,loOf n o=HT.sIx n 0 o:=fun n o=>by cases o <;> rfl
 have e2:∀n o,hiOf n o=HT.sIx n n o:=fun n o=>by cases o <;> rfl
 unfold IC.cut cutV
 rw [l.length,e1,e2]
 exact (l.drop _).take _
noncomputable def tO (S:Se)(X:Cx)(c:Ce):TO:=fun σ H Q=>tE S X c σ H fun x H1=>(x=.non/\Q none H1) \/ ∃i,x=.int i/\Q (some i) H1
theorem znE:PO X none (tO S X (.cst .non)):=fun pins s σ H Q I h=>by
 refine zmD pins s σ H Q I ?_
 obtain ⟨B,φ,st,ρ,rs,re,h⟩:=h
 simp only [ev] at h
 rcases h.ok rs (x:=V.non) (by simp only [RepV]) with q|⟨i,z,_⟩
 ·exact q.2
 ·cases z
theorem zaL:KqO X none (tO S X (.cst .non)):=by with_unfolding_all exact znE
theorem zaM (ha:KqE X a (tE S X ca)):KqO X (some a) (tO S X ca):= by
 with_unfolding_all
 intro pins s σ H Q I hw
 rw [evalPart_some]
 refine thn (ha pins s σ H _ I hw) fun u s1 ⟨x,H1,I1,r1,q1⟩=>?_
 rcases q1 with ⟨rfl,q⟩|⟨i,rfl,q⟩
 ·cases r1
  exact ⟨none,H1,I1,.none,q⟩
 ·obtain ⟨t,rfl⟩:=r1
  exact ⟨some i,H1,I1,.int i t,q⟩
noncomputable def rSl (S:Se)(X:Cx):V->Option Int->Option Int->Hp->VK->Prop:=fun x lo hi H Q=>∃B φ st v z,RepS X.K S.cl B φ H st/\RepV X.K S.cl B φ H v x/\slcO v lo hi=some z /\
 ∀z' H' φ',Step φ H φ' H'->RepS X.K S.cl B φ' H' st->RepV X.K S.cl B φ' H' z z'->Q z' H'
theorem zeV {prog:Program}{w:World}{A:Around}{E:Value->Shared->Prop}{s:Shared}{t sl:Addr}{items:Array Value}{vl vu:Value}{lo hi:Option Int}{Q:Value->Shared->Prop}(ht:IsTup s.heap t items)(hs:s.heap.IsSliceOf sl vl vu .none)(pl:IsPart vl lo)(pu:IsPart vu hi)
  (hw:HT.sIx items.size 0 lo=0/\HT.sIx items.size items.size hi=items.size)
  (h:Q (.ref t) s):wpAny (model prog w) A (getItem (.ref t) (.ref sl)) Q E s:=by
 obtain ⟨os,hos,hcs,hds⟩:=id hs
 have hTs:s.TypeIs (.ref sl) "slice":=⟨os,hos,hcs⟩
 unfold getItem
 try with_reducible refine wpAny_holding ?_
 first|refine wpAny_bind (wpAny_pure ?_)|skip
 refine wpAny_bind (wpAny_sequenceKey ht.typeIs (by decide) ?_)
 refine wpAny_bind (wpAny_callSpecial?_slot (name:=Str.ofString "__getitem__") ht.typeIs PyProof.Rows.slot_tuple_getitem
  (wpAny_call_entry PyProof.Rows.slot_tuple_getitem ht.typeIs entry_tuple_getitem ?_ (args_tuple_getitem _ _)))
 show wpAny _ _ (Builtin.Tuple.tupleItemsOf (.ref t) >>= _) _ _ s
 refine wpAny_bind (PyProof.Rows.tupleItemsOf_ ht ?_)
 refine wpAny_bind (wpAny_typeOf hTs ?_)
 rw [if_pos (by decide)]
 refine wpAny_bind (HT.sliceApplied_gen hs pl pu ?_)
 have hyes:(((HT.sIx items.size 0 lo:Nat):Int) == 0 && (1:Int) == 1 && (HT.sIx items.size items.size hi - HT.sIx items.size 0 lo) == items.size)=true:=by
  rw [hw.1,hw.2]
  simp
 show wpAny _ _ (if (((HT.sIx items.size 0 lo:Nat):Int) == 0 && (1:Int) == 1 && (HT.sIx items.size items.size hi - HT.sIx items.size 0 lo) == items.size)=true then _ else _) _ _ s
 rw [if_pos hyes]
 refine wpAny_bind (wpAny_bind (wpAny_typeOf ht.typeIs (wpAny_pure ?_)))
 rw [if_pos (by decide)]
 first
  | exact wpAny_bind (wpAny_pure (wpAny_pure ⟨_,rfl,wpAny_pure h⟩))
  | exact wpAny_bind (wpAny_rule (wpAny_pure ⟨_,rfl,wpAny_pure h⟩))
  | (wp_step;wp_step;exact ⟨_,rfl,wpAny_pure h⟩)
noncomputable def rSlW (K:PySem.W.Frag):V->Option Int->Option Int->Hp->VK->Prop:=fun x lo hi H Q=>∃a xs,x=.ref a/\SqT K H a xs /\
 (HT.sIx xs.length 0 lo=0/\HT.sIx xs.length xs.length hi=xs.length)/\Q (.ref a) H
theorem zlW:SlR X (rSlW X.K):=by
 intro pins s σ H x v vl vu lo hi sl Q I rx hs pl pu h
 obtain ⟨a,xs,rfl,hx,hw,q⟩:=h
 cases rx
 obtain ⟨its,r,ht,hz⟩:=I.tuple hx
 have hlen:its.toArray.size=xs.length:=by rw [List.size_toArray];exact r.length.symm
 refine ⟨"tuple",_,PyProof.Rows.slot_tuple_getitem.lookup,ht.typeIs,?_⟩
 exact zeV ht hs pl pu (by rw [hlen];exact hw) ⟨.ref a,H,I,rfl,q⟩
noncomputable def rSlS:V->Option Int->Option Int->Hp->VK->Prop:=fun x lo hi H Q=>∃y:Str,x=.str y/\y.length<=sizeLine/\Q (.str ⟨((y.cps.toList.drop (HT.sIx y.cps.toList.length 0 lo)).take (HT.sIx y.cps.toList.length y.cps.toList.length hi - HT.sIx y.cps.toList.length 0 lo)).toArray⟩) H
theorem sIdx (lo hi:Option Int)(n:Nat):Builtin.Str.strSliceIndices lo hi 1 n=sliceRange ((HT.sIx n 0 lo:Nat):Int) ((HT.sIx n n hi:Nat):Int) 1:=by
 unfold Builtin.Str.strSliceIndices
 simp only [show (1:Int) > 0 by decide,if_true]
 congr 1
 ·cases lo with
  |none=>simp [HT.sIx]
  |some i =>
   simp only [HT.sIx]
   by_cases h:i<0
   ·simp only [h,if_true] <;> omega
   ·simp only [h,if_false] <;> omega
 ·cases hi with
  |none=>simp [HT.sIx]
  |some i =>
   simp only [HT.sIx]
   by_cases h:i<0
   ·simp only [h,if_true] <;> omega
   ·simp only [h,if_false] <;> omega
theorem zkP (y:Str)(lo hi:Option Int):Txt.slice y lo hi=⟨((y.cps.toList.drop (HT.sIx y.cps.toList.length 0 lo)).take (HT.sIx y.cps.toList.length y.cps.toList.length hi - HT.sIx y.cps.toList.length 0 lo)).toArray⟩:=by
 have hn:y.length=y.cps.toList.length:=by simp [Str.length]
 unfold Txt.slice
 rw [sIdx,hn,sliceRange_one]
 have ha:=HT.sIx_le y.cps.toList.length 0 (Nat.zero_le _) lo
 have hb:=HT.sIx_le y.cps.toList.length y.cps.toList.length (Nat.le_refl _) hi
 generalize HT.sIx y.cps.toList.length 0 lo=a at *
 generalize HT.sIx y.cps.toList.length y.cps.toList.length hi=b at *
 split
 ·rename_i c
  simp only [List.length_map,List.length_range,Bool.and_eq_true,beq_iff_eq] at c
  obtain ⟨rfl,rfl⟩:a=0/\b=y.cps.toList.length:=by omega
  rw [List.drop_zero,Nat.sub_zero,List.take_length]
 ·rw [pick_run]
theorem zny:SlR X rSlS:=by
 intro pins s σ H x v vl vu lo hi sl Q I rx hs pl pu h
 obtain ⟨y,rfl,hz,q⟩:=h
 obtain ⟨t,rfl⟩:=rx
 rw [<- zkP] at q
 refine ⟨"str",_,PySem.F.slot_str_getitem.lookup,typeIs_str _ _ _,?_⟩
 have go:∀l u:Option (Int×Tok),vl=partValue l->vu=partValue u->lo=l.map (·.1)->hi=u.map (·.1)->wpAny (model X.prog X.w) X.A (getItem (.str y t) (.ref sl)) (EP X pins σ Q) X.xe s:=by
  rintro l u rfl rfl rfl rfl
  refine wpAny_getItem_str_slice (l:=l) (u:=u) (st:=none) hs rfl ?_
  exact post_val_or_str ⟨Nat.le_trans (Txt.slice_le y _ _) hz,fun t' k=>⟨.str _,H,I.tok k,⟨_,rfl⟩,q⟩⟩
 cases pl with
 |none =>
  cases pu with
  |none=>exact go none none rfl rfl rfl rfl
  |int j u=>exact go none (some (j,u)) rfl rfl rfl rfl
 |int i t1 =>
  cases pu with
  |none=>exact go (some (i,t1)) none rfl rfl rfl rfl
  |int j u=>exact go (some (i,t1)) (some (j,u)) rfl rfl rfl rfl
theorem zmB:SlR X (rSl S X):=by
 rintro pins s σ H x v vl vu lo hi sl Q I rx hs pl pu ⟨B,φ,st,w,z,rs,rw,e,q⟩
 have e1:∀n o,loOf n o=HT.sIx n 0 o:=fun n o=>by cases o <;> rfl
 have e2:∀n o,hiOf n o=HT.sIx n n o:=fun n o=>by cases o <;> rfl
 cases w with
 |tp k vs =>
  simp only [slcO] at e
  split at e
  ·rename_i c
   cases e
   have rw':=rw
   simp only [RepV] at rw
   obtain ⟨p,xs,rfl,rt,l⟩:=rw
   refine zlW pins s σ H _ v vl vu lo hi sl Q I rx hs pl pu ⟨p,xs,rfl,rt.sq,?_,q _ H φ .rfl rs rw'⟩
   rw [l.length,e1,e2] at c
   exact c
  ·rename_i c
   cases e
   simp only [RepV] at rw
   obtain ⟨p,xs,rfl,rt,l⟩:=rw
   refine znS pins s σ H _ v vl vu lo hi sl Q I rx hs pl pu ⟨p,xs,rfl,rt.sq,?_,fun t ht=>q _ _ φ (.upd ht) (rs.upd ht) (.tup_new ht rs (l.cut lo hi))⟩
   rw [l.length,e1,e2] at c
   exact c
 |str y =>
  simp only [slcO] at e
  split at e
  ·rename_i c
   cases e
   simp only [RepV] at rw
   subst rw
   refine zny pins s σ H _ v vl vu lo hi sl Q I rx hs pl pu ⟨y,rfl,by rw [<- za1];exact c,?_⟩
   have:=q (.str ⟨(cut y.cps.toList lo hi).toArray⟩) H φ .rfl rs (by simp only [RepV])
   rw [cut,e1,e2] at this
   exact this
  ·cases e
 |lst vs =>
  simp only [slcO] at e
  cases e
  simp only [RepV] at rw
  obtain ⟨p,xs,rfl,rt,l⟩:=rw
  exact zkr pins s σ H _ v vl vu lo hi sl Q I rx hs pl pu ⟨p,xs,rfl,rt.sq,fun t ht=>q _ _ φ (.upd ht) (rs.upd ht) (.lst_new ht rs (l.cut lo hi))⟩
 |scr vs =>
  simp only [slcO] at e
  cases e
  simp only [RepV] at rw
  obtain ⟨p,xs,rfl,rt,l⟩:=rw
  exact zkr pins s σ H _ v vl vu lo hi sl Q I rx hs pl pu ⟨p,xs,rfl,(by rcases rt with rt|rt;exact .inl rt.1;exact .inr rt),fun t ht=>q _ _ φ (.upd ht) (rs.upd ht) (.lst_new ht rs (l.cut lo hi))⟩
 |_=>cases e
theorem zbp {lo hi:Option Expr}(ha:KqE X a (tE S X ca))(hl:KqO X lo (tO S X cb))(hh:KqO X hi (tO S X cc)):KqE X (.Subscript a (.Slice lo hi none p2) pos) (tE S X (.slc ca cb cc)):= by
 with_unfolding_all
 exact PE.imp (zl3 zmB ha hl hh) fun σ H Q ⟨B,φ,st,ρ,rs,re,h⟩=>by
  simp only [ev] at h
  have oi:∀{v:PV} {x:V} {o:Option Int} {B φ H},RepV X.K S.cl B φ H v x->optI v=some o->(x=.non/\o=none) \/ ∃i,x=.int i/\o=some i:=fun {v x o B φ H} r e=>by
   cases v with
   |non=>simp only [RepV] at r;cases e;exact .inl ⟨r,rfl⟩
   |int i=>simp only [RepV] at r;cases e;exact .inr ⟨i,r,rfl⟩
   |_=>cases e
  refine tE.bind rs re h fun x H1 v st1 φ1 s1 rs1 re1 rv h1=>tE.bind rs1 re1 h1 fun y H2 w st2 φ2 s2 rs2 re2 rw h2=>?_
  cases eo:optI w with
  |none=>rw [eo] at h2;exact h2.elim
  |some o1 =>
   rw [eo] at h2
   have key:tO S X cc σ H2 fun u H3=>rSl S X x o1 u H3 Q:=by
    refine tE.bind rs2 re2 h2 fun y' H3 w' st3 φ3 s3 rs3 re3 rw' h3=>?_
    obtain ⟨z,e,q⟩:=zc0 h3 rs3
    unfold slcV at e
    cases eo':optI w' with
    |none=>rw [eo'] at e;cases e
    |some o2 =>
     rw [eo'] at e
     have fin:rSl S X x o1 o2 H3 Q:=⟨B,φ3,st3,v,z,rs3,(rv.step s2).step s3,e,q⟩
     rcases oi rw' eo' with ⟨rfl,rfl⟩|⟨i,rfl,rfl⟩
     ·exact .inl ⟨rfl,fin⟩
     ·exact .inr ⟨i,rfl,fin⟩
   rcases oi rw eo with ⟨rfl,rfl⟩|⟨i,rfl,rfl⟩
   ·exact .inl ⟨rfl,key⟩
   ·exact .inr ⟨i,rfl,key⟩
end
section
variable {S:Se}{X:Cx}{σ:St}{B:Addr->Prop}{φ φ1:Ph}{H H1:Hp}{st:Store}{ρ:IC.Env}{p pos p2:Pos}{a b c d:Expr}{ca cb cc:Ce}{es:List Expr}{ces:Ces}{K:PySem.W.Frag}{cl:Nat->Addr}
noncomputable def rB (S:Se)(X:Cx)(k:Blt):List V->Hp->VK->Prop:=fun xs H Q=>∃B φ st vs z,RepS X.K S.cl B φ H st/\RepL X.K S.cl B φ H vs xs/\bltV k st vs=some z /\
 ∀z' H' φ',Step φ H φ' H'->RepS X.K S.cl B φ' H' st->RepV X.K S.cl B φ' H' z z'->Q z' H'
theorem RepL.one {v:PV}{xs:List V}(l:RepL K cl B φ H [v] xs):∃x,xs=[x]/\RepV K cl B φ H v x:=by
 simp only [RepL] at l
 obtain ⟨y,ys,rfl,r,rfl⟩:=l
 exact ⟨y,rfl,r⟩
theorem RepL.two {v w:PV}{xs:List V}(l:RepL K cl B φ H [v,w] xs):∃x y,xs=[x,y]/\RepV K cl B φ H v x/\RepV K cl B φ H w y:=by
 simp only [RepL] at l
 obtain ⟨y,ys,rfl,r,z,zs,rfl,r2,rfl⟩:=l
 exact ⟨y,z,rfl,r,r2⟩
theorem zeU {k:Blt}{st:Store}{vs:List PV}{z:PV}(h:bltV k st vs=some z)(h2:∀x y,bltV k st [x,y]=none):∃x,vs=[x]:=by
 match vs,h with
 | [x],_=>exact ⟨x,rfl⟩
 | [x,y],h=>rw [h2] at h;cases h
theorem zgk {v:PV}{x:V}{vs:List PV}(rs:RepS K cl B φ H st)(r:RepV K cl B φ H v x)(h:lstOf st v=some vs):∃a xs,x=.ref a/\SqL K H a xs/\RepL K cl B φ H vs xs:=by
 cases v with
 |lst ws =>
  cases h
  simp only [RepV] at r
  obtain ⟨a,xs,rfl,rt,l⟩:=r
  exact ⟨a,xs,rfl,rt.sq,l⟩
 |loc n =>
  simp only [lstOf] at h
  split at h
  ·rename_i ws hw
   cases h
   obtain ⟨a,xs,rfl,_,hx,l⟩:=rs.list r hw
   exact ⟨a,xs,rfl,.of hx,l⟩
  ·cases h
 |_=>cases h
theorem zj6 {v:PV}{x:V}{vs:List PV}(rs:RepS K cl B φ H st)(r:RepV K cl B φ H v x)(h:seqOf st v=some vs):∃a xs,x=.ref a/\(SqL K H a xs \/ SqT K H a xs)/\RepL K cl B φ H vs xs:=by
 cases v with
 |tp k ws =>
  cases h
  simp only [RepV] at r
  obtain ⟨a,xs,rfl,rt,l⟩:=r
  exact ⟨a,xs,rfl,.inr rt.sq,l⟩
 |lst ws =>
  obtain ⟨a,xs,e,q,l⟩:=zgk rs r (vs:=vs) h
  exact ⟨a,xs,e,.inl q,l⟩
 |loc n =>
  obtain ⟨a,xs,e,q,l⟩:=zgk rs r (vs:=vs) h
  exact ⟨a,xs,e,.inl q,l⟩
 |_=>cases h
theorem zag:CallR X (.builtin "len") (rB S X .len):=by
 rintro pins s σ H xs us Q I r ⟨B,φ,st,vs,z,rs,l,e,q⟩
 obtain ⟨v,rfl⟩:=zeU e fun _ _=>rfl
 obtain ⟨x,rfl,rv⟩:=l.one
 simp only [bltV,lenV] at e
 split at e
 ·rename_i t
  split at e
  ·rename_i c
   cases e
   simp only [RepV] at rv
   subst rv
   exact zii pins s σ H _ us Q I r ⟨t,rfl,by rw [<- za1];exact c,q _ H φ .rfl rs (by simp only [RepV])⟩
  ·cases e
 ·cases e1:seqOf st v with
  |none=>rw [e1] at e;cases e
  |some ws =>
   rw [e1] at e
   cases e
   obtain ⟨a,ys,rfl,h,l⟩:=zj6 rs rv e1
   refine zin pins s σ H _ us Q I r ⟨a,ys,rfl,?_,q _ H φ .rfl rs (by simp only [RepV];rw [l.length])⟩
   exact h
theorem zoq:CallR X (.type "int") (rB S X .int):=by
 rintro pins s σ H xs us Q I r ⟨B,φ,st,vs,z,rs,l,e,q⟩
 obtain ⟨v,rfl⟩:=zeU e fun _ _=>rfl
 obtain ⟨x,rfl,rv⟩:=l.one
 simp only [bltV] at e
 cases v with
 |int i =>
  cases e
  simp only [RepV] at rv
  subst rv
  exact zie pins s σ H _ us Q I r (.inl ⟨i,rfl,q _ H φ .rfl rs (by simp only [RepV])⟩)
 |bl k =>
  cases e
  simp only [RepV] at rv
  subst rv
  exact zie pins s σ H _ us Q I r (.inr ⟨k,rfl,q _ H φ .rfl rs (by simp only [RepV,bi])⟩)
 |_=>cases e
theorem zop:CallR X (.builtin "abs") (rB S X .abs):=by
 rintro pins s σ H xs us Q I r ⟨B,φ,st,vs,z,rs,l,e,q⟩
 obtain ⟨v,rfl⟩:=zeU e fun _ _=>rfl
 obtain ⟨x,rfl,rv⟩:=l.one
 simp only [bltV] at e
 cases v with
 |int i =>
  cases e
  simp only [RepV] at rv
  subst rv
  exact zlt pins s σ H _ us Q I r ⟨i,rfl,q _ H φ .rfl rs (by simp only [RepV])⟩
 |_=>cases e
theorem zm3 {k:Blt}{st:Store}{vs:List PV}{z:PV}(h:bltV k st vs=some z)(h2:∀x,bltV k st [x]=none):∃x y,vs=[x,y]:=by
 match vs,h with
 | [x,y],_=>exact ⟨x,y,rfl⟩
 | [x],h=>rw [h2] at h;cases h
theorem zn7 (hc:X.calm=true):CallR X (.builtin "min") (rB S X .min):=by
 rintro pins s σ H xs us Q I r ⟨B,φ,st,vs,z,rs,l,e,q⟩
 obtain ⟨v,w,rfl⟩:=zm3 e fun _=>rfl
 obtain ⟨x,y,rfl,rv,rw⟩:=l.two
 simp only [bltV,minV] at e
 split at e
 ·cases e
  simp only [RepV] at rv rw
  subst rv rw
  exact zkj hc pins s σ H _ us Q I r ⟨_,_,rfl,q _ H φ .rfl rs (by simp only [RepV])⟩
 ·cases e
theorem zmm:∀{vs:List PV} {m:Int},maxI vs=some m->∃ns:List Int,vs=ns.map .int/\m∈ns/\∀a∈ns,a<=m
 | [],m,h=>by cases h
 | [.int i],m,h=>by cases h;exact ⟨[i],rfl,by simp,by simp⟩
 | .int i::w::r,m,h=>by
  simp only [maxI] at h
  split at h
  ·rename_i c e
   cases h
   obtain ⟨ns,e1,e2,e3⟩:=zmm e
   refine ⟨i::ns,by rw [e1];rfl,?_,fun a ha=>?_⟩
   ·split
    ·exact List.mem_cons_of_mem _ e2
    ·exact List.mem_cons_self
   ·rcases List.mem_cons.mp ha with rfl|ha
    ·split <;> omega
    ·have:=e3 a ha
     split <;> omega
  ·cases h
 | .non::r,m,h=>by cases r <;> cases h
 | .bl _::r,m,h=>by cases r <;> cases h
 | .str _::r,m,h=>by cases r <;> cases h
 | .tp _ _::r,m,h=>by cases r <;> cases h
 | .lst _::r,m,h=>by cases r <;> cases h
 | .loc _::r,m,h=>by cases r <;> cases h
 | .exn _::r,m,h=>by cases r <;> cases h
 | .scr _::r,m,h=>by cases r <;> cases h
theorem RepL.ints:∀{ns:List Int} {xs:List V},RepL K cl B φ H (ns.map .int) xs->xs=ns.map V.int
 | [],xs,h=>by simpa only [List.map_nil,RepL] using h
 |n::ns,xs,h=>by
  simp only [List.map_cons,RepL] at h
  obtain ⟨y,ys,rfl,r,l⟩:=h
  simp only [RepV] at r
  rw [r,RepL.ints l]
  rfl
theorem RepL.bls:∀{ns:List Bool} {xs:List V},RepL K cl B φ H (ns.map .bl) xs->xs=ns.map V.bl
 | [],xs,h=>by simpa only [List.map_nil,RepL] using h
 |n::ns,xs,h=>by
  simp only [List.map_cons,RepL] at h
  obtain ⟨y,ys,rfl,r,l⟩:=h
  simp only [RepV] at r
  rw [r,RepL.bls l]
  rfl
theorem zmT {v w z:PV}(e:maxV v w=some z):∃i j,v=.int i/\w=.int j/\z=.int (if i<j then j else i):=by
 unfold maxV at e
 split at e
 ·exact ⟨_,_,rfl,rfl,(Option.some.inj e).symm⟩
 ·cases e
theorem zmd (hc:X.calm=true):CallR X (.builtin "max") (rB S X .max):=by
 rintro pins s σ H xs us Q I r ⟨B,φ,st,vs,z,rs,l,e,q⟩
 rcases vs with _|⟨v,_|⟨w,_|⟨u',t⟩⟩⟩
 ·simp [bltV] at e
 ·obtain ⟨x,rfl,rv⟩:=l.one
  simp only [bltV] at e
  cases e1:lstOf st v with
  |none=>rw [e1] at e;cases e
  |some ws =>
   rw [e1] at e
   simp only [Option.bind_some] at e
   cases e2:maxI ws with
   |none=>rw [e2] at e;cases e
   |some m =>
    rw [e2] at e
    obtain rfl:=Option.some.inj e
    obtain ⟨ns,rfl,hm,hb⟩:=zmm e2
    obtain ⟨a,ys,rfl,h,l⟩:=zgk rs rv e1
    rw [l.ints] at h
    refine zkY hc pins s σ H _ us Q I r ⟨a,ns,rfl,h,List.length_pos_of_mem hm,fun M h1 h2=>?_⟩
    have:M=m:=by
     have:=hb M h1
     have:=h2 m hm
     omega
    subst this
    exact q _ H φ .rfl rs (by simp only [RepV])
 ·obtain ⟨x,y,rfl,rv,rw⟩:=l.two
  have e:maxV v w=some z:=e
  obtain ⟨i,j,rfl,rfl,rfl⟩:=zmT e
  simp only [RepV] at rv rw
  subst rv rw
  exact zlb hc pins s σ H _ us Q I r ⟨i,j,rfl,q (.int (if i<j then j else i)) H φ .rfl rs (by simp only [RepV])⟩
 ·simp [bltV] at e
theorem zcO:CallR X (.type "tuple") (rB S X .tuple):=by
 rintro pins s σ H xs us Q I r ⟨B,φ,st,vs,z,rs,l,e,q⟩
 obtain ⟨v,rfl⟩:=zeU e fun _ _=>rfl
 obtain ⟨x,rfl,rv⟩:=l.one
 simp only [bltV,tupV] at e
 split at e
 ·cases e
  simp only [RepV] at rv
  obtain ⟨a,ys,rfl,rt,l⟩:=rv
  exact ze2 pins s σ H _ us Q I r ⟨a,ys,rfl,.inr ⟨rt.sq,q _ H φ .rfl rs (by simp only [RepV];exact ⟨a,ys,rfl,rt,l⟩)⟩⟩
 ·cases e1:lstOf st v with
  |none=>rw [e1] at e;cases e
  |some ws =>
   rw [e1] at e
   cases e
   obtain ⟨a,ys,rfl,h,l⟩:=zgk rs rv e1
   exact ze2 pins s σ H _ us Q I r ⟨a,ys,rfl,.inl ⟨h,fun t ht=>q _ _ φ (.upd ht) (rs.upd ht) (.tup_new ht rs l)⟩⟩
theorem zm5:CallR X (.type "list") (rB S X .list):=by
 rintro pins s σ H xs us Q I r ⟨B,φ,st,vs,z,rs,l,e,q⟩
 obtain ⟨v,rfl⟩:=zeU e fun _ _=>rfl
 obtain ⟨x,rfl,rv⟩:=l.one
 simp only [bltV] at e
 cases e1:seqOf st v with
 |none=>rw [e1] at e;cases e
 |some ws =>
  rw [e1] at e
  cases e
  obtain ⟨a,ys,rfl,h,l⟩:=zj6 rs rv e1
  refine zfP pins s σ H _ us Q I r ⟨a,ys,rfl,?_,fun t ht=>q _ _ φ (.upd ht) (rs.upd ht) (.lst_new ht rs l)⟩
  exact h
theorem zmt:∀{vs:List PV} {m:Bool},IC.allB vs=some m->∃ns:List Bool,vs=ns.map .bl/\m=ns.all id
 | [],m,h=>by cases h;exact ⟨[],rfl,rfl⟩
 | .bl i::r,m,h=>by
  simp only [IC.allB] at h
  split at h
  ·rename_i c e
   cases h
   obtain ⟨ns,e1,e2⟩:=zmt e
   exact ⟨i::ns,by rw [e1];rfl,by rw [e2];rfl⟩
  ·cases h
 | .non::r,m,h=>by cases h
 | .int _::r,m,h=>by cases h
 | .str _::r,m,h=>by cases h
 | .tp _ _::r,m,h=>by cases h
 | .lst _::r,m,h=>by cases h
 | .loc _::r,m,h=>by cases h
 | .exn _::r,m,h=>by cases h
 | .scr _::r,m,h=>by cases h
theorem zft (hc:X.calm=true):CallR X (.builtin "all") (rB S X .all):=by
 rintro pins s σ H xs us Q I r ⟨B,φ,st,vs,z,rs,l,e,q⟩
 obtain ⟨v,rfl⟩:=zeU e fun _ _=>rfl
 obtain ⟨x,rfl,rv⟩:=l.one
 simp only [bltV] at e
 cases e1:lstOf st v with
 |none=>rw [e1] at e;cases e
 |some ws =>
  rw [e1] at e
  simp only [Option.bind_some] at e
  cases e2:IC.allB ws with
  |none=>rw [e2] at e;cases e
  |some m =>
   rw [e2] at e
   cases e
   obtain ⟨ns,rfl,rfl⟩:=zmt e2
   obtain ⟨a,ys,rfl,h,l⟩:=zgk rs rv e1
   rw [l.bls] at h
   exact zly hc pins s σ H _ us Q I r ⟨a,ns,rfl,h,q _ H φ .rfl rs (by simp only [RepV])⟩
variable {x:Str}{id T:String}{k:Blt}
theorem zF (hc:CallR X (.builtin id) (rB S X k))(hg:Gl X x)(hm:X.mg x=none)(hv:bootBuiltins x=some (.builtin id))(ha:KqA X (a::es) (tAs S X ces))(hn:x ≠ "__name__":=by decide)(hdb:(x == ("__debug__":Str))=false:=by decide)
  (he:starEach (a::es) X.env=(false,eval a X.env)::starEach es X.env:=by rfl) (hpl:(backTo pos (starEach es X.env)).any (·.1)=false:=by rfl):KqE X (.Call (.Name x p) (a::es) [] pos) (tE S X (.blt k ces)):= by
 with_unfolding_all
 exact PE.imp (zi4 hc hg hm hv ha hn hdb he hpl) fun σ H Q ⟨B,φ,st,ρ,rs,re,h⟩=>by
  simp only [ev] at h
  refine tAs.bind rs re h fun xs H1 vs st1 φ1 s1 rs1 re1 rv h1=>?_
  obtain ⟨z,e,q⟩:=zc0 h1 rs1
  exact ⟨B,φ1,st1,vs,z,rs1,rv,e,q⟩
theorem zbF (hc:CallR X (.type T) (rB S X k))(hg:Gl X x)(hm:X.mg x=none)(hv:bootBuiltins x=some (.type T))(ha:KqA X (a::es) (tAs S X ces))(hn:x ≠ "__name__":=by decide)(hdb:(x == ("__debug__":Str))=false:=by decide)
  (he:starEach (a::es) X.env=(false,eval a X.env)::starEach es X.env:=by rfl) (hpl:(backTo pos (starEach es X.env)).any (·.1)=false:=by rfl):KqE X (.Call (.Name x p) (a::es) [] pos) (tE S X (.blt k ces)):= by
 with_unfolding_all
 exact PE.imp (zir hc hg hm hv ha hn hdb he hpl) fun σ H Q ⟨B,φ,st,ρ,rs,re,h⟩=>by
  simp only [ev] at h
  refine tAs.bind rs re h fun xs H1 vs st1 φ1 s1 rs1 re1 rv h1=>?_
  obtain ⟨z,e,q⟩:=zc0 h1 rs1
  exact ⟨B,φ1,st1,vs,z,rs1,rv,e,q⟩
end
section
variable {S:Se}{X:Cx}{σ:St}{B:Addr->Prop}{φ φ1:Ph}{H H1:Hp}{st:Store}{ρ:IC.Env}{p pos p2 apos:Pos}{a b c d:Expr}{ca cb cc:Ce}{es:List Expr}{ces:Ces}{K:PySem.W.Frag}{cl:Nat->Addr}
theorem Step.put {l:Addr}{u:HO}(hl:some l∈φ):Step φ H φ (L2.upd H l u) :=
 ⟨fun b o n e=>by rw [z4 (show b≠l from fun z=>n (by rw [z];exact hl))];exact e,Nat.le_refl _,fun _ _ _ e=>e,fun _ h=>.inl h⟩
theorem RepS.put {n:Nat}{l:Addr}{u:HO}{o:Ob}(rs:RepS K cl B φ H st)(hn:φ[n]?=some (some l))(ho:RepO K cl B φ (L2.upd H l u) o l):RepS K cl B φ (L2.upd H l u) (st.set n o):=by
 have hm:some l∈φ:=List.mem_of_getElem? hn
 have s:Step φ H φ (L2.upd H l u):=.put hm
 have hlt:n<st.length:=by rw [<- rs.len];exact (List.getElem?_eq_some_iff.mp hn).1
 refine ⟨by rw [List.length_set];exact rs.len,rs.inj,fun m a e=>?_,fun m o' e ho'=>?_,rs.nb,fun a h=>?_⟩
 ·by_cases hmn:m=n
  ·subst hmn
   rw [hn] at e;cases e
   exact ⟨o,by rw [List.getElem?_set_self hlt],ho⟩
  ·obtain ⟨o',q,r⟩:=rs.obj m a e
   refine ⟨o',by rw [List.getElem?_set_ne (Ne.symm hmn)];exact q,r.step s ?_⟩
   rw [z4]
   rintro rfl
   exact hmn (rs.inj m n a e hn)
 ·by_cases hmn:m=n
  ·subst hmn
   exact ⟨l,hn⟩
  ·rw [List.getElem?_set_ne (Ne.symm hmn)] at e
   exact rs.liv m o' e ho'
 ·obtain ⟨w,e⟩:=rs.dom a h
  by_cases z:a=l
  ·subst z;exact ⟨u,zal⟩
  ·exact ⟨w,by rw [z4 z];exact e⟩
theorem million:1000000<=sizeLine:=by rw [sizeLine_eq];decide
theorem ziA {m:Mth}{v:PV}{st:Store}{α β:Type}{Rel:Ph->Hp->α->β->Prop}{k:Bool->R α}{Q:β->Hp->Prop}(h:Run S X σ B φ H Rel (onO (mthOk m st v) k) Q):∃b,mthOk m st v=some b/\Run S X σ B φ H Rel (k b) Q:=by
 cases e:mthOk m st v with
 |none=>rw [e] at h;exact h.elim
 |some z=>rw [e] at h;exact ⟨z,rfl,h⟩
theorem zbI (ha:KqE X a (tE S X ca))(hb:KqE X b (tE S X cb))(hs:starEach [b] X.env=[(false,eval b X.env)]:=by rfl)(hbase:attributeBase a "append" X.env (eval a X.env)=eval a X.env:=by rfl)(hline:(apos.endLine == pos.line)=true:=by rfl)
  (hfew:((backTo pos (starEach [b] X.env)).all (fun x=>!x.1) && (backToKw pos (keywordEach [] X.env)).all (fun x=>x.1.isSome) && decide (([b]:List Expr).length+([]:List Keyword).length+(if ([]:List Keyword).isEmpty then 0 else 1)<30))=true:=by rfl) :
  KqE X (.Call (.Attribute a "append" apos) [b] [] pos) (tE S X (.mth .append ca (.cons cb .nil))):= by
 with_unfolding_all
 exact PE.imp (znL PySem.F.plainAttrs_list PySem.F.slot_list_append PySem.F.type_list_append zh6 ha (ziF (S:=S) hb zlf hs) hbase hfew hline hs rfl) fun σ H Q ⟨B,φ,st,ρ,rs,re,h⟩=>by
  simp only [ev] at h
  refine tE.bind rs re h fun x H1 v st1 φ1 s1 rs1 re1 rv h1=>?_
  obtain ⟨_,e1,h1⟩:=ziA h1
  have t1:∃ws,lstOf st1 v=some ws:=by
   simp only [mthOk] at e1
   cases q:lstOf st1 v with
   |none=>rw [q] at e1;cases e1
   |some ws=>exact ⟨ws,rfl⟩
  obtain ⟨ws,t1⟩:=t1
  obtain ⟨l,xs,rfl,hl,_⟩:=zgk rs1 rv t1
  refine ⟨.inl ⟨rfl,xs,hl⟩,tAs.bind rs1 re1 h1 fun ys H2 vs st2 φ2 s2 rs2 re2 rvs h2=>?_⟩
  have rv2:=rv.step s2
  rcases vs with _|⟨w,_|⟨w',t⟩⟩
  ·exact h2.elim
  ·obtain ⟨y,rfl,rw⟩:=rvs.one
   simp only [mthV,appV] at h2
   split at h2
   ·rename_i n
    split at h2
    ·rename_i zs hz
     split at h2
     ·rename_i c
      obtain ⟨l',xs',e,hn,hx,lr⟩:=rs2.list rv2 hz
      cases e
      refine ⟨l,xs',y,rfl,rfl,hx,by have:=million;have:=lr.length;omega,?_⟩
      exact h2 _ _ φ2 (.put (List.mem_of_getElem? hn)) (rs2.put hn ⟨_,zal,(lr.append (by simp only [RepL];exact ⟨y,[],rfl,rw,rfl⟩)).step (.put (List.mem_of_getElem? hn))⟩) (by simp only [RepV])
     ·exact h2.elim
    ·exact h2.elim
   ·exact h2.elim
  ·exact h2.elim
theorem zeY (ha:KqE X a (tE S X ca))(hb:KqE X b (tE S X cb))(hs:starEach [b] X.env=[(false,eval b X.env)]:=by rfl)(hbase:attributeBase a "extend" X.env (eval a X.env)=eval a X.env:=by rfl)(hline:(apos.endLine == pos.line)=true:=by rfl)
  (hfew:((backTo pos (starEach [b] X.env)).all (fun x=>!x.1) && (backToKw pos (keywordEach [] X.env)).all (fun x=>x.1.isSome) && decide (([b]:List Expr).length+([]:List Keyword).length+(if ([]:List Keyword).isEmpty then 0 else 1)<30))=true:=by rfl) :
  KqE X (.Call (.Attribute a "extend" apos) [b] [] pos) (tE S X (.mth .extend ca (.cons cb .nil))):= by
 with_unfolding_all
 exact PE.imp (znL PySem.F.plainAttrs_list PySem.F.slot_list_extend PySem.F.type_list_extend zkH ha (ziF (S:=S) hb zlf hs) hbase hfew hline hs rfl) fun σ H Q ⟨B,φ,st,ρ,rs,re,h⟩=>by
  simp only [ev] at h
  refine tE.bind rs re h fun x H1 v st1 φ1 s1 rs1 re1 rv h1=>?_
  obtain ⟨_,e1,h1⟩:=ziA h1
  have t1:∃ws,lstOf st1 v=some ws:=by
   simp only [mthOk] at e1
   cases q:lstOf st1 v with
   |none=>rw [q] at e1;cases e1
   |some ws=>exact ⟨ws,rfl⟩
  obtain ⟨ws,t1⟩:=t1
  obtain ⟨l,xs,rfl,hl,_⟩:=zgk rs1 rv t1
  refine ⟨.inl ⟨rfl,xs,hl⟩,tAs.bind rs1 re1 h1 fun ys H2 vs st2 φ2 s2 rs2 re2 rvs h2=>?_⟩
  have rv2:=rv.step s2
  rcases vs with _|⟨w,_|⟨w',t⟩⟩
  ·exact h2.elim
  ·obtain ⟨y,rfl,rw⟩:=rvs.one
   simp only [mthV,extV] at h2
   split at h2
   ·rename_i n
    split at h2
    ·rename_i zs hz
     split at h2
     ·rename_i ks
      split at h2
      ·rename_i c
       obtain ⟨l',xs',e,hn,hx,lr⟩:=rs2.list rv2 hz
       cases e
       simp only [RepV] at rw
       obtain ⟨b',ys',rfl,rl,lr2⟩:=rw
       refine ⟨l,b',xs',ys',rfl,rfl,hx,rl.1,by have:=million;have:=lr.length;have:=lr2.length;omega,?_⟩
       exact h2 _ _ φ2 (.put (List.mem_of_getElem? hn)) (rs2.put hn ⟨_,zal,(lr.append lr2).step (.put (List.mem_of_getElem? hn))⟩) (by simp only [RepV])
      ·exact h2.elim
     ·exact h2.elim
    ·exact h2.elim
   ·exact h2.elim
  ·exact h2.elim
theorem zlV (ha:KqE X a (tE S X ca)):KqE X a (tE S X (.frz ca)):= by
 with_unfolding_all
 exact ha.imp fun σ H Q ⟨B,φ,st,ρ,rs,re,h⟩=>by
  simp only [ev] at h
  refine tE.bind rs re h fun x H1 v st1 φ1 s1 rs1 re1 rv h1=>?_
  unfold frzV at h1
  split at h1
  ·rename_i n
   split at h1
   ·rename_i vs hv
    obtain ⟨l,xs,rfl,hn,hx,lr⟩:=rs1.list rv hv
    have hm:some l∈φ1:=List.mem_of_getElem? hn
    have hlt:n<φ1.length:=(List.getElem?_eq_some_iff.mp hn).1
    have nl:some l∉φ1.set n none:=fun z=>by
     obtain ⟨m,e⟩:=List.mem_iff_getElem?.mp z
     by_cases hmn:m=n
     ·subst hmn
      rw [List.getElem?_set_self hlt] at e;cases e
     ·rw [List.getElem?_set_ne (Ne.symm hmn)] at e
      exact hmn (rs1.inj m n l e hn)
    have sb:∀b,some b∈φ1.set n none->some b∈φ1:=fun b z=>by
     obtain ⟨m,e⟩:=List.mem_iff_getElem?.mp z
     by_cases hmn:m=n
     ·subst hmn
      rw [List.getElem?_set_self hlt] at e;cases e
     ·rw [List.getElem?_set_ne (Ne.symm hmn)] at e
      exact List.mem_of_getElem? e
    have s:Step φ1 H1 (φ1.set n none) H1:=⟨fun _ _ _ e=>e,by simp,fun m a hm' e=>by
     by_cases hmn:m=n
     ·subst hmn
      rw [List.getElem?_set_self hlt] at e;cases e
     ·rw [List.getElem?_set_ne (Ne.symm hmn)] at e
      exact e,fun b z=>.inl (sb b z)⟩
    refine h1 _ H1 (φ1.set n none) s ⟨by simp [rs1.len],fun m k a e1 e2=>?_,fun m a e=>?_,fun m o e ho=>?_,fun a z=>rs1.nb a (sb a z),rs1.dom⟩ ?_
    ·by_cases h1':m=n
     ·subst h1';rw [List.getElem?_set_self hlt] at e1;cases e1
     ·by_cases h2':k=n
      ·subst h2';rw [List.getElem?_set_self hlt] at e2;cases e2
      ·rw [List.getElem?_set_ne (Ne.symm h1')] at e1
       rw [List.getElem?_set_ne (Ne.symm h2')] at e2
       exact rs1.inj m k a e1 e2
    ·by_cases hmn:m=n
     ·subst hmn;rw [List.getElem?_set_self hlt] at e;cases e
     ·rw [List.getElem?_set_ne (Ne.symm hmn)] at e
      obtain ⟨o,q,r⟩:=rs1.obj m a e
      exact ⟨o,by rw [List.getElem?_set_ne (Ne.symm hmn)];exact q,r.step s rfl⟩
    ·by_cases hmn:m=n
     ·subst hmn
      rw [List.getElem?_set_self (by rw [<- rs1.len];exact hlt)] at e;cases e
      exact absurd rfl ho
     ·rw [List.getElem?_set_ne (Ne.symm hmn)] at e ⊢
      exact rs1.liv m o e ho
    ·simp only [RepV]
     exact ⟨l,xs,rfl,⟨hx,rs1.nb l hm,nl⟩,lr.step s⟩
   ·exact h1.elim
  ·exact h1.ok rs1 rv
end
section
variable (S:Se)(X:Cx)
def RunF (B:Addr->Prop)(φ:Ph)(H:Hp)(f:Fl)(D:Ends):Prop :=
 match f with
 | .nx ρ' st'=>∀σ' H' φ',Step φ H φ' H'->RepS X.K S.cl B φ' H' st'->RepE X.K S.cl B φ' H' ρ' σ'->D.nx σ' H'
 | .rt v st'=>∀x H' φ',Step φ H φ' H'->RepS X.K S.cl B φ' H' st'->RepV X.K S.cl B φ' H' v x->D.rt x H'
 | .bk ρ' st'=>∀σ' H' φ',Step φ H φ' H'->RepS X.K S.cl B φ' H' st'->RepE X.K S.cl B φ' H' ρ' σ'->D.bk σ' H'
 | .ct ρ' st'=>∀σ' H' φ',Step φ H φ' H'->RepS X.K S.cl B φ' H' st'->RepE X.K S.cl B φ' H' ρ' σ'->D.ct σ' H'
 | .exc k ρ' st'=>∀σ' φ1 H1 e s',Step φ H φ1 H1->RepE X.K S.cl B φ1 H1 ρ' σ'->ExcAt S X σ' B φ1 H1 k st' e s'->X.xe e s'
 | .bad=>False
noncomputable def tS (c:Cs):TS:=fun D σ H=>∃B φ st ρ,RepS X.K S.cl B φ H st/\RepE X.K S.cl B φ H ρ σ/\RunF S X B φ H (ex S.call ρ st c) D
noncomputable def tSs (c:Css):TS:=fun D σ H=>∃B φ st ρ,RepS X.K S.cl B φ H st/\RepE X.K S.cl B φ H ρ σ/\RunF S X B φ H (exs S.call ρ st c) D
end
section
variable {S:Se}{X:Cx}{σ:St}{B:Addr->Prop}{φ φ1:Ph}{H H1:Hp}{st:Store}{ρ:IC.Env}{D:Ends}{pos p2 px:Pos}{a b c o:Expr}{ca cb cc:Ce}{s1:Stmt}{ss ss':List Stmt}{c1:Cs}{cs cs':Css}
theorem RunF.on {f:Fl}(s:Step φ H φ1 H1)(h:RunF S X B φ H f D):RunF S X B φ1 H1 f D:=by
 cases f with
 |nx ρ st=>exact fun σ' H' φ' t=>h σ' H' φ' (s.trans t)
 |rt ρ st=>exact fun σ' H' φ' t=>h σ' H' φ' (s.trans t)
 |bk ρ st=>exact fun σ' H' φ' t=>h σ' H' φ' (s.trans t)
 |ct ρ st=>exact fun σ' H' φ' t=>h σ' H' φ' (s.trans t)
 |exc k ρ st=>exact fun σ' φ2 H2 e s' t=>h σ' φ2 H2 e s' (s.trans t)
 |bad=>exact h
theorem tE.fl {k:PV->Store->Fl}{P:V->Hp->Prop}(rs:RepS X.K S.cl B φ H st)(re:RepE X.K S.cl B φ H ρ σ)(h:RunF S X B φ H ((ev S.call ρ st ca).fl ρ k) D)
  (n:∀x H1 v st1 φ1,Step φ H φ1 H1->RepS X.K S.cl B φ1 H1 st1->RepE X.K S.cl B φ1 H1 ρ σ->RepV X.K S.cl B φ1 H1 v x->RunF S X B φ1 H1 (k v st1) D->P x H1):tE S X ca σ H P:=by
 refine ⟨B,φ,st,ρ,rs,re,?_⟩
 cases e:ev S.call ρ st ca with
 |ok v st' =>
  rw [e] at h
  exact fun x H' φ' s rs' rv=>n x H' v st' φ' s rs' (re.step s) rv (h.on s)
 |exc k st' =>
  rw [e] at h
  exact fun e s' x=>h σ φ H e s' .rfl re x
 |bad=>rw [e] at h;exact h
theorem PS.imp {t t':TS}(h:PS X s1 t')(k:∀D σ H,t D σ H->t' D σ H):PS X s1 t:=fun pins s σ H D I q=>h pins s σ H D I (k D σ H q)
theorem PSs.imp {t t':TS}(h:PSs X ss t')(k:∀D σ H,t D σ H->t' D σ H):PSs X ss t:=fun pins s σ H D I q=>h pins s σ H D I (k D σ H q)
theorem RepE.set {K:PySem.W.Frag}{cl:Nat->Addr}(r:RepE K cl B φ H ρ σ)(i:Nat){v:PV}{x:V}(rv:RepV K cl B φ H v x):RepE K cl B φ H (ρ.set i (some v)) (σ.set i (some x)):=by
 refine ⟨by rw [List.length_set,List.length_set];exact r.len,fun j w e=>?_⟩
 by_cases h:j=i
 ·subst h
  by_cases hl:j<ρ.length
  ·rw [List.getElem?_set_self hl] at e
   cases e
   exact ⟨x,by rw [List.getElem?_set_self (by rw [<- r.len];exact hl)],rv⟩
  ·rw [List.getElem?_eq_none (by rw [List.length_set];omega)] at e
   cases e
 ·rw [List.getElem?_set_ne (Ne.symm h)] at e ⊢
  exact r.get j w e
theorem zoc:PSs X [] (tSs S X .nil):=pss_nil.imp fun D σ H ⟨B,φ,st,ρ,rs,re,h⟩=>by
 simp only [exs] at h
 exact h σ H φ .rfl rs re
theorem zl:KqSs X [] (tSs S X .nil):=by with_unfolding_all exact zoc
theorem zh (h1:KqS X s1 (tS S X c1))(h2:KqSs X ss (tSs S X cs)):KqSs X (s1::ss) (tSs S X (.cons c1 cs)):= by
 with_unfolding_all
 exact PSs.imp (zlS h1 h2) fun D σ H ⟨B,φ,st,ρ,rs,re,h⟩=>by
  simp only [exs] at h
  refine ⟨B,φ,st,ρ,rs,re,?_⟩
  cases e:ex S.call ρ st c1 with
  |nx ρ1 st1 =>
   rw [e] at h
   exact fun σ' H' φ' s rs' re'=>⟨B,φ',st1,ρ1,rs',re',h.on s⟩
  |rt v st1=>rw [e] at h;exact h
  |bk ρ1 st1=>rw [e] at h;exact h
  |ct ρ1 st1=>rw [e] at h;exact h
  |exc k ρ1 st1=>rw [e] at h;exact h
  |bad=>rw [e] at h;exact h
theorem zbq (he:KqE X a (tE S X ca))(hs:swapsWith a none pos.line X.env=pure false:=by rfl):KqS X (.Expr a pos) (tS S X (.expr ca)):= by
 with_unfolding_all
 exact PS.imp (zmW he hs) fun D σ H ⟨B,φ,st,ρ,rs,re,h⟩=>by
  simp only [ex] at h
  exact tE.fl rs re h fun x H1 v st1 φ1 s rs1 re1 rv h1=>h1 σ H1 φ1 .rfl rs1 re1
theorem zu (he:KqE X a (tE S X ca)):KqS X (.Return (some a) pos) (tS S X (.ret ca)):= by
 with_unfolding_all
 exact PS.imp (zoh he) fun D σ H ⟨B,φ,st,ρ,rs,re,h⟩=>by
  simp only [ex] at h
  exact tE.fl rs re h fun x H1 v st1 φ1 s rs1 re1 rv h1=>h1 x H1 φ1 .rfl rs1 rv
theorem zH {i:Nat}{x:Str}(hN:X.N.Nodup)(hi:X.N[i]?=some x)(hx:Loc X.env.scope x)(he:KqE X a (tE S X ca))(hs:swapsWith a (some (.Name x px)) pos.line X.env=pure false:=by rfl)
  (hf:X.fn x=true \/ X.env.scope.names.lookup x=some .local:=by first|exact .inl rfl|exact .inr rfl|assumption):KqS X (.Assign [.Name x px] a pos) (tS S X (.asg (.n i) ca)):= by
 with_unfolding_all
 exact PS.imp (zof hN hi hx he hs hf) fun D σ H ⟨B,φ,st,ρ,rs,re,h⟩=>by
  simp only [ex] at h
  exact tE.fl rs re h fun x H1 v st1 φ1 s rs1 re1 rv h1=>h1 _ H1 φ1 .rfl rs1 (re1.set i rv)
theorem flT (r:R PV)(f:Bool->Store->Fl):(r.fl ρ fun x st1=>onF (truV st1 x) fun k=>f k st1)=(truR r).fl ρ f:=by
 cases r with
 |ok v s =>
  simp only [R.fl,truR,R.bind]
  cases truV s v <;> rfl
 |exc c s=>rfl
 |bad=>rfl
theorem tTs.fl {k:Bool->Store->Fl}{P:Bool->Hp->Prop}(rs:RepS X.K S.cl B φ H st)(re:RepE X.K S.cl B φ H ρ σ)(h:RunF S X B φ H ((truR (ev S.call ρ st ca)).fl ρ k) D)
  (n:∀b H1 st1 φ1,Step φ H φ1 H1->RepS X.K S.cl B φ1 H1 st1->RepE X.K S.cl B φ1 H1 ρ σ->RunF S X B φ1 H1 (k b st1) D->P b H1):tTs S X ca σ H P:=by
 refine ⟨B,φ,st,ρ,rs,re,?_⟩
 cases e:truR (ev S.call ρ st ca) with
 |ok v st' =>
  rw [e] at h
  exact fun x H' φ' s rs' rv=>by
   subst rv
   exact n v H' st' φ' s rs' (re.step s) (h.on s)
 |exc k st' =>
  rw [e] at h
  exact fun e s' x=>h σ φ H e s' .rfl re x
 |bad=>rw [e] at h;exact h
theorem zL (hc:KqT X c (tTs S X cc))(ha:KqSs X ss (tSs S X cs))(hb:KqSs X ss' (tSs S X cs')):KqS X (.If c ss ss' pos) (tS S X (.ite cc cs cs')):= by
 with_unfolding_all
 exact PS.imp (zoU hc ha hb) fun D σ H ⟨B,φ,st,ρ,rs,re,h⟩=>by
  simp only [ex] at h
  rw [flT _ fun k st1=>cond k (exs S.call ρ st1 cs) (exs S.call ρ st1 cs')] at h
  refine tTs.fl rs re h fun k H1 st1 φ1 s rs1 re1 h1=>?_
  cases k with
  |true=>exact ⟨B,φ1,st1,ρ,rs1,re1,h1⟩
  |false=>exact ⟨B,φ1,st1,ρ,rs1,re1,h1⟩
theorem zlp {i:Nat}{x:Str}{op:Operator}{bo:BOp}(hN:X.N.Nodup)(hi:X.N[i]?=some x)(hx:Loc X.env.scope x)(he:KqE X a (tE S X ca))(ho:PIp X op (rT2 S X (augV bo)))
  (hf:X.fn x=true \/ X.env.scope.names.lookup x=some .local:=by first|exact .inl rfl|exact .inr rfl|assumption) (hd:(x == ("__debug__":Str))=false:=by decide) (hcd:(x == ("__classdict__":Str))=false:=by decide):KqS X (.AugAssign (.Name x px) op a pos) (tS S X (.aug i bo ca)):= by
 with_unfolding_all
 exact PS.imp (zoa hN hi hx he ho hf) fun D σ H ⟨B,φ,st,ρ,rs,re,h⟩=>by
  simp only [ex] at h
  cases q:ρ[i]? with
  |none=>rw [q] at h;exact h.elim
  |some w =>
   cases w with
   |none=>rw [q] at h;exact h.elim
   |some w =>
    rw [q] at h
    obtain ⟨y,hy,rw⟩:=re.get i w q
    refine ⟨y,hy,tE.fl rs re h fun z H1 v st1 φ1 s rs1 re1 rv h1=>?_⟩
    cases e:augV bo w v with
    |none=>rw [e] at h1;exact h1.elim
    |some u =>
     rw [e] at h1
     exact ⟨B,φ1,st1,w,v,u,rs1,rw.step s,rv,e,fun z' H' φ' s' rs' rz=>h1 _ H' φ' s' rs' ((re1.step s').set i rz)⟩
end
section
variable (S:Se)(X:Cx)
structure Drw (B:Addr->Prop)(φ0:Ph)(H0:Hp)(xs:List PV)(J:It):Prop where
 stop:∀φ H,Step φ0 H0 φ H->J.stop xs.length H
 go:∀(i:Nat) φ H,Step φ0 H0 φ H->i<xs.length->J.go i H
 yld:∀(i:Nat) φ H st x H' (B':Addr->Prop),(∀y,B' y->B y \/ H0 y=none)->Step φ0 H0 φ H->RepS X.K S.cl B' φ H st->i<xs.length->J.yld i H x H'->∃v,xs[i]?=some v/\RepV X.K S.cl B' φ H' v x/\∀b o,H b=some o->H' b=some o
noncomputable abbrev RD (B:Addr->Prop):Ph->Hp->List PV->It->Prop:=fun φ H=>Drw S X B φ H
noncomputable def tI (c:Cit):TI:=fun σ H R=>∃B φ st ρ,RepS X.K S.cl B φ H st/\RepE X.K S.cl B φ H ρ σ/\Run S X σ B φ H (RD S X B) (evi S.call ρ st c) R
end
section
variable {S:Se}{X:Cx}{σ:St}{B:Addr->Prop}{φ φ1:Ph}{H H1:Hp}{st:Store}{ρ:IC.Env}{D:Ends}{pos p p2 px:Pos}{a b c o tg l:Expr}{ca cb cc:Ce}{es:List Expr}{ces:Ces}{ss:List Stmt}{cs:Css}{ci:Cit}{ct:Tg}
theorem znA:PE X a (tE S X .nope):=fun pins s σ H Q I ⟨B,φ,st,ρ,rs,re,h⟩=>by
 simp only [ev] at h
 exact h.elim
theorem zkz:KqE X a (tE S X .nope):=by with_unfolding_all exact znA
theorem zmV {s1:Stmt}:PS X s1 (tS S X .nope):=fun pins s σ H D I ⟨B,φ,st,ρ,rs,re,h⟩=>by
 simp only [ex] at h
 exact h.elim
theorem zgE {s1:Stmt}:KqS X s1 (tS S X .nope):=by with_unfolding_all exact zmV
theorem PI.imp {t t':TI}(h:PI X tg l t')(k:∀σ H R,t σ H R->t' σ H R):PI X tg l t:=fun pins s σ H R I q=>h pins s σ H R I (k σ H R q)
theorem zoA {tl:TE}(hl:PE X l tl):PI X tg l (fun σ H R=>tl σ H fun x H1=>∃a,x=.ref a/\(((∃xs,SqL X.K H1 a xs)/\R (Itl X.K a) H1) \/ ((∃xs,SqT X.K H1 a xs)/\R (Itt X.K a) H1))):=by
 intro pins s σ H R I h
 refine thn (hl pins s σ H _ I h) fun v s1 ⟨x,H1,I1,r1,q1⟩=>?_
 obtain ⟨a,e,q1⟩:=q1
 subst e
 cases r1
 rcases q1 with ⟨⟨xs,hq⟩,q⟩|⟨⟨xs,hq⟩,q⟩
 ·obtain ⟨its,rv,p,hz⟩:=I1.list hq
  refine wpAny_pyIter_list p.isList ?_
  refine ⟨s1.heap.objs.size,[s1.heap.objs.size],_,_,H1,rfl,I1.kept (t':=s1.toks) fun b o e=>Heap.get?_push_of_some _ e,zj2 a _,⟨_,Heap.get?_push_size _ rfl,rfl,rfl⟩,fun b hb=>?_,q⟩
  have e:b=s1.heap.objs.size:=by simpa using hb
  subst e
  exact I1.fpOk (Nat.le_refl _) (I1.hok.fresh (Nat.le_refl _))
 ·obtain ⟨its,rv,p,hz⟩:=I1.tuple hq
  refine wpAny_pyIter_tuple (show s1.heap.IsTuple a its.toArray from p) ?_
  refine ⟨s1.heap.objs.size,[s1.heap.objs.size],_,_,H1,rfl,I1.kept (t':=s1.toks) fun b o e=>Heap.get?_push_of_some _ e,zjJ a _,⟨_,Heap.get?_push_size _ rfl,rfl,rfl⟩,fun b hb=>?_,q⟩
  have e:b=s1.heap.objs.size:=by simpa using hb
  subst e
  exact I1.fpOk (Nat.le_refl _) (I1.hok.fresh (Nat.le_refl _))
theorem znb {k:Bool}{vs:List PV}{xs:List V}{y:Addr}(rt:RTup X.K B φ H k y xs)(l:RepL X.K S.cl B φ H vs xs):Drw S X B φ H vs (Itt X.K y):=by
 have hl:=l.length
 refine ⟨fun φ' H' s=>⟨xs,(rt.step s).sq,by omega⟩,fun i φ' H' s hi=>⟨xs,xs[i]'(by omega),(rt.step s).sq,by simp [show i<xs.length by omega]⟩,fun i φ' H' st x H2 B' hB s rs hi q=>?_⟩
 obtain ⟨rfl,q⟩:=q
 obtain ⟨v,hv⟩:∃v,vs[i]?=some v:=⟨vs[i],by simp [hi]⟩
 obtain ⟨x',hx',rv⟩:=l.get i hv
 have:=q xs (rt.step s).sq
 rw [this] at hx'
 cases hx'
 exact ⟨v,hv,(rv.moreB hB).step s,fun _ _ e=>e⟩
theorem zmS {vs:List PV}{xs:List V}{y:Addr}(rt:RLst B φ H y xs)(l:RepL X.K S.cl B φ H vs xs):Drw S X B φ H vs (Itl X.K y):=by
 have hl:=l.length
 refine ⟨fun φ' H' s=>⟨xs,(rt.step s).sq,by omega⟩,fun i φ' H' s hi=>⟨xs,xs[i]'(by omega),(rt.step s).sq,by simp [show i<xs.length by omega]⟩,fun i φ' H' st x H2 B' hB s rs hi q=>?_⟩
 obtain ⟨rfl,q⟩:=q
 obtain ⟨v,hv⟩:∃v,vs[i]?=some v:=⟨vs[i],by simp [hi]⟩
 obtain ⟨x',hx',rv⟩:=l.get i hv
 have:=q xs (rt.step s).sq
 rw [this] at hx'
 cases hx'
 exact ⟨v,hv,(rv.moreB hB).step s,fun _ _ e=>e⟩
theorem zcg (hl:KqE X l (tE S X ca)):KqI X tg l (tI S X (.seq ca)):= by
 with_unfolding_all
 exact PI.imp (zoA hl) fun σ H R ⟨B,φ,st,ρ,rs,re,h⟩=>by
  simp only [evi] at h
  refine tE.bind rs re h fun x H1 v st1 φ1 s1 rs1 re1 rv h1=>?_
  cases v with
  |tp k vs =>
   simp only [RepV] at rv
   obtain ⟨y,xs,rfl,rt,l⟩:=rv
   exact ⟨y,rfl,.inr ⟨⟨xs,rt.sq⟩,h1.ok rs1 (znb rt l)⟩⟩
  |lst vs =>
   simp only [RepV] at rv
   obtain ⟨y,xs,rfl,rt,l⟩:=rv
   exact ⟨y,rfl,.inl ⟨⟨xs,rt.sq⟩,h1.ok rs1 (zmS rt l)⟩⟩
  |_=>exact h1.elim
theorem zhd:∀(n:Nat) (lo d:Int) (i:Nat),(rangeL n lo d)[i]?=if i<n then some (.int (lo+i*d)) else none
 |0,lo,d,i=>by simp [rangeL]
 |n+1,lo,d,0=>by simp [rangeL]
 |n+1,lo,d,i+1=>by
  simp only [rangeL,List.getElem?_cons_succ]
  rw [zhd n (lo+d) d i]
  by_cases h:i<n
  ·rw [if_pos h,if_pos (by omega),Int.natCast_succ,Int.add_mul,Int.one_mul,Int.add_assoc,Int.add_comm d]
  ·rw [if_neg h,if_neg (by omega)]
theorem zej:∀(n:Nat) (lo d:Int),(rangeL n lo d).length=n
 |0,lo,d=>rfl
 |n+1,lo,d=>by simp [rangeL,zej n]
theorem zka {lo:Int}{n:Nat}:Drw S X B φ H (rangeL n lo 1) (Itr lo n):=by
 refine ⟨fun φ' H' s=>by rw [zej];exact Nat.le_refl _,fun i φ' H' s hi=>by rw [zej] at hi;exact hi,fun i φ' H' st x H2 B' hB s rs hi q=>?_⟩
 rw [zej] at hi
 obtain ⟨rfl,rfl⟩:=q
 refine ⟨.int (lo+i),?_,by simp only [RepV],fun _ _ e=>e⟩
 rw [zhd,if_pos hi,Int.mul_one]
theorem zkZ {o:Option (List PV)}{st:Store}{Q:It->Hp->Prop}(h:Run S X σ B φ H (RD S X B) (toL o st) Q):∃xs,o=some xs/\Run S X σ B φ H (RD S X B) (.ok xs st) Q:=by
 cases o with
 |none=>exact h.elim
 |some z=>exact ⟨z,rfl,h⟩
theorem zaQ (hg:Gl X "range")(hm:X.mg "range"=none)(ha:KqE X a (tE S X ca))(hs:starEach [a] X.env=[(false,eval a X.env)]:=by rfl):KqI X tg (.Call (.Name "range" p) [a] [] pos) (tI S X (.range1 ca)):= by
 with_unfolding_all
 exact PI.imp (zj3 hg hm (zeS ha pa_nil hs) hs) fun σ H R ⟨B,φ,st,ρ,rs,re,h⟩=>by
  simp only [evi] at h
  refine tE.bind rs re h fun x H1 v st1 φ1 s1 rs1 re1 rv h1=>?_
  obtain ⟨xs,e,h1⟩:=zkZ h1
  cases v with
  |int j =>
   simp only [rng1] at e
   split at e
   ·cases e
    simp only [RepV] at rv
    subst rv
    exact ⟨j,rfl,by omega,by omega,h1.ok rs1 zka⟩
   ·cases e
  |_=>cases e
theorem zgx:∀(xs:List PV) (k i:Nat),(pairsUp k xs)[i]?=(xs[i]?).map fun x=>.tup [.int ((k+i:Nat):Int),x]
 | [],k,i=>by simp [pairsUp]
 |x::xs,k,0=>by simp [pairsUp]
 |x::xs,k,i+1=>by
  simp only [pairsUp,List.getElem?_cons_succ]
  rw [zgx xs (k+1) i]
  have:k+1+i=k+(i+1):=by omega
  rw [this]
theorem zgm:∀(xs:List PV) (k:Nat),(pairsUp k xs).length=xs.length
 | [],k=>rfl
 |x::xs,k=>by simp [pairsUp,zgm xs]
theorem zlD {k:Bool}{vs:List PV}{xs:List V}{y:Addr}(rt:RTup X.K B φ H k y xs)(l:RepL X.K S.cl B φ H vs xs):Drw S X B φ H (pairsUp 0 vs) (Ite X.K y):=by
 have hl:=l.length
 have hp:=zgm vs 0
 refine ⟨fun φ' H' s=>⟨xs,(rt.step s).sq,by omega⟩,fun i φ' H' s hi=>⟨xs,xs[i]'(by omega),(rt.step s).sq,by simp [show i<xs.length by omega]⟩,fun i φ' H' st x H2 B' hB s rs hi q=>?_⟩
 obtain ⟨T,hT,rfl,q⟩:=q
 obtain ⟨v,hv⟩:∃v,vs[i]?=some v:=⟨vs[i]'(by omega),by simp [show i<vs.length by omega]⟩
 obtain ⟨x',hx',rv⟩:=l.get i hv
 have e:=q xs x' (rt.step s).sq hx'
 subst e
 refine ⟨.tup [.int i,v],?_,.tup_new hT rs ?_,fun b o e=>by rw [z4 (zad e hT)];exact e⟩
 ·rw [zgx,hv]
  simp
 ·simp only [RepL,RepV]
  exact ⟨_,_,rfl,rfl,x',[],rfl,(rv.moreB hB).step s,rfl⟩
theorem zki {es:List Expr}{kk:Nat}{tp:Pos}(hg:Gl X "enumerate")(hm:X.mg "enumerate"=none)(ha:KqE X a (tE S X ca))(hs:starEach [a] X.env=[(false,eval a X.env)]:=by rfl) :
  KqI X (.Tuple es kk tp) (.Call (.Name "enumerate" p) [a] [] pos) (tI S X (.enum ca)):= by
 with_unfolding_all
 exact PI.imp (zl0 hg hm (zeS ha pa_nil hs) hs) fun σ H R ⟨B,φ,st,ρ,rs,re,h⟩=>by
  simp only [evi] at h
  refine tE.bind rs re h fun x H1 v st1 φ1 s1 rs1 re1 rv h1=>?_
  cases v with
  |tp k vs =>
   simp only [RepV] at rv
   obtain ⟨y,xs,rfl,rt,l⟩:=rv
   exact ⟨y,rfl,⟨xs,rt.sq⟩,h1.ok rs1 (zlD rt l)⟩
  |_=>exact h1.elim
noncomputable def tG (S:Se)(X:Cx)(t:Tg):TG:=fun v σ H Q=>∃B φ st ρ w ρ',RepS X.K S.cl B φ H st/\RepE X.K S.cl B φ H ρ σ/\RepV X.K S.cl B φ H w v/\bindT t w ρ=some ρ'/\∀σ',RepE X.K S.cl B φ H ρ' σ'->Q σ' H
theorem PG.imp {t t':TG}(h:PG X tg t')(k:∀v σ H Q,t v σ H Q->t' v σ H Q):PG X tg t:=fun pins s σ H v u Q I rv q=>h pins s σ H v u Q I rv (k v σ H Q q)
theorem zaj {i:Nat}{x:Str}(hN:X.N.Nodup)(hi:X.N[i]?=some x)(hx:Loc X.env.scope x)(hf:X.fn x=true \/ X.env.scope.names.lookup x=some .local:=by first|exact .inl rfl|exact .inr rfl|assumption):KqG X (.Name x pos) (tG S X (.n i)):= by
 with_unfolding_all
 exact PG.imp (zjR hN hi hx hf) fun v σ H Q ⟨B,φ,st,ρ,w,ρ',rs,re,rv,e,q⟩=>by
  cases e
  exact q _ (re.set i rv)
noncomputable def gNs (l:List Nat):TGs:=fun vs σ H Q=>vs.length=l.length/\Q ((l.zip vs).foldl (fun σ p=>σ.set p.1 (some p.2)) σ) H
theorem PGs.imp {es:List Expr}{t t':TGs}(h:PGs X es t')(k:∀v σ H Q,t v σ H Q->t' v σ H Q):PGs X es t:=fun pins s σ H vs us Q I rv q=>h pins s σ H vs us Q I rv (k vs σ H Q q)
theorem znn:PGs X [] (gNs []):=pgs_nil.imp fun vs σ H Q ⟨h,q⟩=>by
 cases vs with
 |nil=>exact ⟨rfl,q⟩
 |cons _ _=>cases h
theorem zff:KqGs X [] (gNs []):=by with_unfolding_all exact znn
theorem zbA {es:List Expr}{l:List Nat}{i:Nat}{x:Str}(hN:X.N.Nodup)(hi:X.N[i]?=some x)(hx:Loc X.env.scope x)(h2:KqGs X es (gNs l))(hf:X.fn x=true \/ X.env.scope.names.lookup x=some .local:=by first|exact .inl rfl|exact .inr rfl|assumption):KqGs X (.Name x pos::es) (gNs (i::l)):= by
 with_unfolding_all
 exact PGs.imp (zhr (zjR hN hi hx hf) h2) fun vs σ H Q ⟨h,q⟩=>by
  cases vs with
  |nil=>cases h
  |cons v vs=>exact ⟨v,vs,rfl,by simpa using h,q⟩
theorem RepE.sets {K:PySem.W.Frag}{cl:Nat->Addr}:∀(l:List Nat) {vs:List PV} {xs:List V} {ρ:IC.Env} {σ:St},RepE K cl B φ H ρ σ->RepL K cl B φ H vs xs ->
  RepE K cl B φ H ((l.zip vs).foldl (fun ρ p=>ρ.set p.1 (some p.2)) ρ) ((l.zip xs).foldl (fun σ p=>σ.set p.1 (some p.2)) σ)
 | [],vs,xs,ρ,σ,re,l=>by simpa using re
 |i::is,[],xs,ρ,σ,re,l=>by
  simp only [RepL] at l
  subst l
  simpa using re
 |i::is,v::vs,xs,ρ,σ,re,l=>by
  simp only [RepL] at l
  obtain ⟨y,ys,rfl,r,l⟩:=l
  simp only [List.zip_cons_cons,List.foldl_cons]
  exact RepE.sets is (re.set i r) l
theorem zgb {es:List Expr}{l:List Nat}{k:Nat}(hc:X.calm=true)(h:KqGs X es (gNs l))(hn:(assignEach es X.env).length=l.length:=by rfl)(hst:(assignEach es X.env).findIdx? (·.1)=none:=by rfl):KqG X (.Tuple es k pos) (tG S X (.t l)):= by
 with_unfolding_all
 exact PG.imp (zmy hc h hn hst) fun v σ H Q ⟨B,φ,st,ρ,w,ρ',rs,re,rv,e,q⟩=>by
  cases w with
  |tp kk vs =>
   simp only [bindT] at e
   split at e
   ·rename_i c
    cases e
    simp only [RepV] at rv
    obtain ⟨y,xs,rfl,rt,lr⟩:=rv
    have hl:=lr.length
    exact ⟨y,xs,rfl,rt.sq,by omega,by omega,q _ (RepE.sets l re lr)⟩
   ·cases e
  |_=>cases e
theorem zhV {es:List Expr}{l:List Nat}{k:Nat}(he:KqE X a (tE S X ca))(hg:KqG X (.Tuple es k p2) (tG S X (.t l)))(hs:swapsWithSole [.Tuple es k p2] a pos.line X.env=pure false:=by rfl)(hw:swappedStores [.Tuple es k p2] a X.env=pure none:=by rfl) :
  KqS X (.Assign [.Tuple es k p2] a pos) (tS S X (.asg (.t l) ca)):= by
 with_unfolding_all
 exact PS.imp (zjZ he hg hs hw) fun D σ H ⟨B,φ,st,ρ,rs,re,h⟩=>by
  simp only [ex] at h
  refine tE.fl rs re h fun x H1 v st1 φ1 s rs1 re1 rv h1=>?_
  cases e:bindT (.t l) v ρ with
  |none=>rw [e] at h1;exact h1.elim
  |some ρ' =>
   rw [e] at h1
   exact ⟨B,φ1,st1,ρ,v,ρ',rs1,re1,rv,e,fun σ' re'=>h1 σ' H1 φ1 .rfl rs1 re'⟩
theorem tI.fl {k:List PV->Store->Fl}{P:It->Hp->Prop}(rs:RepS X.K S.cl B φ H st)(re:RepE X.K S.cl B φ H ρ σ)(h:RunF S X B φ H ((evi S.call ρ st ci).fl ρ k) D)
  (n:∀x H1 v st1 φ1,Step φ H φ1 H1->RepS X.K S.cl B φ1 H1 st1->RepE X.K S.cl B φ1 H1 ρ σ->Drw S X B φ1 H1 v x->RunF S X B φ1 H1 (k v st1) D->P x H1):tI S X ci σ H P:=by
 refine ⟨B,φ,st,ρ,rs,re,?_⟩
 cases e:evi S.call ρ st ci with
 |ok v st' =>
  rw [e] at h
  exact fun x H' φ' s rs' rv=>n x H' v st' φ' s rs' (re.step s) rv (h.on s)
 |exc k st' =>
  rw [e] at h
  exact fun e s' x=>h σ φ H e s' .rfl re x
 |bad=>rw [e] at h;exact h
theorem zct (hp:PassesOwn (model X.prog X.w) X.A X.env X.xe)(hc:X.calm=true)(hi:KqI X tg l (tI S X ci))(hg:KqG X tg (tG S X ct))(hb:KqSs X ss (tSs S X cs))(hs:∀x,foldedSetIterable l X.env x=pure x:=by intro _;rfl) :
  KqS X (.For tg l ss [] pos) (tS S X (.for ct ci cs)):= by
 with_unfolding_all
 exact PS.imp (znX hp hc hi hg hb hs) fun D σ H ⟨B,φ,st,ρ,rs,re,h⟩=>by
  simp only [ex] at h
  refine tI.fl rs re h fun J H1 xs st1 φ1 s1 rs1 re1 dr h1=>?_
  refine ⟨fun i m σ H=>∃φ st ρ,i+m=xs.length/\Step φ1 H1 φ H/\RepS X.K S.cl B φ H st/\RepE X.K S.cl B φ H ρ σ/\RunF S X B φ H (forL ct (fun ρ2 st2=>exs S.call ρ2 st2 cs) (xs.drop i) ρ st) D,
   ⟨xs.length,φ1,st1,ρ,by omega,.rfl,rs1,re1,by simpa using h1⟩,?_⟩
  rintro i m σ2 H2 ⟨φ2,st2,ρ2,hm,s2,rs2,re2,h2⟩
  by_cases hi:i<xs.length
  ·refine .inr ⟨dr.go i φ2 H2 s2 hi,fun σ' H'=>∃φ st ρ,Step φ1 H1 φ H'/\RepS X.K S.cl B φ H' st/\RepE X.K S.cl B φ H' ρ σ'/\RunF S X B φ H' (forL ct (fun ρ2 st2=>exs S.call ρ2 st2 cs) (xs.drop (i+1)) ρ st) D,
    fun σ' H' ⟨φ,st,ρ,s,q⟩=>⟨m - 1,by omega,φ,st,ρ,by omega,s,q⟩,fun x H3 hy=>?_⟩
   obtain ⟨v,hv,rv,kk⟩:=dr.yld i φ2 H2 st2 x H3 B (fun _ z=>.inl z) s2 rs2 hi hy
   have e:xs.drop i=v::xs.drop (i+1):=by
    rw [List.drop_eq_getElem_cons hi]
    rw [List.getElem?_eq_getElem hi] at hv
    rw [Option.some.inj hv]
   have s3:Step φ2 H2 φ2 H3:=⟨fun b o _ e=>kk b o e,Nat.le_refl _,fun _ _ _ e=>e,fun _ h=>.inl h⟩
   have rs3:RepS X.K S.cl B φ2 H3 st2:=rs2.same kk
   rw [e,forL] at h2
   cases eb:bindT ct v ρ2 with
   |none=>rw [eb] at h2;exact h2.elim
   |some ρ3 =>
    rw [eb] at h2
    refine ⟨B,φ2,st2,ρ2,v,ρ3,rs3,re2.step s3,rv,eb,fun σ' re'=>⟨B,φ2,st2,ρ3,rs3,re',?_⟩⟩
    have h3:=RunF.on s3 h2
    dsimp only at h3
    cases ee:exs S.call ρ3 st2 cs with
    |nx ρ4 st4 =>
     rw [ee] at h3
     exact fun σ4 H4 φ4 s4 rs4 re4=>⟨φ4,st4,ρ4,s2.trans (s3.trans s4),rs4,re4,RunF.on s4 h3⟩
    |ct ρ4 st4 =>
     rw [ee] at h3
     exact fun σ4 H4 φ4 s4 rs4 re4=>⟨φ4,st4,ρ4,s2.trans (s3.trans s4),rs4,re4,RunF.on s4 h3⟩
    |bk ρ4 st4=>rw [ee] at h3;exact h3
    |rt v4 st4=>rw [ee] at h3;exact h3
    |exc k ρ4 st4=>rw [ee] at h3;exact h3
    |bad=>rw [ee] at h3;exact h3
  ·have e:i=xs.length:=by omega
   subst e
   rw [List.drop_length,forL] at h2
   exact .inl ⟨dr.stop φ2 H2 s2,h2 σ2 H2 φ2 .rfl rs2 re2⟩
theorem zjw (hp:PassesOwn (model X.prog X.w) X.A X.env X.xe)(hc:KqT X c (tTs S X cc))(hb:KqSs X ss (tSs S X cs)):KqS X (.While c ss [] pos) (tS S X (.while cc cs)):= by
 with_unfolding_all
 exact PS.imp (zl1 hp hc hb) fun D σ H ⟨B,φ,st,ρ,rs,re,h⟩=>by
  simp only [ex] at h
  refine ⟨fun m σ H=>∃φ st ρ,RepS X.K S.cl B φ H st/\RepE X.K S.cl B φ H ρ σ/\RunF S X B φ H (whileL (fun ρ2 st2=>ev S.call ρ2 st2 cc) (fun ρ2 st2=>exs S.call ρ2 st2 cs) m ρ st) D,⟨100000,φ,st,ρ,rs,re,h⟩,?_⟩
  rintro m σ2 H2 ⟨φ2,st2,ρ2,rs2,re2,h2⟩
  cases m with
  |zero=>exact h2.elim
  |succ m =>
   rw [whileL] at h2
   rw [flT _ fun k st1=>cond k (againF (exs S.call ρ2 st1 cs) fun ρ2 st2=>whileL (fun ρ2 st2=>ev S.call ρ2 st2 cc) (fun ρ2 st2=>exs S.call ρ2 st2 cs) m ρ2 st2) (.nx ρ2 st1)] at h2
   refine tTs.fl rs2 re2 h2 fun k H3 st3 φ3 s3 rs3 re3 h3=>?_
   cases k with
   |false=>exact h3 σ2 H3 φ3 .rfl rs3 re3
   |true =>
    refine ⟨fun σ' H'=>∃φ st ρ,RepS X.K S.cl B φ H' st/\RepE X.K S.cl B φ H' ρ σ'/\RunF S X B φ H' (whileL (fun ρ2 st2=>ev S.call ρ2 st2 cc) (fun ρ2 st2=>exs S.call ρ2 st2 cs) m ρ st) D,
     fun σ' H' q=>⟨m,by omega,q⟩,B,φ3,st3,ρ2,rs3,re3,?_⟩
    simp only [cond_true] at h3
    cases ee:exs S.call ρ2 st3 cs with
    |nx ρ4 st4 =>
     rw [ee] at h3
     exact fun σ4 H4 φ4 s4 rs4 re4=>⟨φ4,st4,ρ4,rs4,re4,RunF.on s4 h3⟩
    |ct ρ4 st4 =>
     rw [ee] at h3
     exact fun σ4 H4 φ4 s4 rs4 re4=>⟨φ4,st4,ρ4,rs4,re4,RunF.on s4 h3⟩
    |bk ρ4 st4=>rw [ee] at h3;exact h3
    |rt v4 st4=>rw [ee] at h3;exact h3
    |exc k ρ4 st4=>rw [ee] at h3;exact h3
    |bad=>rw [ee] at h3;exact h3
end
section
variable (S:Se)(K:PySem.W.Frag)
def Run0 {α β:Type}(B:Addr->Prop)(φ:Ph)(H:Hp)(Rel:Ph->Hp->α->β->Prop)(r:R α)(Q:β->Hp->Prop):Prop :=
 match r with
 | .ok v st'=>∀x H' φ',Step φ H φ' H'->RepS K S.cl B φ' H' st'->Rel φ' H' v x->Q x H'
 |_=>False
noncomputable def tE0 (c:Ce):TE:=fun σ H Q=>∃B φ st ρ,RepS K S.cl B φ H st/\RepE K S.cl B φ H ρ σ/\Run0 S K B φ H (fun φ H=>RepV K S.cl B φ H) (ev S.call ρ st c) Q
noncomputable def tT0 (c:Ce):TT:=fun σ H Q=>∃B φ st ρ,RepS K S.cl B φ H st/\RepE K S.cl B φ H ρ σ/\Run0 S K B φ H RB (truR (ev S.call ρ st c)) Q
noncomputable def tG0 (t:Tg):TG:=fun v σ H Q=>∃B φ st ρ w ρ',RepS K S.cl B φ H st/\RepE K S.cl B φ H ρ σ/\RepV K S.cl B φ H w v/\bindT t w ρ=some ρ'/\∀σ',RepE K S.cl B φ H ρ' σ'->Q σ' H
end
section
variable {S:Se}{X:Cx}{K:PySem.W.Frag}{cl:Nat->Addr}{σ:St}{B:Addr->Prop}{φ φ1:Ph}{H H1:Hp}{st:Store}{ρ:IC.Env}{pos p p2 px:Pos}{a b c o tg l elt iter:Expr}{ca cb cc ce:Ce}{ci:Cit}{ct:Tg}
theorem zaU (hK:X.K=K)(h:KqE X a (tE S X ca)):KqE X a (tE0 S K ca):= by
 with_unfolding_all
 subst hK
 refine h.imp fun σ H Q ⟨B,φ,st,ρ,rs,re,q⟩=>⟨B,φ,st,ρ,rs,re,?_⟩
 cases e:ev S.call ρ st ca with
 |ok v st'=>rw [e] at q;exact q
 |exc k st'=>rw [e] at q;exact q.elim
 |bad=>rw [e] at q;exact q
theorem zlm:PTs X [] (tT0 S K (.cst (.bl true))):=fun pins s σ H Q I ⟨B,φ,st,ρ,rs,re,q⟩=>by
 refine zns pins s σ H Q I ?_
 simp only [ev,truR,R.bind,truV,onO] at q
 exact q true H φ .rfl rs rfl
theorem zaH:KqTs X [] (tT0 S K (.cst (.bl true))):=by with_unfolding_all exact zlm
theorem za4 (hK:X.K=K)(h:KqG X tg (tG S X ct)):KqG X tg (tG0 S K ct):= by
 with_unfolding_all
 subst hK
 exact h
theorem RTup.skip {k:Bool}{D y:Addr}{u:HO}{xs:List V}(hD:B D)(r:RTup K B φ H k y xs):RTup K B φ (L2.upd H D u) k y xs:=by
 rcases r with ⟨r,b,n⟩|r
 ·exact .inl ⟨by rw [z4 (show y≠D from fun z=>b (z ▸ hD))];exact r,b,n⟩
 ·exact .inr r
mutual
theorem RepV.skip {D:Addr}{u:HO}(hD:B D):∀(v:PV) (x:V),RepV K cl B φ H v x->RepV K cl B φ (L2.upd H D u) v x
 | .non,x,h=>by simp only [RepV] at h ⊢;exact h
 | .bl b,x,h=>by simp only [RepV] at h ⊢;exact h
 | .int i,x,h=>by simp only [RepV] at h ⊢;exact h
 | .str y,x,h=>by simp only [RepV] at h ⊢;exact h
 | .tp k vs,x,h=>by
  simp only [RepV] at h ⊢
  obtain ⟨y,xs,e,r,l⟩:=h
  exact ⟨y,xs,e,r.skip hD,RepL.skip hD vs xs l⟩
 | .lst vs,x,h=>by
  simp only [RepV] at h ⊢
  obtain ⟨y,xs,e,⟨r,b,n⟩,l⟩:=h
  exact ⟨y,xs,e,⟨by rw [z4 (show y≠D from fun z=>b (z ▸ hD))];exact r,b,n⟩,RepL.skip hD vs xs l⟩
 | .loc n,x,h=>by simp only [RepV] at h ⊢;exact h
 | .exn c,x,h=>by
  simp only [RepV] at h ⊢
  obtain ⟨y,e,r,b,n⟩:=h
  exact ⟨y,e,by rw [z4 (show y≠D from fun z=>b (z ▸ hD))];exact r,b,n⟩
 | .scr vs,x,h=>by
  simp only [RepV] at h ⊢
  obtain ⟨y,xs,e,r,l⟩:=h
  refine ⟨y,xs,e,?_,RepL.skip hD vs xs l⟩
  rcases r with ⟨r,b,n⟩|r
  ·refine .inl ⟨?_,b,n⟩
   have ne:y≠D:=fun z=>b (z ▸ hD)
   rcases r with r|⟨o,r⟩
   ·exact .inl (by rw [z4 ne];exact r)
   ·exact .inr ⟨o,by rw [z4 ne];exact r⟩
  ·exact .inr r
theorem RepL.skip {D:Addr}{u:HO}(hD:B D):∀(v:List PV) (x:List V),RepL K cl B φ H v x->RepL K cl B φ (L2.upd H D u) v x
 | [],x,h=>by simp only [RepL] at h ⊢;exact h
 |v::vs,x,h=>by
  simp only [RepL] at h ⊢
  obtain ⟨y,ys,e,r,l⟩:=h
  exact ⟨y,ys,e,RepV.skip hD v y r,RepL.skip hD vs ys l⟩
end
theorem DK.skip {D:Addr}{u:HO}(hD:B D):∀{kvs:List (PV×PV)} {ks:List (Key×V)},DK K cl B φ H kvs ks->DK K cl B φ (L2.upd H D u) kvs ks
 | [],ks,h=>h
 | (k,v)::r,ks,h=>by
  obtain ⟨q,x,t,e,m,rv,l⟩:=h
  exact ⟨q,x,t,e,m,rv.skip hD,DK.skip hD l⟩
theorem DT.skip {D:Addr}{u:HO}(hD:B D):∀{kvs:List (PV×PV)} {ks:List (List Key×V)},DT K cl B φ H kvs ks->DT K cl B φ (L2.upd H D u) kvs ks
 | [],ks,h=>h
 | (k,v)::r,ks,h=>by
  obtain ⟨q,x,t,e,m,rv,l⟩:=h
  exact ⟨q,x,t,e,m,rv.skip hD,DT.skip hD l⟩
theorem FS.skip {D:Addr}{u:HO}(hD:B D):∀{kvs:List (Str×PV)} {ks:List (Str×V)},FS K cl B φ H kvs ks->FS K cl B φ (L2.upd H D u) kvs ks
 | [],ks,h=>h
 | (k,v)::r,ks,h=>by
  obtain ⟨x,t,e,rv,l⟩:=h
  exact ⟨x,t,e,rv.skip hD,FS.skip hD l⟩
theorem RepS.skip {D:Addr}{u:HO}(hD:B D)(rs:RepS K cl B φ H st):RepS K cl B φ (L2.upd H D u) st:=by
 refine ⟨rs.len,rs.inj,fun n y e=>?_,rs.liv,rs.nb,fun y h=>?_⟩
 ·obtain ⟨o,q,r⟩:=rs.obj n y e
  have ne:y≠D:=fun z=>rs.nb y (List.mem_of_getElem? e) (z ▸ hD)
  refine ⟨o,q,?_⟩
  cases o with
  |lst vs =>
   obtain ⟨xs,hx,l⟩:=r
   exact ⟨xs,by rw [z4 ne];exact hx,l.skip hD⟩
  |dct t kvs =>
   cases t with
   |false =>
    obtain ⟨xs,hx,l⟩:=r
    exact ⟨xs,by rw [z4 ne];exact hx,l.skip hD⟩
   |true =>
    obtain ⟨xs,hx,l⟩:=r
    exact ⟨xs,by rw [z4 ne];exact hx,l.skip hD⟩
  |ins c fs =>
   obtain ⟨ks,⟨dx,hx⟩,l⟩:=r
   exact ⟨ks,⟨dx,by rw [z4 ne];exact hx⟩,l.skip hD⟩
  |dead=>exact r.elim
 ·by_cases z:y=D
  ·subst z;exact ⟨u,zal⟩
  ·obtain ⟨w,e⟩:=rs.dom y h
   exact ⟨w,by rw [z4 z];exact e⟩
theorem RepE.skip {D:Addr}{u:HO}(hD:B D)(re:RepE K cl B φ H ρ σ):RepE K cl B φ (L2.upd H D u) ρ σ:=⟨re.len,fun i v e=>by
 obtain ⟨x,h,q⟩:=re.get i v e
 exact ⟨x,h,q.skip hD⟩⟩
noncomputable def Bx (B:Addr->Prop)(D:Addr):Addr->Prop:=fun y=>B y \/ y=D
theorem zkG {D:Addr}(hn:H D=none):∀y,Bx B D y->B y \/ H y=none:=fun y z=>z.elim .inl fun q=>.inr (q ▸ hn)
theorem RepV.more {D:Addr}(hn:H D=none){v:PV}{x:V}(h:RepV K cl B φ H v x):RepV K cl (Bx B D) φ H v x:=h.moreB (zkG hn)
theorem RepL.more {D:Addr}(hn:H D=none){v:List PV}{x:List V}(h:RepL K cl B φ H v x):RepL K cl (Bx B D) φ H v x:=h.moreB (zkG hn)
mutual
theorem RepV.less {D:Addr}:∀(v:PV) (x:V),RepV K cl (Bx B D) φ H v x->RepV K cl B φ H v x
 | .non,x,h=>by simp only [RepV] at h ⊢;exact h
 | .bl b,x,h=>by simp only [RepV] at h ⊢;exact h
 | .int i,x,h=>by simp only [RepV] at h ⊢;exact h
 | .str y,x,h=>by simp only [RepV] at h ⊢;exact h
 | .tp k vs,x,h=>by
  simp only [RepV] at h ⊢
  obtain ⟨y,xs,e,r,l⟩:=h
  refine ⟨y,xs,e,?_,RepL.less vs xs l⟩
  rcases r with ⟨r,b,n⟩|r
  ·exact .inl ⟨r,fun z=>b (.inl z),n⟩
  ·exact .inr r
 | .lst vs,x,h=>by
  simp only [RepV] at h ⊢
  obtain ⟨y,xs,e,⟨r,b,n⟩,l⟩:=h
  exact ⟨y,xs,e,⟨r,fun z=>b (.inl z),n⟩,RepL.less vs xs l⟩
 | .loc n,x,h=>by simp only [RepV] at h ⊢;exact h
 | .exn c,x,h=>by
  simp only [RepV] at h ⊢
  obtain ⟨y,e,r,b,n⟩:=h
  exact ⟨y,e,r,fun z=>b (.inl z),n⟩
 | .scr vs,x,h=>by
  simp only [RepV] at h ⊢
  obtain ⟨y,xs,e,r,l⟩:=h
  refine ⟨y,xs,e,?_,RepL.less vs xs l⟩
  rcases r with ⟨r,b,n⟩|r
  ·exact .inl ⟨r,fun z=>b (.inl z),n⟩
  ·exact .inr r
theorem RepL.less {D:Addr}:∀(v:List PV) (x:List V),RepL K cl (Bx B D) φ H v x->RepL K cl B φ H v x
 | [],x,h=>by simp only [RepL] at h ⊢;exact h
 |v::vs,x,h=>by
  simp only [RepL] at h ⊢
  obtain ⟨y,ys,e,r,l⟩:=h
  exact ⟨y,ys,e,RepV.less v y r,RepL.less vs ys l⟩
end
theorem DK.more {D:Addr}(hn:H D=none):∀{kvs:List (PV×PV)} {ks:List (Key×V)},DK K cl B φ H kvs ks->DK K cl (Bx B D) φ H kvs ks
 | [],ks,h=>h
 | (k,v)::r,ks,h=>by
  obtain ⟨q,x,t,e,m,rv,l⟩:=h
  exact ⟨q,x,t,e,m,rv.more hn,DK.more hn l⟩
theorem DT.more {D:Addr}(hn:H D=none):∀{kvs:List (PV×PV)} {ks:List (List Key×V)},DT K cl B φ H kvs ks->DT K cl (Bx B D) φ H kvs ks
 | [],ks,h=>h
 | (k,v)::r,ks,h=>by
  obtain ⟨q,x,t,e,m,rv,l⟩:=h
  exact ⟨q,x,t,e,m,rv.more hn,DT.more hn l⟩
theorem FS.more {D:Addr}(hn:H D=none):∀{kvs:List (Str×PV)} {ks:List (Str×V)},FS K cl B φ H kvs ks->FS K cl (Bx B D) φ H kvs ks
 | [],ks,h=>h
 | (k,v)::r,ks,h=>by
  obtain ⟨x,t,e,rv,l⟩:=h
  exact ⟨x,t,e,rv.more hn,FS.more hn l⟩
theorem DK.less {D:Addr}:∀{kvs:List (PV×PV)} {ks:List (Key×V)},DK K cl (Bx B D) φ H kvs ks->DK K cl B φ H kvs ks
 | [],ks,h=>h
 | (k,v)::r,ks,h=>by
  obtain ⟨q,x,t,e,m,rv,l⟩:=h
  exact ⟨q,x,t,e,m,rv.less,DK.less l⟩
theorem DT.less {D:Addr}:∀{kvs:List (PV×PV)} {ks:List (List Key×V)},DT K cl (Bx B D) φ H kvs ks->DT K cl B φ H kvs ks
 | [],ks,h=>h
 | (k,v)::r,ks,h=>by
  obtain ⟨q,x,t,e,m,rv,l⟩:=h
  exact ⟨q,x,t,e,m,rv.less,DT.less l⟩
theorem FS.less {D:Addr}:∀{kvs:List (Str×PV)} {ks:List (Str×V)},FS K cl (Bx B D) φ H kvs ks->FS K cl B φ H kvs ks
 | [],ks,h=>h
 | (k,v)::r,ks,h=>by
  obtain ⟨x,t,e,rv,l⟩:=h
  exact ⟨x,t,e,rv.less,FS.less l⟩
theorem RepS.less {D:Addr}(rs:RepS K cl (Bx B D) φ H st):RepS K cl B φ H st:=by
 refine ⟨rs.len,rs.inj,fun n y e=>?_,rs.liv,fun y h z=>rs.nb y h (.inl z),fun y h=>rs.dom y (.inl h)⟩
 obtain ⟨o,q,r⟩:=rs.obj n y e
 refine ⟨o,q,?_⟩
 cases o with
 |lst vs=>obtain ⟨xs,hx,l⟩:=r;exact ⟨xs,hx,l.less⟩
 |dct t kvs=>cases t <;> (obtain ⟨xs,hx,l⟩:=r;exact ⟨xs,hx,l.less⟩)
 |ins c fs=>obtain ⟨ks,hx,l⟩:=r;exact ⟨ks,hx,l.less⟩
 |dead=>exact r.elim
theorem RepS.more {D:Addr}{u:HO}(hn:H D=none)(rs:RepS K cl B φ H st):RepS K cl (Bx B D) φ (L2.upd H D u) st:=by
 have nD:some D∉φ:=fun z=>by
  obtain ⟨w,e⟩:=rs.there z
  rw [hn] at e;cases e
 have s:Step φ H φ (L2.upd H D u):=.upd hn
 have rs':=rs.upd (o:=u) hn
 refine ⟨rs.len,rs.inj,fun n y e=>?_,rs.liv,fun y h z=>z.elim (rs.nb y h) fun q=>nD (q ▸ h),fun y h=>?_⟩
 ·obtain ⟨o,q,r⟩:=rs.obj n y e
  have ne:y≠D:=fun z=>nD (z ▸ List.mem_of_getElem? e)
  have hD:Bx B D D:=.inr rfl
  refine ⟨o,q,?_⟩
  cases o with
  |lst vs=>obtain ⟨xs,hx,l⟩:=r;exact ⟨xs,by rw [z4 ne];exact hx,(l.more hn).skip hD⟩
  |dct t kvs =>
   cases t with
   |false=>obtain ⟨xs,hx,l⟩:=r;exact ⟨xs,by rw [z4 ne];exact hx,(l.more hn).skip hD⟩
   |true=>obtain ⟨xs,hx,l⟩:=r;exact ⟨xs,by rw [z4 ne];exact hx,(l.more hn).skip hD⟩
  |ins c fs=>obtain ⟨ks,⟨dx,hx⟩,l⟩:=r;exact ⟨ks,⟨dx,by rw [z4 ne];exact hx⟩,(l.more hn).skip hD⟩
  |dead=>exact r.elim
 ·rcases h with h|h
  ·exact rs'.dom y h
  ·subst h;exact ⟨u,zal⟩
theorem RepE.more {D:Addr}{u:HO}(hn:H D=none)(re:RepE K cl B φ H ρ σ):RepE K cl (Bx B D) φ (L2.upd H D u) ρ σ:=⟨re.len,fun i v e=>by
 obtain ⟨x,h,q⟩:=re.get i v e
 exact ⟨x,h,(q.more hn).skip (.inr rfl)⟩⟩
noncomputable def tgtFree:Tg->List (Option Nat)->Bool
 | .n i,sl=>decide (sl[i]?=some none)
 | .t l,sl=>l.all fun i=>decide (sl[i]?=some none)
theorem zi9:∀(l:List Nat) (vs:List PV) (ρ:IC.Env) (j:Nat),j∉l->((l.zip vs).foldl (fun ρ p=>ρ.set p.1 (some p.2)) ρ)[j]?=ρ[j]?
 | [],vs,ρ,j,h=>by simp
 |i::is,[],ρ,j,h=>by simp
 |i::is,v::vs,ρ,j,h=>by
  simp only [List.zip_cons_cons,List.foldl_cons]
  rw [zi9 is vs _ j fun z=>h (List.mem_cons_of_mem _ z),List.getElem?_set_ne]
  rintro rfl
  exact h List.mem_cons_self
theorem ziY:∀(l:List Nat) (vs:List PV) (ρ:IC.Env),((l.zip vs).foldl (fun ρ p=>ρ.set p.1 (some p.2)) ρ).length=ρ.length
 | [],vs,ρ=>by simp
 |i::is,[],ρ=>by simp
 |i::is,v::vs,ρ=>by
  simp only [List.zip_cons_cons,List.foldl_cons]
  rw [ziY is vs,List.length_set]
theorem RepE.untgt {sl:List (Option Nat)}{ρ0 ρ1:IC.Env}{v:PV}(hf:tgtFree ct sl=true)(h0:∀(i:Nat),sl[i]?=some none->ρ0[i]?=some none)(hb:bindT ct v ρ0=some ρ1)(re:RepE K cl B φ H ρ1 σ):RepE K cl B φ H ρ0 σ:=by
 cases ct with
 |n i =>
  cases hb
  simp only [tgtFree,decide_eq_true_eq] at hf
  refine ⟨by rw [<- re.len,List.length_set],fun j w e=>re.get j w ?_⟩
  rw [List.getElem?_set_ne]
  ·exact e
  ·rintro rfl
   rw [h0 _ hf] at e;cases e
 |t l =>
  cases v with
  |tp k vs =>
   simp only [bindT] at hb
   split at hb
   ·cases hb
    simp only [tgtFree,List.all_eq_true,decide_eq_true_eq] at hf
    refine ⟨by rw [<- re.len,ziY],fun j w e=>re.get j w ?_⟩
    rw [zi9]
    ·exact e
    ·intro z
     rw [h0 _ (hf j z)] at e;cases e
   ·cases hb
  |_=>cases hb
theorem RepE.inn {sl:List (Option Nat)}(re:RepE K cl B φ H ρ σ):RepE K cl B φ H (sl.map fun o=>o.bind fun j=>(ρ[j]?).join) (L2.inn sl σ):=by
 unfold L2.inn
 refine ⟨by simp,fun i v e=>?_⟩
 rw [List.getElem?_map] at e ⊢
 cases q:sl[i]? with
 |none=>rw [q] at e;cases e
 |some o =>
  rw [q] at e
  cases o with
  |none=>cases e
  |some j =>
   simp only [Option.map_some,Option.bind_some,Option.some.injEq] at e ⊢
   cases q2:ρ[j]? with
   |none=>rw [q2] at e;cases e
   |some w =>
    rw [q2] at e
    simp only [Option.join_some] at e
    subst e
    obtain ⟨x,hx,rv⟩:=re.get j v q2
    exact ⟨x,by rw [hx];rfl,rv⟩
theorem million1:1000000<sizeLine:=by rw [sizeLine_eq];decide
theorem zmu {α:Type}{o:Option Bool}{k:Bool->R α}{z:α}{s:Store}(h:onO o k=.ok z s):∃b,o=some b/\k b=.ok z s:=by
 cases o with
 |none=>cases h
 |some b=>exact ⟨b,rfl,h⟩
theorem zea {α β:Type}{r:R α}{k:α->Store->R β}{z:β}{s:Store}(h:r.bind k=.ok z s):∃a s1,r=.ok a s1/\k a s1=.ok z s:=by
 cases r with
 |ok a s1=>exact ⟨a,s1,rfl,h⟩
 |exc c s=>cases h
 |bad=>cases h
theorem zhW {sl:List (Option Nat)}(hf:tgtFree ct sl=true){H:Hp}{Q:VK}(h:tE S X (.comp sl ct ci cc ce) σ H Q):tComp sl (tI S X ci) (tG0 S X.K ct) (tT0 S X.K cc) (tE0 S X.K ce) σ H Q:=by
  obtain ⟨B,φ,st,ρ,rs,re,h⟩:=h
  simp only [ev] at h
  refine ⟨B,φ,st,ρ,rs,re,(Run.bind h).mono fun J H1 ⟨xs,st1,φ1,s1,rs1,dr,h1⟩=>fun D hD=>?_⟩
  generalize hone:(fun (x:PV) (st2:Store)=>match bindT ct x (sl.map fun o=>o.bind fun j=>(ρ[j]?).join) with
   |none=>(R.bad:R (Option PV))
   |some ρ1=>(ev S.call ρ1 st2 cc).bind fun b st3=>onO (truV st3 b) fun k=>cond k ((ev S.call ρ1 st3 ce).bind fun y st4=>.ok (some y) st4) (.ok none st3))=one at h1
  cases e:compL one xs st1 with
  |exc k s=>rw [e] at h1;exact h1.elim
  |bad=>rw [e] at h1;exact h1.elim
  |ok zs st5 =>
   rw [e] at h1
   simp only [lstR] at h1
   split at h1
   case isFalse=>exact h1.elim
   rename_i hz
   have nB:¬B D:=rs1.nB hD
   have nD:some D∉φ1:=fun z=>by
    obtain ⟨w,e⟩:=rs1.there z
    rw [hD] at e;cases e
   refine ⟨fun i m σc ys H2=>∃φ2 st2 vs rest,i+m=xs.length/\Step φ1 H1 φ2 H2/\H2 D=some (.lst ys)/\some D∉φ2/\RepS X.K S.cl (Bx B D) φ2 H2 st2/\RepE X.K S.cl (Bx B D) φ2 H2 (sl.map fun o=>o.bind fun j=>(ρ[j]?).join) σc /\
     RepL X.K S.cl (Bx B D) φ2 H2 vs ys/\compL one (xs.drop i) st2=.ok rest st5/\vs++rest=zs,
    ⟨xs.length,φ1,st1,[],zs,by omega,.upd hD,zal,nD,rs1.more hD,(RepE.inn (re.step s1)).more hD,by simp only [RepL],by simpa using e,rfl⟩,?_⟩
   rintro i m σc ys H2 ⟨φ2,st2,vs,rest,hm,s2,hD2,nD2,rs2,re2,l2,ec,ez⟩
   refine ⟨hD2,?_⟩
   by_cases hi:i<xs.length
   ·have hl2:=l2.length
    have hml:=million1
    have hzl:=congrArg List.length ez
    rw [List.length_append] at hzl
    refine .inr ⟨dr.go i φ2 H2 s2 hi,by omega,fun σ' ys' H'=>∃φ2 st2 vs rest,Step φ1 H1 φ2 H'/\H' D=some (.lst ys')/\some D∉φ2/\RepS X.K S.cl (Bx B D) φ2 H' st2/\RepE X.K S.cl (Bx B D) φ2 H' (sl.map fun o=>o.bind fun j=>(ρ[j]?).join) σ' /\
     RepL X.K S.cl (Bx B D) φ2 H' vs ys'/\compL one (xs.drop (i+1)) st2=.ok rest st5/\vs++rest=zs,fun σ' ys' H' ⟨φ2,st2,vs,rest,q⟩=>⟨m - 1,by omega,φ2,st2,vs,rest,by omega,q⟩,fun x H3 hy=>?_⟩
    obtain ⟨v,hv,rv,kk⟩:=dr.yld i φ2 H2 st2 x H3 (Bx B D) (fun y z=>z.elim .inl fun q=>.inr (q ▸ hD)) s2 rs2 hi hy
    have s3:Step φ2 H2 φ2 H3:=⟨fun b o _ e=>kk b o e,Nat.le_refl _,fun _ _ _ e=>e,fun _ h=>.inl h⟩
    have rs3:RepS X.K S.cl (Bx B D) φ2 H3 st2:=rs2.same kk
    have ed:xs.drop i=v::xs.drop (i+1):=by
     rw [List.drop_eq_getElem_cons hi]
     rw [List.getElem?_eq_getElem hi] at hv
     rw [Option.some.inj hv]
    rw [ed,compL] at ec
    obtain ⟨o,st3,e1,ec⟩:=zea ec
    obtain ⟨rest',st4,e2,ec⟩:=zea ec
    rw [<- hone] at e1
    dsimp only at e1
    cases eb:bindT ct v (sl.map fun o=>o.bind fun j=>(ρ[j]?).join) with
    |none=>rw [eb] at e1;cases e1
    |some ρ1 =>
     rw [eb] at e1
     dsimp only at e1
     obtain ⟨bv,st6,e3,e1⟩:=zea e1
     obtain ⟨k,e4,e1⟩:=zmu e1
     have er:st4=st5/\consO o rest'=rest:=by
      injection ec with q1 q2
      exact ⟨q2,q1⟩
     obtain ⟨rfl,rfl⟩:=er
     refine ⟨Bx B D,φ2,st2,_,v,ρ1,rs3,re2.step s3,rv,eb,fun σ4 re4=>⟨Bx B D,φ2,st2,ρ1,rs3,re4,?_⟩⟩
     have et:truR (ev S.call ρ1 st2 cc)=.ok k st6:=by
      rw [e3]
      simp only [truR,R.bind,e4,onO]
     rw [et]
     rintro k' H5 φ5 s5 rs5 rfl
     have nD5:some D∉φ5:=fun z=>by
      rcases s5.new D z with q|q
      ·exact nD2 q
      ·rw [kk D _ hD2] at q;cases q
     have hD5:H5 D=some (.lst ys):=s5.keep D _ nD2 (kk D _ hD2)
     have s25:Step φ1 H1 φ5 H5:=s2.trans (s3.trans s5)
     have l5:=(l2.step s3).step s5
     have re5:RepE X.K S.cl (Bx B D) φ5 H5 ρ1 σ4:=re4.step s5
     have h0:∀(i:Nat),sl[i]?=some none->(sl.map fun o=>o.bind fun j=>(ρ[j]?).join)[i]?=some none:=fun i q=>by
      rw [List.getElem?_map,q];rfl
     cases k with
     |false =>
      simp only [cond_false] at e1
      cases e1
      exact ⟨φ5,_,vs,rest',s25,hD5,nD5,rs5,RepE.untgt hf h0 eb re5,l5,e2,ez⟩
     |true =>
      simp only [cond_true] at e1
      obtain ⟨y,st7,e5,e1⟩:=zea e1
      cases e1
      refine ⟨Bx B D,φ5,st6,ρ1,rs5,re5,?_⟩
      rw [e5]
      intro y' H6 φ6 s6 rs6 ry
      have nD6:some D∉φ6:=fun z=>by
       rcases s6.new D z with q|q
       ·exact nD5 q
       ·rw [hD5] at q;cases q
      have hD6:H6 D=some (.lst ys):=s6.keep D _ nD5 hD5
      have hBD:Bx B D D:=.inr rfl
      refine ⟨hD6,φ6,_,vs++[y],rest',?_,zal,nD6,rs6.skip hBD,(RepE.untgt hf h0 eb (re5.step s6)).skip hBD,((l5.step s6).append (by simp only [RepL];exact ⟨y',[],rfl,ry,rfl⟩)).skip hBD,e2,?_⟩
      ·have s16:=s25.trans s6
       exact ⟨fun b o n q=>by rw [z4 (zad q hD)];exact s16.keep b o n q,s16.len,s16.pre,s16.new⟩
      ·simpa [consO] using ez
   ·have ei:i=xs.length:=by omega
    subst ei
    rw [List.drop_length,compL] at ec
    cases ec
    refine .inl ⟨dr.stop φ2 H2 s2,h1 (.ref D) H2 φ2 s2 rs2.less ?_⟩
    simp only [RepV]
    exact ⟨D,ys,rfl,⟨hD2,nB,nD2⟩,by rw [<- ez,List.append_nil];exact l2.less⟩
theorem zbO {sc:Scope}{NC:List Str}{sl:List (Option Nat)}{ifs:List Expr}(hc:X.calm=true)(O:CompOk X sc NC sl)(hf:tgtFree ct sl=true)(hi:KqI X tg iter (tI S X ci))(hg:∀j,KqG (cxC X sc NC j) tg (tG0 S X.K ct))
  (ht:∀j,KqTs (cxC X sc NC j) ifs (tT0 S X.K cc)) (he:∀j,KqE (cxC X sc NC j) elt (tE0 S X.K ce)) (hs:∀x,foldedSetIterable iter X.env x=pure x:=by intro _;rfl) :
  KqE X (.ListComp elt [⟨tg,iter,ifs,0⟩] sc pos) (tE S X (.comp sl ct ci cc ce)):= by
 with_unfolding_all
 exact PE.imp (zmK hc O hi hg ht he hs) fun σ H Q h=>zhW hf h
theorem zh9 {sc:Scope}{NC:List Str}{sl:List (Option Nat)}{ifs:List Expr}{i:Nat}{x:Str}{spos:Pos}(hN:X.N.Nodup)(hix:X.N[i]?=some x)(hx:Loc X.env.scope x)(hc:X.calm=true)(O:CompOk X sc NC sl)(hf:tgtFree ct sl=true)(hi:KqI X tg iter (tI S X ci))(hg:∀j,KqG (cxC X sc NC j) tg (tG0 S X.K ct))
  (ht:∀j,KqTs (cxC X sc NC j) ifs (tT0 S X.K cc)) (he:∀j,KqE (cxC X sc NC j) elt (tE0 S X.K ce))
  (hsw:swapsWith (.ListComp elt [⟨tg,iter,ifs,0⟩] sc pos) (some (.Name x px)) spos.line X.env=pure true:=by rfl) (hs:∀x,foldedSetIterable iter X.env x=pure x:=by intro _;rfl)
  (hfn:X.fn x=true \/ X.env.scope.names.lookup x=some .local:=by first|exact .inl rfl|exact .inr rfl|assumption):KqS X (.Assign [.Name x px] (.ListComp elt [⟨tg,iter,ifs,0⟩] sc pos) spos) (tS S X (.asg (.n i) (.comp sl ct ci cc ce))):= by
 with_unfolding_all
 exact PS.imp (zkp hN hix hx hc O hi hg ht he hsw hs hfn) fun D σ H ⟨B,φ,st,ρ,rs,re,h⟩=>by
  refine zhW hf ?_
  simp only [ex] at h
  exact tE.fl rs re h fun x H1 v st1 φ1 s rs1 re1 rv h1=>h1 _ H1 φ1 .rfl rs1 (re1.set i rv)
end
noncomputable def spI (K:PySem.W.Frag)(cl:Nat->Addr)(call:Nat->List PV->Store->R PV)(f:Nat):Sp:=fun vs H Q E=>∃B φ st args,RepS K cl B φ H st/\RepL K cl B φ H args vs/\match call f args st with
 | .ok v st'=>∀x H' φ',Step φ H φ' H'->RepS K cl B φ' H' st'->RepV K cl B φ' H' v x->Q x H'
 | .exc c st'=>∀H' φ',Step φ H φ' H'->RepS K cl B φ' H' st'->E (.ref (cl c)) none H'
 | .bad=>False
section
variable {S:Se}{X:Cx}{k:Nat}{f:Addr}{fd:FuncData}{ps ks:List Str}{sp:Sp}{dvs:List V}{ds:List Value}{x:Str}{p pos:Pos}{e:Expr}{es:List Expr}{t tk:TA}{CX:CXT}{σ:St}{H:Hp}
theorem zmG {pins:List (Addr×Obj)}{s:Shared}{Q:VK}{us:List Value}{vs:List V}{E:XK}(F:FnOk X.prog X.w X.K X.mg X.base CX k f fd ps sp)(hr:Room k X.A)(hb:Binds X.K fd ps ds)(hd:Vals dvs ds)
  (I:Inv X pins σ H s) (r:Vals vs us) (h:sp (vs++dvs) H Q E) (hx:∀e s',CX X.stack H s E e s'->X.xe e s'):wpAny (model X.prog X.w) X.A (call (.ref f) us) (EP X pins σ Q) X.xe s:=by
 have r2:Vals (vs++dvs) (us++ds):=r.append hd
 have hl:(us++ds).length=ps.length:=by rw [<- r2.length];exact F.len _ _ _ _ h
 refine wpAny_call (codeAny_mono (F.run X.A X.stack s H ⟨us,[]⟩ (us++ds) (vs++dvs) Q E hr I.env0 (hb s us I.kIn hl) r2 h) fun r s' hq=>?_)
 cases r with
 |error e=>exact hx e s' hq
 |ok fl =>
  cases fl with
  |ret u=>exact I.after hq
  |next=>exact False.elim hq
  |brk=>exact False.elim hq
  |cont=>exact False.elim hq
noncomputable def tCallS (CX:CXT)(X:Cx)(sp:Sp)(dvs:List V)(t:TA):TE:=fun σ H Q=>t σ H fun vs H1=>∃E:XK,sp (vs++dvs) H1 Q E/\∀pins s e s',Inv X pins σ H1 s->CX X.stack H1 s E e s'->X.xe e s'
theorem zlN (F:FnOk X.prog X.w X.K X.mg X.base CX k f fd ps sp)(hr:Room k X.A)(hg:Gl X x)(hm:X.mg x=some (.ref f))(hk:PySem.W.keepIn X.K (.ref f)=true)(hb:Binds X.K fd ps ds)(hd:Vals dvs ds)
  (ha:PA X (e::es) t) (hdb:(x == ("__debug__":Str))=false:=by decide) (he:starEach (e::es) X.env=(false,eval e X.env)::starEach es X.env:=by rfl) (hpl:(backTo pos (starEach es X.env)).any (·.1)=false:=by rfl) :
  PE X (.Call (.Name x p) (e::es) [] pos) (tCallS CX X sp dvs t):=by
 intro pins s σ H Q I h
 refine wpAny_Call_Name_kw (zkf I hg hm ?_ hdb)
 refine PySem.W.callWith_K (h₀:=X.base) I.ok.mod.kin hk (thn (ha pos pins s σ H _ I h) fun us s1 ⟨vs,H1,I1,r,E,q,hx⟩=>⟨I1.kIn,?_⟩) he hpl
 exact zmG F hr hb hd I1 r q fun e s' c=>hx pins s1 e s' I1 c
variable {B:Addr->Prop}{φ:Ph}{st:Store}{ces:Ces}{fi:Nat}
theorem zkw {vs:List PV}{xs:List V}{Q:VK}(rs:RepS X.K S.cl B φ H st)(l:RepL X.K S.cl B φ H vs xs)(h:Run S X σ B φ H (RV S X B) (S.call fi vs st) Q) :
  ∃E:XK,spI X.K S.cl S.call fi xs H Q E/\∀pins s e s',Inv X pins σ H s->CX1 X.prog X.w X.stack H s E e s'->X.xe e s':=by
 cases c:S.call fi vs st with
 |ok v st' =>
  rw [c] at h
  refine ⟨fun _ _ _=>False,⟨B,φ,st,vs,rs,l,by rw [c];exact h⟩,fun pins s e s' _ z=>?_⟩
  obtain ⟨_,_,_,_,_,_,_,_,_,_,_,_,_,_,z⟩:=z
  exact z.elim
 |exc k st' =>
  rw [c] at h
  refine ⟨fun cls _ H'=>cls=.ref (S.cl k)/\∃φ',Step φ H φ' H'/\RepS X.K S.cl B φ' H' st',⟨B,φ,st,vs,rs,l,by rw [c];exact fun H' φ' s r=>⟨rfl,φ',s,r⟩⟩,fun pins s e s' I z=>h e s' (.inl ⟨pins,H,s,φ,I,.rfl,z⟩)⟩
 |bad=>rw [c] at h;exact h.elim
theorem zo (F:FnOk X.prog X.w X.K X.mg X.base (CX1 X.prog X.w) k f fd ps (spI X.K S.cl S.call fi))(hr:Room k X.A)(hg:Gl X x)(hm:X.mg x=some (.ref f))(hk:PySem.W.keepIn X.K (.ref f)=true)(hb:Binds X.K fd ps [])
  (ha:KqA X (e::es) (tAs S X ces)) (hdb:(x == ("__debug__":Str))=false:=by decide) (he:starEach (e::es) X.env=(false,eval e X.env)::starEach es X.env:=by rfl) (hpl:(backTo pos (starEach es X.env)).any (·.1)=false:=by rfl) :
  KqE X (.Call (.Name x p) (e::es) [] pos) (tE S X (.call fi ces)):= by
 with_unfolding_all
 exact PE.imp (zlN F hr hg hm hk hb .nil ha hdb he hpl) fun σ H Q ⟨B,φ,st,ρ,rs,re,h⟩=>by
  simp only [ev] at h
  refine tAs.bind rs re h fun xs H1 vs st1 φ1 s1 rs1 re1 rv h1=>?_
  rw [List.append_nil]
  exact zkw rs1 rv h1
end
section
variable {P:Program}{w:World}{K:PySem.W.Frag}{mg:Str->Option Value}{base:Heap}{cl:Nat->Addr}{T:Nat->Option IC.Fn}{fi:Nat}{fn:IC.Fn}{x qual:Str}{stm:Stmt}{f:Addr}{fd:FuncData}{N ps:List Str}{k:Nat}
theorem CX1.mono {outer:List PySem.Env}{H:Hp}{s:Shared}{E E':XK}{e:Value}{s':Shared}(h:CX1 P w outer H s E e s')(n:∀cls H',E cls none H'->E' cls none H'):CX1 P w outer H s E' e s':=by
 obtain ⟨a,cls,a0,H',Bh,r1,r2,r3,r4,r5,r6,r7,r8,r9,r10⟩:=h
 exact ⟨a,cls,a0,H',Bh,r1,r2,r3,r4,r5,r6,r7,r8,r9,n _ _ r10⟩
theorem RepE.start {B:Addr->Prop}{φ:Ph}{H:Hp}{args:List PV}{vs:List V}(l:RepL K cl B φ H args vs)(n:Nat)(hn:N.length - vs.length=n):RepE K cl B φ H (args.map some++List.replicate n none) (L2.start N vs):=by
 have hl:=l.length
 unfold L2.start
 refine ⟨by simp [hl,hn],fun i v e=>?_⟩
 by_cases hi:i<args.length
 ·rw [List.getElem?_append_left (by simpa using hi),List.getElem?_map] at e
  cases q:args[i]? with
  |none=>rw [q] at e;cases e
  |some v' =>
   rw [q] at e
   cases e
   obtain ⟨y,hy,rv⟩:=l.get i q
   exact ⟨y,by rw [List.getElem?_append_left (by simp;omega),List.getElem?_map,hy];rfl,rv⟩
 ·rw [List.getElem?_append_right (by simp;omega),List.getElem?_replicate] at e
  split at e <;> cases e
theorem leave {N:List Str}{scope:Scope}{cd:Value}{A:Around}{outer:List PySem.Env}{s₀:Shared}{H₀:Hp}{E:XK}{call:Nat->List PV->Store->R PV}{σ:St}{B:Addr->Prop}{φ:Ph}{H:Hp}{c:Nat}{st':Store}{e:Value}{s':Shared}
  (h:ExcAt ⟨cl,call,true⟩ (cxOf (CX1 P w) P w K mg base N qual scope f cd A outer s₀ H₀ E) σ B φ H c st' e s') (n:∀φ' H',Step φ H φ' H'->RepS K cl B φ' H' st'->E (.ref (cl c)) none H') :
  (cxOf (CX1 P w) P w K mg base N qual scope f cd A outer s₀ H₀ E).xe e s':=by
 rcases h with ⟨pins,H1,s,φ1,I,s1,q⟩|⟨_,pins,H1,s,φ1,h',e0,vs,I,s1,rs,mk,rfl,rfl⟩
 ·exact pass1 pins σ H1 s e s' I (q.mono fun cls H' ⟨e1,φ',s2,r⟩=>by subst e1;exact n φ' H' (s1.trans s2) r)
 ·exact zkg I mk (n φ1 H1 s1 rs)
theorem zml (hT:T fi=some fn):∀(args:List PV) (st:Store),callT T (k+1) fi args st ≠ .bad->args.length=fn.np:=fun args st hne=>by
 apply Classical.byContradiction
 intro c
 apply hne
 rw [callT,hT]
 exact if_neg c
theorem zog (hT:T fi=some fn)(hnp:ps.length=fn.np){vs:List V}{H:Hp}{Q:VK}{E:XK}(h:spI K cl (callT T (k+1)) fi vs H Q E):vs.length=ps.length:=by
 obtain ⟨B,φ,st,args,rs,l,h⟩:=h
 rw [hnp,<- l.length]
 refine zml (k:=k) hT args st fun z=>?_
 rw [z] at h
 exact h
theorem zm2 (hT:T fi=some fn)(hns:N.length=fn.ns){scope:Scope}{cdv:Value}{A:Around}{outer:List PySem.Env}{s:Shared}{vs:List V}{H:Hp}{Q:VK}{E:XK}(h:spI K cl (callT T (k+1)) fi vs H Q E) :
  tSs ⟨cl,callT T k,true⟩ (cxOf (CX1 P w) P w K mg base N qual scope f cdv A outer s H E) fn.body { nx:=fun _ H'=>Q .non H',rt:=Q } (L2.start N vs) H:=by
 obtain ⟨B,φ,st,args,rs,l,h⟩:=h
 have hl:args.length=fn.np:=zml (k:=k) hT args st fun z=>by rw [z] at h;exact h
 have hlen:=l.length
 rw [callT,hT] at h
 dsimp only at h
 rw [if_pos hl] at h
 by_cases hp:fn.pure=true
 ·rw [if_pos hp] at h
  by_cases hz:noLocs args=true
  ·rw [if_pos hz] at h
   have rs0:RepS K cl (fun a=>B a \/ some a∈φ) [] H []:=⟨rfl,fun m n a e=>by simp at e,fun n a e=>by simp at e,fun n o e=>by simp at e,fun a z=>by simp at z,fun a z=>z.elim (rs.dom a) rs.there⟩
   have back:∀{φ':Ph} {H':Hp},Step [] H φ' H'->Step φ H φ H'/\RepS K cl B φ H' st:=fun {φ' H'} s' =>
    have kk:∀b o,H b=some o->H' b=some o:=fun b o e=>s'.keep b o (by simp) e
    ⟨⟨fun b o _ e=>kk b o e,Nat.le_refl _,fun _ _ _ e=>e,fun _ h=>.inl h⟩,rs.same kk⟩
   refine ⟨_,[],[],_,rs0,RepE.start (RepL.inn rs.nb args vs hz l) (fn.ns - fn.np) (by omega),?_⟩
   show RunF _ _ _ _ _ (exs (callT T k) (args.map some++List.replicate (fn.ns - fn.np) none) [] fn.body) _
   cases e:exs (callT T k) (args.map some++List.replicate (fn.ns - fn.np) none) [] fn.body with
   |nx ρ' st' =>
    rw [e] at h
    intro σ' H' φ' s' rs' re'
    obtain ⟨s2,r2⟩:=back s'
    exact h .non H' φ s2 r2 (by simp only [RepV])
   |rt v st' =>
    rw [e] at h
    dsimp only at h
    by_cases hv:noLoc v=true
    ·rw [if_pos hv] at h
     intro y H' φ' s' rs' rv
     obtain ⟨s2,r2⟩:=back s'
     exact h y H' φ s2 r2 (RepV.out v y hv rv)
    ·rw [if_neg hv] at h
     exact h.elim
   |exc c ρ' st' =>
    rw [e] at h
    intro σ' φ1 H1 ev s' s1 _ ex
    refine leave ex fun φ2 H2 s2 _=>?_
    obtain ⟨s3,r3⟩:=back (s1.trans s2)
    exact h H2 φ s3 r3
   |bk ρ' st'=>rw [e] at h;exact h.elim
   |ct ρ' st'=>rw [e] at h;exact h.elim
   |bad=>rw [e] at h;exact h.elim
  ·rw [if_neg hz] at h
   exact h.elim
 ·rw [if_neg hp] at h
  refine ⟨B,φ,st,_,rs,RepE.start l (fn.ns - fn.np) (by omega),?_⟩
  show RunF _ _ _ _ _ (exs (callT T k) (args.map some++List.replicate (fn.ns - fn.np) none) st fn.body) _
  cases e:exs (callT T k) (args.map some++List.replicate (fn.ns - fn.np) none) st fn.body with
  |nx ρ' st' =>
   rw [e] at h
   intro σ' H' φ' s' rs' re'
   exact h .non H' φ' s' rs' (by simp only [RepV])
  |rt v st' =>
   rw [e] at h
   intro y H' φ' s' rs' rv
   exact h y H' φ' s' rs' rv
  |exc c ρ' st' =>
   rw [e] at h
   intro σ' φ1 H1 ev s' s1 _ ex
   exact leave ex fun φ2 H2 s2 r2=>h H2 φ2 (s1.trans s2) r2
  |bk ρ' st'=>rw [e] at h;exact h.elim
  |ct ρ' st'=>rw [e] at h;exact h.elim
  |bad=>rw [e] at h;exact h.elim
theorem zV (hT:T fi=some fn)(F:Fun K x qual stm f fd)(Sc:FnScope N ps (defScope stm))(hnp:ps.length=fn.np)(hns:N.length=fn.ns)
  (body:∀(cdv:Value) (A:Around) (outer:List PySem.Env) (s:Shared) (H:Hp) (E:XK),Room k (A.deeper (envOfC qual (defScope stm) s.heap.objs.size f cdv)) ->
   KqSs (cxOf (CX1 P w) P w K mg base N qual (defScope stm) f cdv A outer s H E) (defBody stm) (tSs ⟨cl,callT T k,true⟩ (cxOf (CX1 P w) P w K mg base N qual (defScope stm) f cdv A outer s H E) fn.body)) :
  FnOk P w K mg base (CX1 P w) (k+1) f fd ps (spI K cl (callT T (k+1)) fi):= by
 with_unfolding_all
 exact F.okX Sc (fun vs H Q E h=>zog hT hnp h) fun cdv A outer s H vs Q E hr h=>⟨_,body cdv A outer s H E hr,zm2 hT hns h⟩
theorem znB (hps:ps=ps):FnOk P w K mg base (CX1 P w) 0 f fd ps (spI K cl (callT T 0) fi) :=
 ⟨fun vs H Q E ⟨_,_,_,_,_,_,h⟩=>by rw [callT] at h;exact h.elim,fun A outer s H args us vs Q E _ _ _ _ ⟨_,_,_,_,_,_,h⟩=>by rw [callT] at h;exact h.elim⟩
end
noncomputable def tyN:Ty->String
 | .int=>"int" | .bool=>"bool" | .str=>"str" | .tuple=>"tuple" | .list=>"list" | _=>""
structure KitT (K:PySem.W.Frag)(t:Ty):Prop where
 n:PySem.W.kitOne K (.type "NoneType") (.type (tyN t))=some (isTy .non t)
 b:PySem.W.kitOne K (.type "bool") (.type (tyN t))=some (isTy (.bl true) t)
 i:PySem.W.kitOne K (.type "int") (.type (tyN t))=some (isTy (.int 0) t)
 s:PySem.W.kitOne K (.type "str") (.type (tyN t))=some (isTy (.str Str.empty) t)
 p:PySem.W.kitOne K (.type "tuple") (.type (tyN t))=some (isTy (.tp true []) t)
 l:PySem.W.kitOne K (.type "list") (.type (tyN t))=some (isTy (.lst []) t)
section
variable {S:Se}{X:Cx}{σ:St}{B:Addr->Prop}{φ:Ph}{H:Hp}{st:Store}{p pos p2 px:Pos}{a b c d o:Expr}{ca cb cc:Ce}{t:Ty}
noncomputable def rIsi (S:Se)(X:Cx)(t:Ty):List V->Hp->VK->Prop:=fun xs H Q=>∃B φ st v x z,xs=[x,.ty (tyN t)]/\RepS X.K S.cl B φ H st/\RepV X.K S.cl B φ H v x/\isiV v [t]=some z/\isBl t=true /\
 ∀z' H' φ',Step φ H φ' H'->RepS X.K S.cl B φ' H' st->RepV X.K S.cl B φ' H' z z'->Q z' H'
theorem zoG (Z:KitT X.K t):CallR X (.builtin "isinstance") (rIsi S X t):=by
 rintro pins s σ H xs us Q I r ⟨B,φ,st,v,x,z,rfl,rs,rv,e,hb,q⟩
 obtain ⟨u,c',rfl,ru,rc⟩:=vals2 r
 cases (show c'=Value.type (tyN t) from rc)
 have fin:∀(k:Bool) (tk:Nat),z=.bl k->EP X pins σ Q (.bool k) { s with toks:=tk }:=fun k tk ez=>⟨.bl k,H,I.tok tk,rfl,q _ H φ .rfl rs (by subst ez;simp only [RepV])⟩
 cases v with
 |non =>
  simp only [RepV] at rv;subst rv
  cases (show u=Value.none from ru)
  simp only [isiV,hb,if_true] at e
  exact PySem.W.kia_one PySem.W.kitx_none I.kIn True.intro Z.n (fun z=>nomatch z) fun tk=>fin _ tk (by cases e;cases t <;> rfl)
 |bl k =>
  simp only [RepV] at rv;subst rv
  cases (show u=Value.bool k from ru)
  simp only [isiV,hb,if_true] at e
  exact PySem.W.kia_one PySem.W.kitx_bool I.kIn True.intro Z.b (fun z=>nomatch z) fun tk=>fin _ tk (by cases e;cases t <;> rfl)
 |int k =>
  simp only [RepV] at rv;subst rv
  obtain ⟨tk,rfl⟩:=ru
  simp only [isiV,hb,if_true] at e
  exact PySem.W.kia_one PySem.W.kitx_int I.kIn True.intro Z.i (fun z=>nomatch z) fun tk=>fin _ tk (by cases e;cases t <;> rfl)
 |str k =>
  simp only [RepV] at rv;subst rv
  obtain ⟨tk,rfl⟩:=ru
  simp only [isiV,hb,if_true] at e
  exact PySem.W.kia_one PySem.W.kitx_str I.kIn True.intro Z.s (fun z=>nomatch z) fun tk=>fin _ tk (by cases e;cases t <;> rfl)
 |tp k vs =>
  simp only [RepV] at rv
  obtain ⟨y,ys,rfl,rt,l⟩:=rv
  cases (show u=Value.ref y from ru)
  simp only [isiV,hb,if_true] at e
  obtain ⟨its,_,⟨o,g,c,_,_⟩,_⟩:=I.tuple rt.sq
  exact PySem.W.kia_one PySem.W.kitx_tuple I.kIn ⟨o,g,c⟩ Z.p (fun z=>nomatch z) fun tk=>fin _ tk (by cases e;cases t <;> rfl)
 |lst vs =>
  simp only [RepV] at rv
  obtain ⟨y,ys,rfl,rt,l⟩:=rv
  cases (show u=Value.ref y from ru)
  simp only [isiV,hb,if_true] at e
  obtain ⟨_,_,n,_,h1⟩:=(show ObjOk X.prog X.w H s.heap y (.lst ys) from I.hok y _ rt.1)
  exact PySem.W.kia_one PySem.W.kitx_list I.kIn ⟨_,h1,rfl⟩ Z.l (fun z=>nomatch z) fun tk=>fin _ tk (by cases e;cases t <;> rfl)
 |loc n=>cases e
 |scr n=>cases e
 |exn n=>simp only [isiV,List.all_cons,List.all_nil,hb,Bool.and_self,if_true] at e;cases e
theorem z5 {T:Str}(Z:KitT X.K t)(ht:isBl t=true)(hg:Gl X "isinstance")(hm:X.mg "isinstance"=none)(hgT:Gl X T)(hmT:X.mg T=none)(hT:bootBuiltins T=some (.type (tyN t)))(ha:KqE X a (tE S X ca))(hnT:T ≠ "__name__":=by decide)(hdT:(T == ("__debug__":Str))=false:=by decide)
  (he:starEach [a,.Name T p2] X.env=(false,eval a X.env)::starEach [.Name T p2] X.env:=by rfl) (hpl:(backTo pos (starEach [.Name T p2] X.env)).any (·.1)=false:=by rfl) :
  KqE X (.Call (.Name "isinstance" p) [a,.Name T p2] [] pos) (tE S X (.isi ca [t])):= by
 with_unfolding_all
 exact PE.imp (zi4 (zoG Z) hg hm PyProof.Rows.boot_isinstance (zeS ha (zeS (znk (v:=.ty (tyN t)) hgT hmT hT rfl hnT hdT) pa_nil) he) (by decide) (by decide) he hpl) fun σ H Q ⟨B,φ,st,ρ,rs,re,h⟩=>by
  simp only [ev] at h
  refine tE.bind rs re h fun x H1 v st1 φ1 s1 rs1 re1 rv h1=>?_
  obtain ⟨z,e,q⟩:=zc0 h1 rs1
  exact ⟨B,φ1,st1,v,x,z,rfl,rs1,rv,e,ht,q⟩
theorem zjo {st4:Store}{x y v:PV}(h:sixV st x y v=some st4):∃n xs k j,x=.loc n/\st[n]?=some (.lst xs)/\y=.int k/\ixI xs.length k=some j/\st4=st.set n (.lst (xs.set j v)):=by
 cases x with
 |loc n =>
  simp only [sixV] at h
  cases q:st[n]? with
  |none=>rw [q] at h;cases h
  |some o =>
   rw [q] at h
   cases o with
   |lst xs =>
    cases y with
    |int k =>
     dsimp only at h
     cases q2:ixI xs.length k with
     |none=>rw [q2] at h;cases h
     |some j=>rw [q2] at h;exact ⟨n,xs,k,j,rfl,q,rfl,q2,(Option.some.inj h).symm⟩
    |_=>cases h
   |_=>cases h
 |_=>cases h
theorem RepL.put {K:PySem.W.Frag}{cl:Nat->Addr}:∀{vs:List PV} {xs:List V} (j:Nat) {v:PV} {x:V},RepL K cl B φ H vs xs->RepV K cl B φ H v x->RepL K cl B φ H (vs.set j v) (xs.set j x)
 | [],xs,j,v,x,l,r=>by simp only [RepL] at l;subst l;simp [RepL]
 |w::vs,xs,0,v,x,l,r=>by
  simp only [RepL] at l
  obtain ⟨y,ys,rfl,_,l⟩:=l
  simp only [List.set_cons_zero,RepL]
  exact ⟨x,ys,rfl,r,l⟩
 |w::vs,xs,j+1,v,x,l,r=>by
  simp only [RepL] at l
  obtain ⟨y,ys,rfl,ry,l⟩:=l
  simp only [List.set_cons_succ,RepL]
  exact ⟨y,ys.set j x,rfl,ry,RepL.put j l r⟩
theorem zdy (he:KqE X a (tE S X ca))(ho:KqE X b (tE S X cb))(hi:KqE X c (tE S X cc))(hs:swapsWithSole [.Subscript b c px] a pos.line X.env=pure false:=by rfl)(hw:swappedStores [.Subscript b c px] a X.env=pure none:=by rfl)
  (hg:KqG X (.Subscript b c px) (gSub (tE S X cb) (tE S X cc) rSetL):=by exact zmh ‹_› ‹_› zbG):KqS X (.Assign [.Subscript b c px] a pos) (tS S X (.six cb cc ca)):= by
 with_unfolding_all
 exact PS.imp (zjZ he hg hs hw) fun D σ H ⟨B,φ,st,ρ,rs,re,h⟩=>by
  simp only [ex] at h
  refine tE.fl rs re h fun v' H1 v st1 φ1 s1 rs1 re1 rv h1=>tE.fl rs1 re1 h1 fun x' H2 x st2 φ2 s2 rs2 re2 rx h2=>tE.fl rs2 re2 h2 fun y' H3 y st3 φ3 s3 rs3 re3 ry h3=>?_
  cases e:sixV st3 x y v with
  |none=>rw [e] at h3;exact h3.elim
  |some st4 =>
   rw [e] at h3
   obtain ⟨n,xs,k,j,rfl,hn,rfl,hj,rfl⟩:=zjo e
   simp only [RepV] at ry
   subst ry
   obtain ⟨l,ys,rfl,hp,hx,lr⟩:=rs3.list (rx.step s3) hn
   refine ⟨l,ys,k,j,rfl,rfl,hx,by rw [<- lr.length];exact hj,?_⟩
   have s4:Step φ3 H3 φ3 (L2.upd H3 l (.lst (ys.set j v'))):=.put (List.mem_of_getElem? hp)
   exact h3 σ _ φ3 s4 (rs3.put hp ⟨_,zal,(lr.put j ((rv.step s2).step s3)).step s4⟩) (re3.step s4)
end
section
variable {S:Se}{X:Cx}{σ:St}{B:Addr->Prop}{φ:Ph}{H:Hp}{st:Store}{p pos p2 px py pt pt2 apos:Pos}{a b c d o:Expr}{ca cb cc:Ce}{kt k2:Nat}
theorem zlx {i j:Nat}{x y:Str}(hc:X.calm=true)(hN:X.N.Nodup)(hi:X.N[i]?=some x)(hj:X.N[j]?=some y)(hij:i≠j)(h:KqS X (.Assign [.Tuple [.Name x px,.Name y py] kt pt] (.Tuple [a,b] k2 pt2) pos) (tPar i j (tAs S X (.cons ca (.cons cb .nil))))) :
  KqS X (.Assign [.Tuple [.Name x px,.Name y py] kt pt] (.Tuple [a,b] k2 pt2) pos) (tS S X (.asg (.t [i,j]) (.tup (.cons ca (.cons cb .nil))))):= by
 with_unfolding_all
 exact h.imp fun D σ H ⟨B,φ,st,ρ,rs,re,h⟩=>by
  simp only [ex,ev] at h
  refine ⟨B,φ,st,ρ,rs,re,?_⟩
  cases e:evs S.call ρ st (.cons ca (.cons cb .nil)) with
  |bad=>rw [e] at h;exact h
  |exc k st'=>rw [e] at h;exact fun e s' x=>h σ φ H e s' .rfl re x
  |ok vs st' =>
   rw [e] at h
   intro xs H' φ' s rs' l
   simp only [R.bind] at h
   split at h
   ·rcases vs with _|⟨v,_|⟨w,_|⟨u,t⟩⟩⟩
    ·exact h.elim
    ·exact h.elim
    ·obtain ⟨v',w',rfl,rv,rw⟩:=l.two
     refine ⟨v',w',rfl,?_⟩
     exact h _ H' φ' s rs' (((re.step s).set i rv).set j rw)
    ·exact h.elim
   ·exact h.elim
theorem znt {bo:BOp}{v w z:PV}(h:augV bo v w=some z):∃i j,v=.int i/\w=.int j/\IC.binI bo i j=some z:=by
 unfold augV at h
 split at h
 ·exact ⟨_,_,rfl,rfl,h⟩
 ·cases h
theorem znz:PIp X .Add (rT2 S X (augV .add)):=by
 rintro pins s σ H x y v u Q I rx ry ⟨B,φ,st,a,b,z,rs,ra,rb,e,q⟩
 obtain ⟨i,j,rfl,rfl,e⟩:=znt e
 cases e
 simp only [RepV] at ra rb
 subst ra rb
 exact zn0 pins s σ H _ _ v u Q I rx ry ⟨i,j,rfl,rfl,q _ H φ .rfl rs (by simp only [RepV])⟩
end
open Classical in
noncomputable def eqR (h:Heap)(dw:PyData)(u:Value):Bool:=decide (∃d as,Reads h u d as/\PyData.eqv d dw=true)
theorem zmf {h:Heap}{u:Value}{d dw:PyData}{as:List Addr}(r:Reads h u d as):eqR h dw u=PyData.eqv d dw:=by
 unfold eqR
 classical
 cases c:PyData.eqv d dw with
 |true=>exact decide_eq_true (p:=∃d as,Reads h u d as/\PyData.eqv d dw=true) ⟨d,as,r,c⟩
 |false =>
  refine decide_eq_false ?_
  rintro ⟨d',as',r',q⟩
  have:=(reads_det (fun b o e _=>e) r r').1
  subst this
  rw [c] at q
  cases q
section
variable {S:Se}{X:Cx}{σ:St}{B:Addr->Prop}{φ φ1:Ph}{H H1:Hp}{st:Store}{ρ:IC.Env}{p pos p2 px py pt pt2:Pos}{a b c d o a' b' c' d':Expr}{ca cb cc cd ce cf:Ce}{pins:List (Addr×Obj)}{s:Shared}{kt k2:Nat}{es:List Expr}{ces:Ces}{x:Str}
theorem zla (I:Inv X pins σ H s)(w:PV)(hw:shd 60 w=true):∀(vs:List PV) (xs:List V) (us:List Value),shds 60 vs=true->RepL X.K S.cl B φ H vs xs->Vals xs us->us.any (eqR s.heap (toD w))=inL w vs
 | [],xs,us,h,r,q=>by
  simp only [RepL] at r;subst r;cases q;rfl
 |v::vs,xs,us,h,r,q=>by
  simp only [RepL] at r
  obtain ⟨y,ys,rfl,rv,l⟩:=r
  simp only [shds,Bool.and_eq_true] at h
  cases q with
  |cons q1 q2 =>
   obtain ⟨as,z1⟩:=zcS (S:=S) I v 60 y _ h.1 rv q1
   rw [List.any_cons,zla I w hw vs ys _ h.2 l q2,zmf z1,zhy v w 60 60 h.1 hw]
   rfl
theorem zkm (I:Inv X pins σ H s)(w:PV)(hw:shd 60 w=true){wv:Value}{bs:List Addr}(zw:Reads s.heap wv (toD w) bs)(hu:X.A.units+64<cLine):∀(vs:List PV) (xs:List V) (us:List Value),shds 60 vs=true->RepL X.K S.cl B φ H vs xs->Vals xs us->∀u∈us,SeqAt.EqAt X.A.in1 s u wv (eqR s.heap (toD w) u)
 | [],xs,us,h,r,q=>by
  simp only [RepL] at r;subst r;cases q;intro u hu;cases hu
 |v::vs,xs,us,h,r,q=>by
  simp only [RepL] at r
  obtain ⟨y,ys,rfl,rv,l⟩:=r
  simp only [shds,Bool.and_eq_true] at h
  cases q with
  |cons q1 q2 =>
   obtain ⟨as,z1⟩:=zcS (S:=S) I v 60 y _ h.1 rv q1
   intro u hm
   rcases List.mem_cons.mp hm with rfl|hm
   ·rw [zmf z1]
    obtain ⟨l1,d1⟩:=zhE v 60 h.1
    obtain ⟨l2,d2⟩:=zhE w 60 hw
    refine SeqAt.eqAt_reads _ _ X.A.in1 s _ _ as bs z1 zw l1 l2 ?_
    show X.A.units+1+_<_
    omega
   ·exact zkm I w hw zw hu vs ys _ h.2 l q2 u hm
noncomputable def rTs (S:Se)(X:Cx)(f:Store->PV->PV->Option PV):R2:=fun x y H Q=>∃B φ st v w z,RepS X.K S.cl B φ H st/\RepV X.K S.cl B φ H v x/\RepV X.K S.cl B φ H w y/\f st v w=some z /\
 ∀z' H' φ',Step φ H φ' H'->RepS X.K S.cl B φ' H' st->RepV X.K S.cl B φ' H' z z'->Q z' H'
theorem znJ (hu:X.A.units+64<cLine):OpR X (compareOp .NotIn) (rTs S X ninV):=by
 rintro pins s σ H x y v u Q I rx ry ⟨B,φ,st,a,b,z,rs,ra,rb,e,q⟩
 cases b with
 |loc n =>
  simp only [ninV] at e
  split at e
  ·rename_i ws hz
   split at e
   ·rename_i c
    rw [Bool.and_eq_true] at c
    cases e
    obtain ⟨l,ys,rfl,hn,hx,lr⟩:=rs.list rb hz
    cases (show u=Value.ref l from ry)
    obtain ⟨_,its,k,r,hl,e2⟩:=I.lstM hx
    obtain ⟨bs,z1⟩:=zcS (S:=S) I a 60 x v c.1 ra rx
    refine SeqAt.notIn_listAt (eqR s.heap (toD a)) (items:=its.toArray) ⟨_,e2,rfl,_,rfl⟩ (fun w hw=>zkm (S:=S) I a c.1 z1 hu ws ys its c.2 lr r w (by simpa using hw)) ⟨.bl _,H,I,rfl,?_⟩
    rw [show its.toArray.any (eqR s.heap (toD a))=its.any (eqR s.heap (toD a)) by simp,zla (S:=S) I a c.1 ws ys its c.2 lr r]
    exact q _ H φ .rfl rs (by simp only [RepV])
   ·cases e
  ·cases e
 |_=>cases e
theorem zm8 {st:Store}{x y z:PV}(h:ninV st x y=some z):∃k,z=.bl k:=by
 unfold ninV at h
 split at h
 ·split at h
  ·split at h
   ·cases h;exact ⟨_,rfl⟩
   ·cases h
  ·cases h
 ·cases h
theorem zlM (hu:X.A.units+64<cLine)(ha:KqE X a (tE S X ca))(hb:KqE X b (tE S X cb))(hm:behindInMarks .NotIn b=false):KqT X (.Compare a [.NotIn] [b] pos) (tTs S X (.nin ca cb)):= by
 with_unfolding_all
 exact PT.imp (zlg (znJ hu) ha hb hm) fun σ H Q ⟨B,φ,st,ρ,rs,re,h⟩=>by
  simp only [ev,truR,R.bind_assoc] at h
  refine tE.bind rs re h fun x H1 v st1 φ1 s1 rs1 re1 rv h1=>tE.bind rs1 re1 h1 fun y H2 w st2 φ2 s2 rs2 re2 rw h2=>?_
  cases e:ninV st2 v w with
  |none=>rw [e] at h2;exact h2.elim
  |some z =>
   obtain ⟨k,rfl⟩:=zm8 e
   rw [e] at h2
   refine ⟨B,φ2,st2,v,w,.bl k,rs2,rv.step s2,rw,e,fun z' H' φ' s' rs' rz=>?_⟩
   simp only [RepV] at rz
   exact ⟨k,rz,h2 k H' φ' s' rs' rfl⟩
theorem zjK (hg:Gl X "list")(hm:X.mg "list"=none)(hv:bootBuiltins "list"=some (.type "list"))(ha:KqA X [a] (tAs S X (.cons ca .nil)))
  (he:starEach [a] X.env=(false,eval a X.env)::starEach [] X.env:=by rfl) (hpl:(backTo pos (starEach [] X.env)).any (·.1)=false:=by rfl):KqE X (.Call (.Name "list" p) [a] [] pos) (tE S X (.thw (.blt .list (.cons ca .nil)))):= by
 with_unfolding_all
 exact PE.imp (zir zfP hg hm hv ha (by decide) (by decide) he hpl) fun σ H Q ⟨B,φ,st,ρ,rs,re,h⟩=>by
  simp only [ev,R.bind_assoc] at h
  refine tAs.bind rs re h fun xs H1 vs st1 φ1 s1 rs1 re1 rv h1=>?_
  cases e:bltV .list st1 vs with
  |none=>rw [e] at h1;exact h1.elim
  |some z =>
   rw [e] at h1
   obtain ⟨v,rfl⟩:=zeU e fun _ _=>rfl
   obtain ⟨x,rfl,rv1⟩:=rv.one
   simp only [bltV] at e
   cases e1:seqOf st1 v with
   |none=>rw [e1] at e;cases e
   |some ws =>
    rw [e1] at e
    cases e
    obtain ⟨y,ys,rfl,hq,l⟩:=zj6 rs1 rv1 e1
    refine ⟨y,ys,rfl,hq,fun D hD=>?_⟩
    simp only [toR,R.bind,thwV] at h1
    exact h1 _ _ (φ1++[some D]) (.push hD) (rs1.push hD (rs1.nB hD) ⟨ys,zal,l.step (.push hD)⟩) (.loc_new rs1)
theorem tAs.fl {D:Ends}{k:List PV->Store->Fl}{P:List V->Hp->Prop}(rs:RepS X.K S.cl B φ H st)(re:RepE X.K S.cl B φ H ρ σ)(h:RunF S X B φ H ((evs S.call ρ st ces).fl ρ k) D)
  (n:∀x H1 v st1 φ1,Step φ H φ1 H1->RepS X.K S.cl B φ1 H1 st1->RepE X.K S.cl B φ1 H1 ρ σ->RepL X.K S.cl B φ1 H1 v x->RunF S X B φ1 H1 (k v st1) D->P x H1):tAs S X ces σ H P:=by
 refine ⟨B,φ,st,ρ,rs,re,?_⟩
 cases e:evs S.call ρ st ces with
 |ok v st' =>
  rw [e] at h
  exact fun x H' φ' s rs' rv=>n x H' v st' φ' s rs' (re.step s) rv (h.on s)
 |exc k st' =>
  rw [e] at h
  exact fun e s' x=>h σ φ H e s' .rfl re x
 |bad=>rw [e] at h;exact h
theorem zkk {D:Ends}{k:Store->Fl}{P:Hp->Prop}{x y v:PV}{x' y' v':V}(rs:RepS X.K S.cl B φ H st)(re:RepE X.K S.cl B φ H ρ σ)(rx:RepV X.K S.cl B φ H x x')(ry:RepV X.K S.cl B φ H y y')(rv:RepV X.K S.cl B φ H v v')
  (h:RunF S X B φ H (match sixV st x y v with
   |none=>.bad
   |some st5=>k st5) D)
  (n:∀H1 st1,Step φ H φ H1->RepS X.K S.cl B φ H1 st1->RepE X.K S.cl B φ H1 ρ σ->RunF S X B φ H1 (k st1) D->P H1):rSetL x' y' v' H P:=by
 cases e:sixV st x y v with
 |none=>rw [e] at h;exact h.elim
 |some st4 =>
  rw [e] at h
  obtain ⟨n',xs,k',j,rfl,hn,rfl,hj,rfl⟩:=zjo e
  simp only [RepV] at ry
  subst ry
  obtain ⟨l,ys,rfl,hp,hx,lr⟩:=rs.list rx hn
  refine ⟨l,ys,k',j,rfl,rfl,hx,by rw [<- lr.length];exact hj,?_⟩
  have s4:Step φ H φ (L2.upd H l (.lst (ys.set j v'))):=.put (List.mem_of_getElem? hp)
  exact n _ _ s4 (rs.put (o:=.lst (xs.set j v)) hp ⟨_,zal,(lr.put j rv).step s4⟩) (re.step s4) (h.on s4)
theorem zij (hc:X.calm=true)(he:KqA X [a,b] (tAs S X (.cons ca (.cons cb .nil))))(ho:KqE X c (tE S X cc))(hi:KqE X d (tE S X cd))(ho2:KqE X c' (tE S X ce))(hi2:KqE X d' (tE S X cf))
  (hg1:KqG X (.Subscript c d px) (gSub (tE S X cc) (tE S X cd) rSetL)) (hg2:KqG X (.Subscript c' d' py) (gSub (tE S X ce) (tE S X cf) rSetL))
  (hs:swapsWithSole [.Tuple [.Subscript c d px,.Subscript c' d' py] kt pt] (.Tuple [a,b] k2 pt2) pos.line X.env=pure false:=by rfl) (hw:swappedStores [.Tuple [.Subscript c d px,.Subscript c' d' py] kt pt] (.Tuple [a,b] k2 pt2) X.env=pure none:=by rfl) :
  KqS X (.Assign [.Tuple [.Subscript c d px,.Subscript c' d' py] kt pt] (.Tuple [a,b] k2 pt2) pos) (tS S X (.six2 cc cd ce cf ca cb)):= by
 with_unfolding_all
 exact PS.imp (zjZ (zmc he) (zmy hc (zhr hg1 (zhr hg2 pgs_nil))) hs hw) fun D σ H ⟨B,φ,st,ρ,rs,re,h⟩=>by
  simp only [ex] at h
  have h':RunF S X B φ H ((evs S.call ρ st (.cons ca (.cons cb .nil))).fl ρ fun vs st2=>match vs with
   | [v,w]=>(ev S.call ρ st2 cc).fl ρ fun x st3=>(ev S.call ρ st3 cd).fl ρ fun y st4=>match sixV st4 x y v with
    |none=>.bad
    |some st5=>(ev S.call ρ st5 ce).fl ρ fun x2 st6=>(ev S.call ρ st6 cf).fl ρ fun y2 st7=>match sixV st7 x2 y2 w with
     |some st8=>.nx ρ st8
     |none=>.bad
   |_=>.bad) D:=by
   simp only [evs]
   cases e:ev S.call ρ st ca with
   |ok v st1 =>
    rw [e] at h
    simp only [R.bind,R.fl] at h ⊢
    cases e2:ev S.call ρ st1 cb with
    |ok w st2=>rw [e2] at h;exact h
    |exc k s=>rw [e2] at h;exact h
    |bad=>rw [e2] at h;exact h
   |exc k s=>rw [e] at h;exact h
   |bad=>rw [e] at h;exact h
  refine tAs.fl rs re h' fun xs H1 vs st1 φ1 s1 rs1 re1 rl h1=>?_
  rcases vs with _|⟨v,_|⟨w,_|⟨u,t⟩⟩⟩
  ·exact h1.elim
  ·exact h1.elim
  ·obtain ⟨v',w',rfl,rv,rw⟩:=rl.two
   refine ⟨by show 2<=sizeLine;decide,fun p hp=>⟨p,[v',w'],rfl,.inl (.inl zal),rfl,v',[w'],rfl,?_⟩⟩
   have s2:Step φ1 H1 φ1 (L2.upd H1 p (.tup [v',w'])):=.upd hp
   refine tE.fl (rs1.upd hp) (re1.step s2) (h1.on s2) fun x' H3 x st3 φ3 s3 rs3 re3 rx h3=>tE.fl rs3 re3 h3 fun y' H4 y st4 φ4 s4 rs4 re4 ry h4=>?_
   refine zkk rs4 re4 (rx.step s4) ry (((rv.step s2).step s3).step s4) h4 fun H5 st5 s5 rs5 re5 h5=>⟨w',[],rfl,?_⟩
   refine tE.fl rs5 re5 h5 fun x2' H6 x2 st6 φ6 s6 rs6 re6 rx2 h6=>tE.fl rs6 re6 h6 fun y2' H7 y2 st7 φ7 s7 rs7 re7 ry2 h7=>?_
   have h7':RunF S X B φ7 H7 (match sixV st7 x2 y2 w with
    |none=>.bad
    |some st8=>.nx ρ st8) D:=by
    cases e:sixV st7 x2 y2 w with
    |none=>rw [e] at h7;exact h7
    |some st8=>rw [e] at h7;exact h7
   refine zkk rs7 re7 (rx2.step s7) ry2 ((((((rw.step s2).step s3).step s4).step s5).step s6).step s7) h7' fun H8 st8 s8 rs8 re8 h8=>⟨rfl,?_⟩
   exact h8 σ _ φ7 .rfl rs8 re8
  ·exact h1.elim
end
end L2
namespace WK
open PySem L2 IC
structure Fn (K:PySem.W.Frag)(mg:Str->Option Value)(x:Str)(st:Stmt)(ps:List Str)(f:Addr)(fd:FuncData):Prop where
 F:Fun K x x st f fd
 b:Binds K fd ps []
 m:mg x=some (.ref f)
theorem zkR:bootBuiltins "int"=some (.type "int"):=by decide +kernel
theorem zhw:bootBuiltins "bool"=some (.type "bool"):=by decide +kernel
theorem zi2:bootBuiltins "str"=some (.type "str"):=by decide +kernel
theorem z9:bootBuiltins "tuple"=some (.type "tuple"):=by decide +kernel
theorem zld:bootBuiltins "list"=some (.type "list"):=by decide +kernel
theorem zae:bootBuiltins "len"=some (.builtin "len"):=by decide +kernel
theorem zoE:bootBuiltins "abs"=some (.builtin "abs"):=by decide +kernel
theorem zod:bootBuiltins "min"=some (.builtin "min"):=by decide +kernel
theorem zmo:bootBuiltins "max"=some (.builtin "max"):=by decide +kernel
theorem zfq:bootBuiltins "all"=some (.builtin "all"):=by decide +kernel
theorem zaR {k:Nat}{A:Around}(r:Room k A):A.units+1<cLine:=by have:=r.units;omega
def VisAll (N:List Str)(sc:Scope):Prop:=(N.all fun x=>decide (sc.names.lookup x=some .local) || decide (sc.names.lookup x=some .cell))=true
theorem lcF {N:List Str}{sc:Scope}{i:Nat}{x:Str}(V:VisAll N sc)(h:N[i]?=some x):Loc sc x:=by
 have:=List.all_eq_true.mp V x (List.mem_of_getElem? h)
 rw [Bool.or_eq_true,decide_eq_true_eq,decide_eq_true_eq] at this
 exact this
theorem zk {S:Se}{X:Cx}{x:Str}{pos:Pos}(V:VisAll X.N X.env.scope)(i:Nat)(hN:X.N[i]?=some x:=by rfl)(hd:(x == ("__debug__":Str))=false:=by decide)(hcd:(x == ("__classdict__":Str))=false:=by decide):KqE X (.Name x pos) (tE S X (.var i)):= by
 with_unfolding_all
 exact zmk hN (by rcases lcF V hN with h|h;exact .inl h;exact .inr (.inl h)) hd hcd
theorem sv_k {S:Se}{X:Cx}(i:Nat){x:Str}{pos:Pos}(hN:X.N[i]?=some x:=by rfl)(hv:Vis X.env.scope x:=by first|exact Or.inl rfl|exact Or.inr (Or.inl rfl)|exact Or.inr (Or.inr rfl))(hd:(x == ("__debug__":Str))=false:=by decide)
  (hcd:(x == ("__classdict__":Str))=false:=by decide):KqE X (.Name x pos) (tE S X (.var i)):= by
 with_unfolding_all
 exact zmk hN hv hd hcd
end WK
namespace L2
open PySem PySem.Spec PyProof.Rows IC
noncomputable def lenC:Ces->Nat
 | .nil=>0
 | .cons _ r=>lenC r+1
section
variable {S:Se}{X:Cx}{k:Nat}{f:Addr}{fd:FuncData}{ps ks:List Str}{sp:Sp}{x:Str}{p pos kpos:Pos}{e:Expr}{es:List Expr}{kws:List Keyword}{nm:Option Str}{t tk:TA}{CX:CXT}{ca:Ce}{ces:Ces}{items:List (Sum Ce Int)}{g:List Value->List Value->List Value}{gV:List V->List V->List V}
theorem PK.imp {t t':TA}(h:PK X kws t')(k:∀σ H Q,t σ H Q->t' σ H Q):PK X kws t:=fun pos pins s σ H Q I q=>h pos pins s σ H Q I (k σ H Q q)
end
section
variable {P:Program}{w:World}{K:PySem.W.Frag}{mg:Str->Option Value}{base:Heap}{cl:Nat->Addr}{T:Nat->Option IC.Fn}{fi:Nat}{fn:IC.Fn}{x:Str}{stm:Stmt}{f:Addr}{fd:FuncData}{N ps:List Str}{ds:List Int}{k:Nat}
end
theorem zhk (a b:Key):peq (keyP a) (keyP b)=decide (a=b):=by
 rw [Bool.eq_iff_iff]
 cases a <;> cases b <;> simp [keyP,peq]
theorem zji:∀(a b:List Key),peqs (a.map keyP) (b.map keyP)=decide (a=b)
 | [],[]=>by simp [peqs]
 | [],y::ys=>by simp [peqs]
 |x::xs,[]=>by simp [peqs]
 |x::xs,y::ys=>by
  simp only [List.map_cons,peqs,zhk,zji xs ys]
  rw [Bool.eq_iff_iff]
  simp
theorem zhn (a b:List Key):peq (.tup (a.map keyP)) (.tup (b.map keyP))=decide (a=b):=by
 simp only [peq,zji]
theorem zk6 {k:PV}(h:isKey0 k=true):∃q,k=keyP q:=by
 cases k with
 |int i=>exact ⟨.inl i,rfl⟩
 |str i=>exact ⟨.inr i,rfl⟩
 |_=>cases h
theorem zjU:∀{ks:List PV},ks.all isKey0=true->∃qs:List Key,ks=qs.map keyP
 | [],_=>⟨[],rfl⟩
 |k::ks,h=>by
  rw [List.all_cons,Bool.and_eq_true] at h
  obtain ⟨q,rfl⟩:=zk6 h.1
  obtain ⟨qs,rfl⟩:=zjU h.2
  exact ⟨q::qs,rfl⟩
section
variable {S:Se}{X:Cx}{K:PySem.W.Frag}{cl:Nat->Addr}{σ:St}{B:Addr->Prop}{φ:Ph}{H:Hp}{st:Store}{p pos p2 px apos:Pos}{a b c d o:Expr}{ca cb cc:Ce}
theorem repV_key {q:Key}{x:V}:RepV K cl B φ H (keyP q) x ↔ x=kV q:=by
 cases q <;> simp [keyP,RepV,kV]
theorem zhL:∀{qs:List Key} {xs:List V},RepL K cl B φ H (qs.map keyP) xs->xs=qs.map kV
 | [],xs,l=>by simpa only [List.map_nil,RepL] using l
 |q::qs,xs,l=>by
  simp only [List.map_cons,RepL] at l
  obtain ⟨y,ys,rfl,r,l⟩:=l
  rw [repV_key.mp r,zhL l]
  rfl
theorem DK.look {q:Key}:∀{kvs:List (PV×PV)} {ks:List (Key×V)},DK K cl B φ H kvs ks->∀{v:PV} {x:V},RepV K cl B φ H v x->RepV K cl B φ H ((IC.look (keyP q) kvs).getD v) ((valV ks q).getD x)
 | [],ks,h,v,x,r=>by cases h;exact r
 | (k,w)::t,ks,h,v,x,r=>by
  obtain ⟨q',y,s,rfl,rfl,rv,l⟩:=h
  simp only [IC.look,zhk]
  by_cases e:q'=q
  ·rw [zfo (p:=(q',y)) e]
   simp [e,rv]
  ·rw [zfb (p:=(q',y)) e]
   simp only [decide_eq_true_eq,e,if_false]
   exact DK.look l r
theorem DT.look {q:List Key}:∀{kvs:List (PV×PV)} {ks:List (List Key×V)},DT K cl B φ H kvs ks->∀{v:PV} {x:V},RepV K cl B φ H v x->RepV K cl B φ H ((IC.look (.tup (q.map keyP)) kvs).getD v) ((valV ks q).getD x)
 | [],ks,h,v,x,r=>by cases h;exact r
 | (k,w)::t,ks,h,v,x,r=>by
  obtain ⟨q',y,s,rfl,rfl,rv,l⟩:=h
  simp only [IC.look,zhn]
  by_cases e:q'=q
  ·rw [zfo (p:=(q',y)) e]
   simp [e,rv]
  ·rw [zfb (p:=(q',y)) e]
   simp only [decide_eq_true_eq,e,if_false]
   exact DT.look l r
theorem DK.any {q:Key}:∀{kvs:List (PV×PV)} {ks:List (Key×V)},DK K cl B φ H kvs ks->(kvs.any fun p=>peq p.1 (keyP q))=ks.any fun kv=>decide (kv.1=q)
 | [],ks,h=>by cases h;rfl
 | (k,w)::t,ks,h=>by
  obtain ⟨q',y,s,rfl,rfl,rv,l⟩:=h
  simp only [List.any_cons,zhk,DK.any l]
theorem DT.any {q:List Key}:∀{kvs:List (PV×PV)} {ks:List (List Key×V)},DT K cl B φ H kvs ks->(kvs.any fun p=>peq p.1 (.tup (q.map keyP)))=ks.any fun kv=>decide (kv.1=q)
 | [],ks,h=>by cases h;rfl
 | (k,w)::t,ks,h=>by
  obtain ⟨q',y,s,rfl,rfl,rv,l⟩:=h
  simp only [List.any_cons,zhn,DT.any l]
theorem DK.map {q:Key}{v:PV}{x:V}(r:RepV K cl B φ H v x):∀{kvs:List (PV×PV)} {ks:List (Key×V)},DK K cl B φ H kvs ks->DK K cl B φ H (kvs.map fun p=>if peq p.1 (keyP q)=true then (p.1,v) else p) (ks.map fun kv=>if kv.1=q then (kv.1,x) else kv)
 | [],ks,h=>by cases h;exact rfl
 | (k,w)::t,ks,h=>by
  obtain ⟨q',y,s,rfl,rfl,rv,l⟩:=h
  simp only [List.map_cons,zhk,decide_eq_true_eq]
  by_cases e:q'=q
  ·simp only [e,if_true]
   exact ⟨q,x,_,rfl,rfl,r,DK.map r l⟩
  ·simp only [e,if_false]
   exact ⟨q',y,_,rfl,rfl,rv,DK.map r l⟩
theorem DT.map {q:List Key}{v:PV}{x:V}(r:RepV K cl B φ H v x):∀{kvs:List (PV×PV)} {ks:List (List Key×V)},DT K cl B φ H kvs ks->DT K cl B φ H (kvs.map fun p=>if peq p.1 (.tup (q.map keyP))=true then (p.1,v) else p) (ks.map fun kv=>if kv.1=q then (kv.1,x) else kv)
 | [],ks,h=>by cases h;exact rfl
 | (k,w)::t,ks,h=>by
  obtain ⟨q',y,s,rfl,rfl,rv,l⟩:=h
  simp only [List.map_cons,zhn,decide_eq_true_eq]
  by_cases e:q'=q
  ·simp only [e,if_true]
   exact ⟨q,x,_,rfl,rfl,r,DT.map r l⟩
  ·simp only [e,if_false]
   exact ⟨q',y,_,rfl,rfl,rv,DT.map r l⟩
theorem DK.snoc {q:Key}{v:PV}{x:V}(r:RepV K cl B φ H v x):∀{kvs:List (PV×PV)} {ks:List (Key×V)},DK K cl B φ H kvs ks->DK K cl B φ H (kvs++[(keyP q,v)]) (ks++[(q,x)])
 | [],ks,h=>by cases h;exact ⟨q,x,[],rfl,rfl,r,rfl⟩
 | (k,w)::t,ks,h=>by
  obtain ⟨q',y,s,rfl,rfl,rv,l⟩:=h
  exact ⟨q',y,_,rfl,rfl,rv,DK.snoc r l⟩
theorem DT.snoc {q:List Key}{v:PV}{x:V}(r:RepV K cl B φ H v x):∀{kvs:List (PV×PV)} {ks:List (List Key×V)},DT K cl B φ H kvs ks->DT K cl B φ H (kvs++[(.tup (q.map keyP),v)]) (ks++[(q,x)])
 | [],ks,h=>by cases h;exact ⟨q,x,[],rfl,rfl,r,rfl⟩
 | (k,w)::t,ks,h=>by
  obtain ⟨q',y,s,rfl,rfl,rv,l⟩:=h
  exact ⟨q',y,_,rfl,rfl,rv,DT.snoc r l⟩
theorem DK.put {q:Key}{v:PV}{x:V}{kvs:List (PV×PV)}{ks:List (Key×V)}(l:DK K cl B φ H kvs ks)(r:RepV K cl B φ H v x):DK K cl B φ H (IC.put (keyP q) v kvs) (putK ks q x):=by
 unfold IC.put putK
 rw [DK.any l]
 split
 ·exact DK.map r l
 ·exact DK.snoc r l
theorem DT.put {q:List Key}{v:PV}{x:V}{kvs:List (PV×PV)}{ks:List (List Key×V)}(l:DT K cl B φ H kvs ks)(r:RepV K cl B φ H v x):DT K cl B φ H (IC.put (.tup (q.map keyP)) v kvs) (putK ks q x):=by
 unfold IC.put putK
 rw [DT.any l]
 split
 ·exact DT.map r l
 ·exact DT.snoc r l
theorem DK.len:∀{kvs:List (PV×PV)} {ks:List (Key×V)},DK K cl B φ H kvs ks->kvs.length=ks.length
 | [],ks,h=>by cases h;rfl
 | (k,w)::t,ks,h=>by
  obtain ⟨q',y,s,rfl,rfl,rv,l⟩:=h
  simp [DK.len l]
theorem DT.len:∀{kvs:List (PV×PV)} {ks:List (List Key×V)},DT K cl B φ H kvs ks->kvs.length=ks.length
 | [],ks,h=>by cases h;rfl
 | (k,w)::t,ks,h=>by
  obtain ⟨q',y,s,rfl,rfl,rv,l⟩:=h
  simp [DT.len l]
theorem RepS.dct {n:Nat}{t:Bool}{kvs:List (PV×PV)}{x:V}(rs:RepS K cl B φ H st)(r:RepV K cl B φ H (.loc n) x)(h:st[n]?=some (.dct t kvs)):∃y,x=.ref y/\φ[n]?=some (some y)/\RepO K cl B φ H (.dct t kvs) y:=by
 simp only [RepV] at r
 obtain ⟨hn,y,rfl,ha⟩:=r
 obtain ⟨z,hz⟩:=rs.liv n _ h (by intro z;cases z)
 obtain rfl:=ha z hz
 obtain ⟨o,ho,ro⟩:=rs.obj n z hz
 rw [h] at ho;cases ho
 exact ⟨z,rfl,hz,ro⟩
theorem zhM {v:PV}{t:Bool}{kvs:List (PV×PV)}(h:dctOf st v=some (t,kvs)):∃n,v=.loc n/\st[n]?=some (.dct t kvs):=by
 cases v with
 |loc n =>
  simp only [dctOf] at h
  split at h
  ·rename_i t' xs q
   cases h
   exact ⟨n,rfl,q⟩
  ·cases h
 |_=>cases h
theorem zk1 {k:PV}(h:isKey false k=true):∃q,k=keyP q:=zk6 h
theorem zjV {k:PV}(h:isKey true k=true):∃q:List Key,k=.tup (q.map keyP):=by
 cases k with
 |tp b xs =>
  cases b with
  |false =>
   obtain ⟨qs,rfl⟩:=zjU h
   exact ⟨qs,rfl⟩
  |true=>cases h
 |_=>cases h
theorem zkT {q:List Key}{x:V}(r:RepV K cl B φ H (.tup (q.map keyP)) x):∃y,x=.ref y/\H y=some (.tup (q.map kV)):=by
 simp only [RepV] at r
 obtain ⟨y,xs,rfl,rt,l⟩:=r
 rcases rt with ⟨rt,_⟩|⟨z,_⟩
 ·exact ⟨y,rfl,by rw [rt,zhL l]⟩
 ·cases z
theorem zlZ (hu:X.A.units+1<cLine)(ha:KqE X a (tE S X ca))(hb:KqE X b (tE S X cb))(hc:KqE X c (tE S X cc))(m:M2 X a "get" apos b c pos:=by exact ⟨rfl,rfl,rfl,rfl⟩):KqE X (.Call (.Attribute a "get" apos) [b,c] [] pos) (tE S X (.mth .get ca (.cons cb (.cons cc .nil)))):= by
 with_unfolding_all
 exact PE.imp (zlY hu ha hb hc m) fun σ H Q ⟨B,φ,st,ρ,rs,re,h⟩=>by
  simp only [ev] at h
  refine tE.bind rs re h fun x H1 v st1 φ1 s1 rs1 re1 rv h1=>?_
  obtain ⟨_,e1,h1⟩:=ziA h1
  simp only [mthOk] at e1
  cases q:dctOf st1 v with
  |none=>rw [q] at e1;cases e1
  |some tk =>
   obtain ⟨t,kvs⟩:=tk
   obtain ⟨n,rfl,hn⟩:=zhM q
   obtain ⟨y,rfl,hy,ro⟩:=rs1.dct rv hn
   refine ⟨y,rfl,?_,?_⟩
   ·cases t with
    |false=>obtain ⟨ks,hk,_⟩:=ro;exact .inl ⟨ks,.inl hk⟩
    |true=>obtain ⟨ks,hk,_⟩:=ro;exact .inr ⟨ks,.inl hk⟩
   ·simp only [evs,R.bind_assoc] at h1
    refine tE.bind rs1 re1 h1 fun kx H2 kv st2 φ2 s2 rs2 re2 rk h2=>tE.bind rs2 re2 h2 fun dx H3 dv st3 φ3 s3 rs3 re3 rd h3=>?_
    simp only [R.bind,mthV,getV] at h3
    cases q3:dctOf st3 (.loc n) with
    |none=>rw [q3] at h3;exact h3.elim
    |some tk3 =>
     obtain ⟨t3,kvs3⟩:=tk3
     rw [q3] at h3
     dsimp only at h3
     split at h3
     ·rename_i hk
      obtain ⟨n',e',hn3⟩:=zhM q3
      cases e'
      obtain ⟨y3,ey,hy3,ro3⟩:=rs3.dct ((rv.step s2).step s3) hn3
      cases ey
      have rk3:=rk.step s3
      cases t3 with
      |false =>
       obtain ⟨q,rfl⟩:=zk1 hk
       obtain ⟨ks,hks,l⟩:=ro3
       refine ⟨valV ks q,.inl ⟨ks,q,.inl hks,repV_key.mp rk3,rfl⟩,h3.ok rs3 (DK.look l rd)⟩
      |true =>
       obtain ⟨q,rfl⟩:=zjV hk
       obtain ⟨ks,hks,l⟩:=ro3
       obtain ⟨b',rfl,hb'⟩:=zkT rk3
       exact ⟨valV ks q,.inr ⟨ks,q,b',.inl hks,rfl,hb',rfl⟩,h3.ok rs3 (DT.look l rd)⟩
     ·exact h3.elim
theorem zkn {st4:Store}{x y v:PV}(h:dputV st x y v=some st4):∃n t kvs,x=.loc n/\st[n]?=some (.dct t kvs)/\isKey t y=true/\kvs.length<1000000/\st4=st.set n (.dct t (IC.put y v kvs)):=by
 cases x with
 |loc n =>
  simp only [dputV] at h
  split at h
  ·rename_i t kvs q
   split at h
   ·rename_i c
    exact ⟨n,t,kvs,rfl,q,c.1,c.2,(Option.some.inj h).symm⟩
   ·cases h
  ·cases h
 |_=>cases h
theorem zkC (hu:X.A.units+1<cLine)(ho:KqE X b (tE S X cb))(hi:KqE X c (tE S X cc))(hv:KqE X a (tE S X ca))(hs:swapsWith a (some (.Subscript b c px)) pos.line X.env=pure false:=by rfl):KqS X (.Assign [.Subscript b c px] a pos) (tS S X (.dput cb cc ca)):= by
 with_unfolding_all
 exact PS.imp (zm7 hu ho hi hv hs) fun D σ H ⟨B,φ,st,ρ,rs,re,h⟩=>by
  simp only [ex] at h
  refine tE.fl rs re h fun v' H1 v st1 φ1 s1 rs1 re1 rv h1=>tE.fl rs1 re1 h1 fun x' H2 x st2 φ2 s2 rs2 re2 rx h2=>tE.fl rs2 re2 h2 fun y' H3 y st3 φ3 s3 rs3 re3 ry h3=>?_
  cases e:dputV st3 x y v with
  |none=>rw [e] at h3;exact h3.elim
  |some st4 =>
   rw [e] at h3
   obtain ⟨n,t,kvs,rfl,hn,hk,hl,rfl⟩:=zkn e
   obtain ⟨l,rfl,hp,ro⟩:=rs3.dct (rx.step s3) hn
   have rv3:=(rv.step s2).step s3
   have hm:=million
   cases t with
   |false =>
    obtain ⟨q,rfl⟩:=zk1 hk
    obtain ⟨ks,hks,ld⟩:=ro
    have s4:Step φ3 H3 φ3 (L2.upd H3 l (.dK (putK ks q v'))):=.put (List.mem_of_getElem? hp)
    refine ⟨l,_,rfl,.inl ⟨ks,q,hks,repV_key.mp ry,by have:=ld.len;omega,rfl⟩,h3 σ _ φ3 s4 (rs3.put hp ⟨_,zal,(ld.put rv3).step s4⟩) (re3.step s4)⟩
   |true =>
    obtain ⟨q,rfl⟩:=zjV hk
    obtain ⟨ks,hks,ld⟩:=ro
    obtain ⟨b',rfl,hb'⟩:=zkT ry
    have s4:Step φ3 H3 φ3 (L2.upd H3 l (.dT (putK ks q v'))):=.put (List.mem_of_getElem? hp)
    refine ⟨l,_,rfl,.inr ⟨ks,q,b',hks,rfl,hb',by have:=ld.len;omega,rfl⟩,h3 σ _ φ3 s4 (rs3.put hp ⟨_,zal,(ld.put rv3).step s4⟩) (re3.step s4)⟩
noncomputable def trC (kvs:List (Str×Int)):List (TE×TE):=kvs.map fun kv=>(tC (.str kv.1),tC (.int kv.2))
theorem zlA:KqPs X pos [] [] (trC []):= by
 with_unfolding_all
 exact znc
theorem zbX {ks:List (Option Expr)}{vs:List Expr}{kvs:List (Str×Int)}{x:Str}{i:Int}{j1 j2:Nat}{p1 p2:Pos}(h:KqPs X pos ks vs (trC kvs)):KqPs X pos (some (.Constant (.str x) j1 p1)::ks) (.Constant (.int i) j2 p2::vs) (trC ((x,i)::kvs)):= by
 with_unfolding_all
 exact zlB pe_str pe_int h
theorem zg3:∀(kvs:List (Str×Int)) {σ:St} {H:Hp} {Q:List (V×V)->Hp->Prop},Q (kvs.map fun kv=>(.str kv.1,.int kv.2)) H->tPairs (trC kvs) σ H Q
 | [],σ,H,Q,h=>h
 |kv::r,σ,H,Q,h=>zg3 r (Q:=fun ps H3=>Q ((.str kv.1,.int kv.2)::ps) H3) h
theorem DK.fold:∀(kvs:List (Str×Int)) {acc:List (PV×PV)} {ks:List (Key×V)},DK K cl B φ H acc ks->DK K cl B φ H (kvs.foldl (fun acc kv=>IC.put (.str kv.1) (.int kv.2) acc) acc) (mergeK ks (kvs.map fun kv=>(Sum.inr kv.1,.int kv.2)))
 | [],acc,ks,l=>l
 |kv::r,acc,ks,l=>by
  unfold mergeK
  simp only [List.foldl_cons,List.map_cons]
  exact DK.fold r (l.put (q:=Sum.inr kv.1) (x:=.int kv.2) (by simp only [RepV]))
theorem zj8 {ks:List (Option Expr)}{vs:List Expr}{kvs:List (Str×Int)}(h:KqPs X pos ks vs (trC kvs))(hall:ks.all (·.isSome)=true:=by rfl)(hl:ks.length=vs.length:=by rfl)(h0:ks≠[]:=by simp)(h15:ks.length<=15:=by decide):KqE X (.Dict ks vs pos) (tE S X (.newd kvs)):= by
 with_unfolding_all
 exact PE.imp (zng h hall hl h0 h15) fun σ H Q ⟨B,φ,st,ρ,rs,re,h⟩=>by
  simp only [ev] at h
  split at h
  ·rename_i c
   intro p hp
   refine zg3 kvs ⟨zal,kvs.map fun kv=>(Sum.inr kv.1,.int kv.2),by simp [kV],by simpa using c,?_⟩
   rw [zm6]
   exact h _ _ (φ++[some p]) (.push hp) (rs.push hp (rs.nB hp) ⟨_,zal,DK.fold kvs rfl⟩) (.loc_new rs)
  ·exact h.elim
end
section
variable {S:Se}{X:Cx}{σ:St}{B:Addr->Prop}{φ:Ph}{H:Hp}{p pos p3 p4:Pos}{a b tg:Expr}{ca cb:Ce}
end
end L2
namespace WK
open PySem L2 IC
theorem zaY {K:PySem.W.Frag}{h:Heap}{mg:Str->Option Value}{x:Str}{st:Stmt}{ps:List Str}{f:Addr}{oc:Value}{od an:Option Addr}{osl:Array (Option Value)}{kV doc pm cdv ct:Value}(X:K.In h)(G:h.Ns mainGlobals mg)
  (a:PySem.W.nsIn K mainGlobals x=some (some (.ref f))) (l:K.lookup f=some ⟨oc,od,.func (PySem.W.fnOf x x (defArgs st) (defBody st) (defScope st) .none kV doc pm an cdv ct),osl⟩) (c:PySem.W.codeIn K cdv x=true) (k:PySem.W.keepIn K (.ref f)=true)
  (hb:∀(kV doc pm:Value) (an:Option Addr) (cdv ct:Value) (us:List Value),us.length=ps.length->bindArgs (PySem.W.fnOf x x (defArgs st) (defBody st) (defScope st) .none kV doc pm an cdv ct) ⟨us,[]⟩=pure (ps.zip us)) :
  Fn K mg x st ps f (PySem.W.fnOf x x (defArgs st) (defBody st) (defScope st) .none kV doc pm an cdv ct):=⟨zme l c k,(zme l c k).binds hb,PySem.W.mg_of X G a⟩
section
variable {K:PySem.W.Frag}{cl:Nat->Addr}{B:Addr->Prop}{φ:Ph}{H:Hp}
theorem zcx:RepL K cl B φ H [] []:=by simp only [RepL]
theorem zac {v:PV}{x:V}{vs:List PV}{xs:List V}(h:RepV K cl B φ H v x)(l:RepL K cl B φ H vs xs):RepL K cl B φ H (v::vs) (x::xs):=by
 simp only [RepL]
 exact ⟨x,xs,rfl,h,l⟩
theorem zda {y:Addr}{d:Option Addr}{its:Array Value}{n:Nat}{sl:Array (Option Value)}{xs:List V}{vs:List PV}(h:K.lookup y=some ⟨.type "tuple",d,.seq its n,sl⟩)(hz:its.size<=1000)(r:Vals xs its.toList)(l:RepL K cl B φ H vs xs):RepV K cl B φ H (.tp true vs) (.ref y):=by
 simp only [RepV]
 exact ⟨y,xs,rfl,.inr ⟨rfl,_,its,n,h,rfl,rfl,by rw [sizeLine_eq];omega,r⟩,l⟩
end
theorem zn3 {P:Program}{w:World}{outer:List PySem.Env}{H:Hp}{s:Shared}{e:Value}{s':Shared}(h:CX1 P w outer H s (fun _ _ _=>False) e s'):False:=by
 obtain ⟨_,_,_,_,_,_,_,_,_,_,_,_,_,_,z⟩:=h
 exact z
theorem zjW {K:PySem.W.Frag}{cl:Nat->Addr}{B:Addr->Prop}{φ:Ph}{H:Hp}:∀ns:List Int,RepL K cl B φ H (ns.map .int) (ns.map V.int)
 | []=>zcx
 |n::ns=>zac (by simp only [RepV]) (zjW ns)
noncomputable def spX (K:PySem.W.Frag)(call:Nat->List PV->Store->R PV)(fi:Nat):Sp:=fun vs H Q E=>∀cl,spI K cl call fi vs H Q E
theorem zkD {K:PySem.W.Frag}{call:Nat->List PV->Store->R PV}{fi:Nat}{H:Hp}{a:Addr}{ns:List Int}(ht:∀ns:List Int,ns.length<=63->call fi [.scr (ns.map .int)] []=.ok (.bl true) [])(hl:ns.length<=63)(hS:SqL K H a (ns.map V.int)) :
  spX K call fi [.ref a] H (fun v _=>v=.bl true) fun _ _ _=>False:=by
 intro cl
 refine ⟨fun _=>False,[],[],[.scr (ns.map .int)],⟨rfl,fun m n a e=>by simp at e,fun n a e=>by simp at e,fun n o e=>by simp at e,fun a z=>by simp at z,fun a z=>z.elim⟩,zac ?_ zcx,?_⟩
 ·simp only [RepV]
  refine ⟨a,_,rfl,?_,zjW ns⟩
  rcases hS with hS|hS
  ·exact .inl ⟨hS,fun z=>z,by simp⟩
  ·exact .inr hS
 ·rw [ht ns hl]
  intro x H' φ' _ _ r
  simpa only [RepV] using r
end WK
namespace L2
open PySem PySem.Spec PyProof.Rows IC
theorem zjX {l:List Str}(h:l.Nodup){i j:Nat}(hi:i<l.length)(hj:j<l.length)(e:l[i]=l[j]):i=j:=by
 rcases Nat.lt_trichotomy i j with q|q|q
 ·exact absurd e (List.pairwise_iff_getElem.mp h i j hi hj q)
 ·exact q
 ·exact absurd e.symm (List.pairwise_iff_getElem.mp h j i hj hi q)
section
variable {X:Cx}{pins:List (Addr×Obj)}{σ:St}{H:Hp}{s:Shared}
theorem Inv.drop {h':Heap}{m:Str->Option Value}{v:Option Value}{i:Nat}{n:Str}(I:Inv X pins σ H s)(hN:X.N.Nodup)(hi:X.N[i]?=some n)(hm:s.heap.Ns X.env.locals m)(look:∀(i:Nat) (x:Str) (v:V),X.N[i]?=some x->σ[i]?=some (some v)->Vis X.env.scope x->∃u,RelV v u/\Look X.env s.heap m x u)(hs:Heap.SameBut X.env.locals s.heap h')(hn:h'.Ns X.env.locals (fun x=>if x=n then v else m x)):Inv X pins (σ.set i none) H { s with heap:=h' }:=by
 have k:∀b u,b≠X.env.locals->s.heap.get? b=some u->h'.get? b=some u:=fun b u hb q=>(hs.2 b hb).trans q
 have nl:∀b o,X.s₀.heap.get? b=some o->b≠X.env.locals:=fun b o e=>Nat.ne_of_lt (Nat.lt_of_lt_of_le (Heap.lt_size e) I.ok.above)
 refine ⟨I.ok,I.os,I.bare,⟨fun b o q n hb hx=>k b o (nl b o q) (I.base.keep b o q n hb hx),fun b o q n hb hx=>?_,I.base.free,fun b o q hx=>?_,I.base.tups,I.base.frzs,I.base.tbls⟩,⟨_,hn,fun j x v e1 e2 hv=>?_⟩,fun x c e=>?_,I.free,I.freeC,fun p hp=>?_,fun b u e=>?_,?_⟩
 ·obtain ⟨sl,q1⟩:=I.base.slot b o q n hb hx
  exact ⟨sl,k b _ (nl b o q) q1⟩
 ·obtain ⟨o',q1⟩:=I.base.there b o q hx
  exact ⟨o',k b o' (nl b o q) q1⟩
 ·have hj:j≠i:=fun z=>by
   subst z
   rw [List.getElem?_set] at e2
   simp only [if_true] at e2
   split at e2 <;> cases e2
  rw [List.getElem?_set_ne (Ne.symm hj)] at e2
  have hx:x≠n:=fun z=>by
   subst z
   obtain ⟨l1,g1⟩:=List.getElem?_eq_some_iff.mp e1
   obtain ⟨l2,g2⟩:=List.getElem?_eq_some_iff.mp hi
   exact hj (zjX hN l1 l2 (g1.trans g2.symm))
  obtain ⟨u,r,lk⟩:=look j x v e1 e2 hv
  refine ⟨u,r,?_⟩
  rcases lk with ⟨q1,q2⟩|⟨q1,c,q2,o,q3,q4⟩
  ·exact .inl ⟨q1,by dsimp only;rw [if_neg hx];exact q2⟩
  ·exact .inr ⟨q1,c,q2,o,k c o (I.cne x c q2) q3,q4⟩
 ·obtain ⟨v,o,ho,hd⟩:=I.cell x c e
  exact ⟨v,o,k c o (I.cne x c e) ho,hd⟩
 ·obtain ⟨q1,q2,q3,q4⟩:=I.pin p hp
  exact ⟨k _ _ q3 q1,q2,q3,q4⟩
 ·refine (I.hok b u e).stay (fun c v hc q=>k c v (fun z=>?_) q) (fun _ q=>q) fun _ _ q=>q
  have fr:=I.free
  subst z
  rcases hc with z|z
  ·rw [z,e] at fr
   cases fr
  ·rw [z] at fr
   cases fr
 ·rw [List.length_set]
  exact I.len
end
section
variable {X:Cx}{body suite:List Stmt}{b₀:Stmt}{x n:Str}{np hpos pos:Pos}{W:Addr}{i:Nat}
end
section
variable {S:Se}{X:Cx}{σ:St}{B:Addr->Prop}{φ φ1:Ph}{H H1:Hp}{st:Store}{ρ:IC.Env}{D:Ends}{body suite:List Stmt}{b₀:Stmt}{x n:Str}{p p2 np hpos pos cpos:Pos}{W:Addr}{i:Nat}{cb ch:Css}{a e:Expr}{es:List Expr}{ca ce:Ce}{ces:Ces}
theorem RepE.drop {K:PySem.W.Frag}{cl:Nat->Addr}(r:RepE K cl B φ H ρ σ)(i:Nat):RepE K cl B φ H (ρ.set i none) (σ.set i none):=by
 refine ⟨by rw [List.length_set,List.length_set];exact r.len,fun j w e=>?_⟩
 by_cases h:j=i
 ·subst h
  rw [List.getElem?_set] at e
  simp only [if_true] at e
  split at e <;> cases e
 ·rw [List.getElem?_set_ne (Ne.symm h)] at e ⊢
  exact r.get j w e
noncomputable abbrev Se.quiet (S:Se):Se:={ S with may:=false }
theorem all_nil {P:Nat->Prop}:∀c∈([]:List Nat),P c:=fun _ h=>by cases h
theorem all_cons {P:Nat->Prop}{c:Nat}{cs:List Nat}(h:P c)(t:∀d∈cs,P d):∀d∈c::cs,P d:=fun d hd=>by
 rcases List.mem_cons.mp hd with e|e
 ·exact e ▸ h
 ·exact t d e
end
theorem Vals.repN {xs:List V}{us:List Value}(r:Vals xs us):∀k:Nat,Vals (List.replicate k xs).flatten (List.replicate k us).flatten
 |0=>.nil
 |k+1=>by
  rw [List.replicate_succ,List.replicate_succ,List.flatten_cons,List.flatten_cons]
  exact r.append (Vals.repN r k)
section
variable {S:Se}{X:Cx}{p pos p2 px apos:Pos}{a b:Expr}{ca cb:Ce}
theorem RepL.rep {K:PySem.W.Frag}{cl:Nat->Addr}{B:Addr->Prop}{φ:Ph}{H:Hp}{vs:List PV}{xs:List V}(l:RepL K cl B φ H vs xs):∀k:Nat,RepL K cl B φ H (List.replicate k vs).flatten (List.replicate k xs).flatten
 |0=>by simp [RepL]
 |k+1=>by
  rw [List.replicate_succ,List.replicate_succ,List.flatten_cons,List.flatten_cons]
  exact l.append (RepL.rep l k)
def GCI (mg:Str->Option Value)(x:Str)(i:Int):Prop:=∃t,mg x=some (.int i t)
theorem zdu {x:Str}{i:Int}(hg:Gl X x)(h:GCI X.mg x i)(hd:(x == ("__debug__":Str))=false:=by decide):KqE X (.Name x pos) (tE S X (.cst (.int i))):= by
 with_unfolding_all
 obtain ⟨t,hm⟩:=h
 exact (ziv hg hm (show RelV (.int i) (.int i t) from ⟨t,rfl⟩) hd).imp fun σ H Q ⟨B,φ,st,ρ,rs,re,h⟩=>by
  simp only [ev] at h
  exact h.ok rs (by simp only [RepV])
end
inductive DRow (K:PySem.W.Frag)(cl:Nat->Addr)(w:World):List (Str×PV)->List DictEntry->Prop
 | nil:DRow K cl w [] []
 | cons {k:Str} {v:PV} {t:Tok} {u:Value} {x:V} {D:List (Str×PV)} {es:List DictEntry} (hr:RelV x u) (hv:∀B φ H,RepV K cl B φ H v x) (h:DRow K cl w D es):DRow K cl w ((k,v)::D) (⟨PyData.keyHash w.params k,.str k t,u⟩ :: es)
def GD (K:PySem.W.Frag)(w:World)(mg:Str->Option Value)(cl:Nat->Addr)(x:Str)(D:List (Str×PV)):Prop :=
 ∃(y:Addr) (es:Array DictEntry) (ep:Nat),mg x=some (.ref y)/\K.lookup y=some ⟨.type "dict",none,.dict es ep,#[]⟩/\(y == sysModules)=false/\DRow K cl w D es.toList/\(D.map (·.1)).Nodup
theorem DRow.pairs {K:PySem.W.Frag}{cl:Nat->Addr}{P:Program}{w:World}{D:List (Str×PV)}{es:List DictEntry}(h:DRow K cl w D es) :
  ∃vs:List (Str×Value),Pairs (strKind P w) es vs/\(∀e∈es,∃k,(strKind P w).is k e.key=true/\e.hash=(strKind P w).hash k)/\vs.map (·.1)=D.map (·.1) /\
   (∀s,(valueAt vs s).isSome=(dlook s D).isSome)/\∀s v,dlook s D=some v->∃u x,valueAt vs s=some u/\RelV x u/\∀B φ H,RepV K cl B φ H v x:=by
 induction h with
 |nil=>exact ⟨[],.nil,fun e he=>(by cases he),rfl,fun s=>rfl,fun s v e=>by cases e⟩
 | @cons k v t u x D es hr hv h ih =>
  obtain ⟨vs,h1,h2,h3,h4,h5⟩:=ih
  have hat:∀s,valueAt ((k,u)::vs) s=if k=s then some u else valueAt vs s:=fun s=>by
   unfold valueAt
   rw [List.find?_cons]
   by_cases e:k=s
   ·simp [e]
   ·simp [e]
  refine ⟨(k,u)::vs,.cons (strKind_is P w k t) rfl h1,fun e he=>?_,by rw [List.map_cons,List.map_cons,h3],fun s=>?_,fun s v' e=>?_⟩
  ·rcases List.mem_cons.1 he with rfl|he
   ·exact ⟨k,strKind_is P w k t,rfl⟩
   ·exact h2 e he
  ·rw [hat,dlook]
   by_cases e:k=s
   ·rw [if_pos e,if_pos (by simpa using e)];rfl
   ·rw [if_neg e,if_neg (by simpa using e),h4]
  ·rw [dlook] at e
   rw [hat]
   by_cases q:k=s
   ·rw [if_pos (by simpa using q)] at e
    cases e
    exact ⟨u,x,by rw [if_pos q],hr,hv⟩
   ·rw [if_neg (by simpa using q)] at e
    obtain ⟨u',x',e1,e2,e3⟩:=h5 s v' e
    exact ⟨u',x',by rw [if_neg q];exact e1,e2,e3⟩
section
variable {S:Se}{X:Cx}{σ:St}{B:Addr->Prop}{φ:Ph}{H:Hp}{st:Store}{pos p:Pos}{a b i:Expr}{ca cb:Ce}{x:Str}{D:List (Str×PV)}{ty:TE}
theorem zlh {y:Addr}{es:Array DictEntry}{ep:Nat}{pins:List (Addr×Obj)}{s:Shared}(I:Inv X pins σ H s)(hk:X.K.lookup y=some ⟨.type "dict",none,.dict es ep,#[]⟩)(hn:(D.map (·.1)).Nodup){vs:List (Str×Value)}(h1:Pairs (strKind X.prog X.w) es.toList vs)
  (h2:∀e∈es.toList,∃k,(strKind X.prog X.w).is k e.key=true/\e.hash=(strKind X.prog X.w).hash k) (h3:vs.map (·.1)=D.map (·.1)):s.heap.DictOf (strKind X.prog X.w) y vs :=
 ⟨_,es,ep,I.kIn y _ hk,⟨rfl,rfl,rfl⟩,rfl,fun e he=>h2 e (by simpa using he),h1,by rw [h3];exact hn⟩
noncomputable def tKGet (S:Se)(X:Cx)(D:List (Str×PV))(ty:TE):TE:=fun σ H Q=>ty σ H fun z H2=>∃s v,z=.str s/\dlook s D=some v/\∀x',(∀B φ H,RepV X.K S.cl B φ H v x')->Q x' H2
theorem zno (hg:Gl X x)(h:GD X.K X.w X.mg S.cl x D)(hi:PE X i ty)(hs:NoSl i)(hd:(x == ("__debug__":Str))=false:=by decide):PE X (.Subscript (.Name x p) i pos) (tKGet S X D ty):=by
 obtain ⟨y,es,ep,hm,hk,hsy,hr,hn⟩:=h
 obtain ⟨vs,h1,h2,h3,h4,h5⟩:=hr.pairs (P:=X.prog)
 intro pins s σ H Q I q0
 refine znj PySem.F.slot_dict_getitem.lookup hs (thn (ziv (v:=.ref y) hg hm rfl hd pins s σ H (fun z H1=>z=.ref y/\ty σ H1 fun z H2=>∃s v,z=.str s/\dlook s D=some v/\∀x',(∀B φ H,RepV X.K S.cl B φ H v x')->Q x' H2) I ⟨rfl,q0⟩) fun u s1 ⟨z,H1,I1,rz,ez,q1⟩=>thn (hi pins s1 σ H1 _ I1 q1) fun iv s2 ⟨z2,H2,I2,rz2,sx,v,ez2,e,q2⟩=>?_)
 subst ez
 subst ez2
 obtain rfl:u=Value.ref y:=rz
 obtain ⟨t,rfl⟩:=rz2
 have dd:=zlh I2 hk hn h1 h2 h3
 obtain ⟨u',x',e1,e2,e3⟩:=h5 sx v e
 exact ⟨dd.typeIs,wpAny_getItem_of (strKind_is X.prog X.w sx t) dd.mapOf e1 ⟨x',H2,I2.tok _,e2,q2 x' e3⟩⟩
theorem zi5 (hg:Gl X x)(h:GD X.K X.w X.mg S.cl x D)(hb:KqE X b (tE S X cb))(hs:NoSl b:=by exact fun _ _=>rfl)(hd:(x == ("__debug__":Str))=false:=by decide):KqE X (.Subscript (.Name x p) b pos) (tE S X (.dix D cb)):= by
 with_unfolding_all
 exact PE.imp (zno hg h hb hs hd) fun σ H Q ⟨B,φ,st,ρ,rs,re,h⟩=>by
  simp only [ev] at h
  refine tE.bind rs re h fun z H1 v st1 φ1 s1 rs1 re1 rv h1=>?_
  obtain ⟨w,e,q⟩:=zc0 h1 rs1
  cases v with
  |str sx =>
   simp only [RepV] at rv
   exact ⟨sx,w,rv,e,fun x' hx=>q x' H1 φ1 .rfl rs1 (hx _ _ _)⟩
  |_=>cases e
noncomputable def rDin (y:Addr)(D:List (Str×PV)):R2:=fun x z H Q=>z=.ref y/\∃s,x=.str s/\Q (.bl (dlook s D).isSome) H
theorem zlI (hg:Gl X x)(h:GD X.K X.w X.mg S.cl x D)(ha:KqE X a (tE S X ca))(hm:behindInMarks .In (.Name x p)=false:=by with_unfolding_all rfl)(hd:(x == ("__debug__":Str))=false:=by decide):KqE X (.Compare a [.In] [.Name x p] pos) (tE S X (.din ca D)):= by
 with_unfolding_all
 obtain ⟨y,es,ep,hmg,hk,hsy,hr,hn⟩:=h
 obtain ⟨vs,h1,h2,h3,h4,h5⟩:=hr.pairs (P:=X.prog)
 have op:OpR X (compareOp .In) (rDin y D):=by
  intro pins s σ H z1 z2 v u Q I r1 r2 ⟨ez,sx,ex,q⟩
  subst ez
  subst ex
  obtain rfl:u=Value.ref y:=r2
  obtain ⟨t,rfl⟩:=r1
  have dd:=zlh I hk hn h1 h2 h3
  refine wpAny_in_of (strKind_is X.prog X.w sx t) hsy dd.mapOf ⟨.bl (dlook sx D).isSome,H,I.tok _,?_,q⟩
  rw [h4];rfl
 refine (zj5 op ha (ziv (v:=.ref y) hg hmg rfl hd) hm).imp fun σ H Q ⟨B,φ,st,ρ,rs,re,h⟩=>?_
 simp only [ev] at h
 refine tE.bind rs re h fun z H1 v st1 φ1 s1 rs1 re1 rv h1=>?_
 obtain ⟨w,e,q⟩:=zc0 h1 rs1
 cases v with
 |str sx =>
  simp only [RepV] at rv
  cases e
  exact ⟨rfl,sx,rv,q _ H1 φ1 .rfl rs1 (by simp only [RepV])⟩
 |_=>cases e
theorem zhP:∀(xs ys:List PV) (i:Nat) {x y:PV},xs[i]?=some x->ys[i]?=some y->(zipUp xs ys)[i]?=some (.tup [x,y])
 | [],_,i,_,_,h,_=>by simp at h
 |_::_,[],i,_,_,_,h=>by simp at h
 |x::xs,y::ys,0,_,_,h1,h2=>by simp at h1 h2;simp [zipUp,h1,h2]
 |x::xs,y::ys,i+1,_,_,h1,h2=>by
  simp only [List.getElem?_cons_succ] at h1 h2
  simp only [zipUp,List.getElem?_cons_succ]
  exact zhP xs ys i h1 h2
theorem zh0:∀(xs ys:List PV),xs.length<=ys.length->(zipUp xs ys).length=xs.length
 | [],_,_=>by simp [zipUp]
 |_::_,[],h=>by simp at h
 |x::xs,y::ys,h=>by simp only [zipUp,List.length_cons,zh0 xs ys (by simpa using h)]
theorem zmR {k j:Bool}{vs ws:List PV}{xs ys:List V}{y z:Addr}(rt:RTup X.K B φ H k y xs)(l:RepL X.K S.cl B φ H vs xs)(rt2:RTup X.K B φ H j z ys)(l2:RepL X.K S.cl B φ H ws ys)(hle:vs.length<=ws.length):Drw S X B φ H (zipUp vs ws) (Itz X.K y z):=by
 have hl:=l.length
 have hl2:=l2.length
 have hp:=zh0 vs ws hle
 refine ⟨fun φ' H' s=>⟨xs,(rt.step s).sq,by omega⟩,fun i φ' H' s hi=>⟨xs,ys,xs[i]'(by omega),ys[i]'(by omega),(rt.step s).sq,(rt2.step s).sq,by simp [show i<xs.length by omega],by simp [show i<ys.length by omega]⟩,fun i φ' H' st x H2 B' hB s rs hi q=>?_⟩
 obtain ⟨T,hT,rfl,q⟩:=q
 obtain ⟨v,hv⟩:∃v,vs[i]?=some v:=⟨vs[i]'(by omega),by simp [show i<vs.length by omega]⟩
 obtain ⟨w,hw⟩:∃w,ws[i]?=some w:=⟨ws[i]'(by omega),by simp [show i<ws.length by omega]⟩
 obtain ⟨x',hx',rv⟩:=l.get i hv
 obtain ⟨y',hy',rw'⟩:=l2.get i hw
 have e:=q xs ys x' y' (rt.step s).sq (rt2.step s).sq hx' hy'
 subst e
 refine ⟨.tup [v,w],zhP vs ws i hv hw,.tup_new hT rs ?_,fun b o e=>by rw [z4 (zad e hT)];exact e⟩
 simp only [RepL]
 exact ⟨x',[y'],rfl,(rv.moreB hB).step s,y',[],rfl,(rw'.moreB hB).step s,rfl⟩
theorem zlJ {es:List Expr}{kk:Nat}{tp:Pos}(hg:Gl X "zip")(hm:X.mg "zip"=none)(ha:KqE X a (tE S X ca))(hb:KqE X b (tE S X cb))(hs:starEach [a,b] X.env=[(false,eval a X.env),(false,eval b X.env)]:=by rfl)(hs2:starEach [b] X.env=[(false,eval b X.env)]:=by rfl) :
  KqI X (.Tuple es kk tp) (.Call (.Name "zip" p) [a,b] [] pos) (tI S X (.zip ca cb)):= by
 with_unfolding_all
 exact PI.imp (zm9 hg hm (zeS ha (zeS hb pa_nil hs2) (by rw [hs,hs2])) hs hs2) fun σ H R ⟨B,φ,st,ρ,rs,re,h⟩=>by
  simp only [evi] at h
  refine tE.bind rs re h fun x H1 v st1 φ1 s1 rs1 re1 rv h1=>tE.bind rs1 re1 h1 fun y H2 w st2 φ2 s2 rs2 re2 rw h2=>?_
  obtain ⟨zs,e,h2⟩:=zkZ h2
  cases v with
  |tp k vs =>
   cases w with
   |tp j ws =>
    simp only [zipV] at e
    by_cases hle:vs.length<=ws.length
    ·rw [if_pos hle] at e
     cases e
     simp only [RepV] at rv rw
     obtain ⟨a1,xs,rfl,rt,l⟩:=rv
     obtain ⟨a2,ys,rfl,rt2,l2⟩:=rw
     exact ⟨a1,a2,rfl,⟨xs,(rt.step s2).sq⟩,⟨ys,rt2.sq⟩,h2.ok rs2 (zmR (rt.step s2) (l.step s2) rt2 l2 hle)⟩
    ·rw [if_neg hle] at e
     cases e
   |_=>cases e
  |_=>cases e
end
section
variable {K:PySem.W.Frag}{cl:Nat->Addr}{B:Addr->Prop}{φ:Ph}{H:Hp}{st:Store}
theorem nth {D y:Addr}(b:¬Bx B D y)(n:some y∉φ):¬B y/\some y∉φ++[some D]:=⟨fun z=>b (.inl z),fun z=>by
 rcases List.mem_append.1 z with z|z
 ·exact n z
 ·simp only [List.mem_cons,List.not_mem_nil,or_false,Option.some.injEq] at z
  exact b (.inr z)⟩
mutual
theorem RepV.thaw {D:Addr}:∀(v:PV) (x:V),RepV K cl (Bx B D) φ H v x->RepV K cl B (φ++[some D]) H v x
 | .non,x,h=>by simp only [RepV] at h ⊢;exact h
 | .bl b,x,h=>by simp only [RepV] at h ⊢;exact h
 | .int i,x,h=>by simp only [RepV] at h ⊢;exact h
 | .str y,x,h=>by simp only [RepV] at h ⊢;exact h
 | .tp k vs,x,h=>by
  simp only [RepV] at h ⊢
  obtain ⟨y,xs,e,r,l⟩:=h
  refine ⟨y,xs,e,?_,RepL.thaw vs xs l⟩
  rcases r with ⟨r,b,n⟩|r
  ·exact .inl ⟨r,nth b n⟩
  ·exact .inr r
 | .lst vs,x,h=>by
  simp only [RepV] at h ⊢
  obtain ⟨y,xs,e,⟨r,b,n⟩,l⟩:=h
  exact ⟨y,xs,e,⟨r,nth b n⟩,RepL.thaw vs xs l⟩
 | .loc n,x,h=>by
  simp only [RepV] at h ⊢
  obtain ⟨hn,y,e,q⟩:=h
  exact ⟨by simp;omega,y,e,fun b z=>q b (by rw [List.getElem?_append_left hn] at z;exact z)⟩
 | .exn c,x,h=>by
  simp only [RepV] at h ⊢
  obtain ⟨y,e,r,b,n⟩:=h
  exact ⟨y,e,r,nth b n⟩
 | .scr vs,x,h=>by
  simp only [RepV] at h ⊢
  obtain ⟨y,xs,e,r,l⟩:=h
  refine ⟨y,xs,e,?_,RepL.thaw vs xs l⟩
  rcases r with ⟨r,b,n⟩|r
  ·exact .inl ⟨r,nth b n⟩
  ·exact .inr r
theorem RepL.thaw {D:Addr}:∀(v:List PV) (x:List V),RepL K cl (Bx B D) φ H v x->RepL K cl B (φ++[some D]) H v x
 | [],x,h=>by simp only [RepL] at h ⊢;exact h
 |v::vs,x,h=>by
  simp only [RepL] at h ⊢
  obtain ⟨y,ys,e,r,l⟩:=h
  exact ⟨y,ys,e,RepV.thaw v y r,RepL.thaw vs ys l⟩
end
theorem DK.thaw {D:Addr}:∀{kvs:List (PV×PV)} {ks:List (Key×V)},DK K cl (Bx B D) φ H kvs ks->DK K cl B (φ++[some D]) H kvs ks
 | [],ks,h=>h
 | (k,v)::r,ks,h=>by
  obtain ⟨q,x,t,e,m,rv,l⟩:=h
  exact ⟨q,x,t,e,m,rv.thaw,DK.thaw l⟩
theorem DT.thaw {D:Addr}:∀{kvs:List (PV×PV)} {ks:List (List Key×V)},DT K cl (Bx B D) φ H kvs ks->DT K cl B (φ++[some D]) H kvs ks
 | [],ks,h=>h
 | (k,v)::r,ks,h=>by
  obtain ⟨q,x,t,e,m,rv,l⟩:=h
  exact ⟨q,x,t,e,m,rv.thaw,DT.thaw l⟩
theorem FS.thaw {D:Addr}:∀{kvs:List (Str×PV)} {ks:List (Str×V)},FS K cl (Bx B D) φ H kvs ks->FS K cl B (φ++[some D]) H kvs ks
 | [],ks,h=>h
 | (k,v)::r,ks,h=>by
  obtain ⟨x,t,e,rv,l⟩:=h
  exact ⟨x,t,e,rv.thaw,FS.thaw l⟩
theorem RepS.thaw {D:Addr}{zs:List PV}{ys:List V}(rs:RepS K cl (Bx B D) φ H st)(nB:¬B D)(hD:H D=some (.lst ys))(nD:some D∉φ)(l:RepL K cl (Bx B D) φ H zs ys):RepS K cl B (φ++[some D]) H (st++[.lst zs]):=by
 have hl:φ.length=st.length:=rs.len
 have spl:∀{n:Nat} {a:Addr},(φ++[some D])[n]?=some (some a)->(n<φ.length/\φ[n]?=some (some a)) \/ (n=φ.length/\a=D):=fun {n a} e=>by
  by_cases hn:n<φ.length
  ·rw [List.getElem?_append_left hn] at e;exact .inl ⟨hn,e⟩
  ·rw [List.getElem?_append_right (by omega)] at e
   rcases (by omega:n - φ.length=0 \/ 0<n - φ.length) with q|q
   ·rw [q] at e
    simp at e
    exact .inr ⟨by omega,e.symm⟩
   ·rw [List.getElem?_eq_none (by simp;omega)] at e;cases e
 have ne:∀{n:Nat} {a:Addr},φ[n]?=some (some a)->a≠D:=fun e z=>nD (z ▸ List.mem_of_getElem? e)
 refine ⟨by simp [hl],fun m n a e1 e2=>?_,fun n a e=>?_,fun n o e ho=>?_,fun a h=>?_,fun a h=>rs.dom a (.inl h)⟩
 ·rcases spl e1 with ⟨h1,e1⟩|⟨h1,q1⟩ <;> rcases spl e2 with ⟨h2,e2⟩|⟨h2,q2⟩
  ·exact rs.inj m n a e1 e2
  ·exact absurd q2 (ne e1)
  ·exact absurd q1 (ne e2)
  ·omega
 ·rcases spl e with ⟨h1,e1⟩|⟨h1,q1⟩
  ·obtain ⟨o,q,r⟩:=rs.obj n a e1
   refine ⟨o,by rw [List.getElem?_append_left (by omega)];exact q,?_⟩
   cases o with
   |lst vs=>obtain ⟨xs,hx,l⟩:=r;exact ⟨xs,hx,l.thaw⟩
   |dct t kvs=>cases t <;> (obtain ⟨xs,hx,l⟩:=r;exact ⟨xs,hx,l.thaw⟩)
   |ins c fs=>obtain ⟨ks,hx,l⟩:=r;exact ⟨ks,hx,l.thaw⟩
   |dead=>exact r.elim
  ·subst q1
   exact ⟨.lst zs,by rw [h1,hl,List.getElem?_append_right (Nat.le_refl _)];simp,ys,hD,l.thaw⟩
 ·by_cases hn:n<st.length
  ·rw [List.getElem?_append_left hn] at e
   obtain ⟨a,q⟩:=rs.liv n o e ho
   exact ⟨a,by rw [List.getElem?_append_left (by omega)];exact q⟩
  ·have hn2:n=st.length:=by
    rcases (by omega:n=st.length \/ st.length<n) with q|q
    ·exact q
    ·rw [List.getElem?_eq_none (by simp;omega)] at e;cases e
   exact ⟨D,by rw [hn2,<- hl,List.getElem?_append_right (Nat.le_refl _)];simp⟩
 ·rcases List.mem_append.1 h with h|h
  ·exact fun z=>rs.nb a h (.inl z)
  ·simp only [List.mem_cons,List.not_mem_nil,or_false,Option.some.injEq] at h
   subst h
   exact nB
end
section
variable {S:Se}{X:Cx}{K:PySem.W.Frag}{cl:Nat->Addr}{σ:St}{B:Addr->Prop}{φ φ1:Ph}{H H1:Hp}{st:Store}{ρ:IC.Env}{pos p p2 px:Pos}{a b c o tg l elt iter:Expr}{ca cb cc ce:Ce}{ci:Cit}{ct:Tg}
theorem zjM {sl:List (Option Nat)}(hf:tgtFree ct sl=true){H:Hp}{Q:VK}(h:tE S X (.thw (.comp sl ct ci cc ce)) σ H Q):tComp sl (tI S X ci) (tG0 S X.K ct) (tT0 S X.K cc) (tE0 S X.K ce) σ H Q:=by
  obtain ⟨B,φ,st,ρ,rs,re,h⟩:=h
  simp only [ev,R.bind_assoc] at h
  refine ⟨B,φ,st,ρ,rs,re,(Run.bind h).mono fun J H1 ⟨xs,st1,φ1,s1,rs1,dr,h1⟩=>fun D hD=>?_⟩
  generalize hone:(fun (x:PV) (st2:Store)=>match bindT ct x (sl.map fun o=>o.bind fun j=>(ρ[j]?).join) with
   |none=>(R.bad:R (Option PV))
   |some ρ1=>(ev S.call ρ1 st2 cc).bind fun b st3=>onO (truV st3 b) fun k=>cond k ((ev S.call ρ1 st3 ce).bind fun y st4=>.ok (some y) st4) (.ok none st3))=one at h1
  cases e:compL one xs st1 with
  |exc k s=>rw [e] at h1;simp only [lstR,R.bind] at h1;exact h1.elim
  |bad=>rw [e] at h1;simp only [lstR,R.bind] at h1;exact h1.elim
  |ok zs st5 =>
   rw [e] at h1
   simp only [lstR] at h1
   by_cases hz:zs.length<=1000000
   case neg=>rw [if_neg hz] at h1;simp only [R.bind] at h1;exact h1.elim
   rw [if_pos hz] at h1
   simp only [R.bind,thwV] at h1
   have nB:¬B D:=rs1.nB hD
   have nD:some D∉φ1:=fun z=>by
    obtain ⟨w,e⟩:=rs1.there z
    rw [hD] at e;cases e
   refine ⟨fun i m σc ys H2=>∃φ2 st2 vs rest,i+m=xs.length/\Step φ1 H1 φ2 H2/\H2 D=some (.lst ys)/\some D∉φ2/\RepS X.K S.cl (Bx B D) φ2 H2 st2/\RepE X.K S.cl (Bx B D) φ2 H2 (sl.map fun o=>o.bind fun j=>(ρ[j]?).join) σc /\
     RepL X.K S.cl (Bx B D) φ2 H2 vs ys/\compL one (xs.drop i) st2=.ok rest st5/\vs++rest=zs,
    ⟨xs.length,φ1,st1,[],zs,by omega,.upd hD,zal,nD,rs1.more hD,(RepE.inn (re.step s1)).more hD,by simp only [RepL],by simpa using e,rfl⟩,?_⟩
   rintro i m σc ys H2 ⟨φ2,st2,vs,rest,hm,s2,hD2,nD2,rs2,re2,l2,ec,ez⟩
   refine ⟨hD2,?_⟩
   by_cases hi:i<xs.length
   ·have hl2:=l2.length
    have hml:=million1
    have hzl:=congrArg List.length ez
    rw [List.length_append] at hzl
    refine .inr ⟨dr.go i φ2 H2 s2 hi,by omega,fun σ' ys' H'=>∃φ2 st2 vs rest,Step φ1 H1 φ2 H'/\H' D=some (.lst ys')/\some D∉φ2/\RepS X.K S.cl (Bx B D) φ2 H' st2/\RepE X.K S.cl (Bx B D) φ2 H' (sl.map fun o=>o.bind fun j=>(ρ[j]?).join) σ' /\
     RepL X.K S.cl (Bx B D) φ2 H' vs ys'/\compL one (xs.drop (i+1)) st2=.ok rest st5/\vs++rest=zs,fun σ' ys' H' ⟨φ2,st2,vs,rest,q⟩=>⟨m - 1,by omega,φ2,st2,vs,rest,by omega,q⟩,fun x H3 hy=>?_⟩
    obtain ⟨v,hv,rv,kk⟩:=dr.yld i φ2 H2 st2 x H3 (Bx B D) (fun y z=>z.elim .inl fun q=>.inr (q ▸ hD)) s2 rs2 hi hy
    have s3:Step φ2 H2 φ2 H3:=⟨fun b o _ e=>kk b o e,Nat.le_refl _,fun _ _ _ e=>e,fun _ h=>.inl h⟩
    have rs3:RepS X.K S.cl (Bx B D) φ2 H3 st2:=rs2.same kk
    have ed:xs.drop i=v::xs.drop (i+1):=by
     rw [List.drop_eq_getElem_cons hi]
     rw [List.getElem?_eq_getElem hi] at hv
     rw [Option.some.inj hv]
    rw [ed,compL] at ec
    obtain ⟨o,st3,e1,ec⟩:=zea ec
    obtain ⟨rest',st4,e2,ec⟩:=zea ec
    rw [<- hone] at e1
    dsimp only at e1
    cases eb:bindT ct v (sl.map fun o=>o.bind fun j=>(ρ[j]?).join) with
    |none=>rw [eb] at e1;cases e1
    |some ρ1 =>
     rw [eb] at e1
     dsimp only at e1
     obtain ⟨bv,st6,e3,e1⟩:=zea e1
     obtain ⟨k,e4,e1⟩:=zmu e1
     have er:st4=st5/\consO o rest'=rest:=by
      injection ec with q1 q2
      exact ⟨q2,q1⟩
     obtain ⟨rfl,rfl⟩:=er
     refine ⟨Bx B D,φ2,st2,_,v,ρ1,rs3,re2.step s3,rv,eb,fun σ4 re4=>⟨Bx B D,φ2,st2,ρ1,rs3,re4,?_⟩⟩
     have et:truR (ev S.call ρ1 st2 cc)=.ok k st6:=by
      rw [e3]
      simp only [truR,R.bind,e4,onO]
     rw [et]
     rintro k' H5 φ5 s5 rs5 rfl
     have nD5:some D∉φ5:=fun z=>by
      rcases s5.new D z with q|q
      ·exact nD2 q
      ·rw [kk D _ hD2] at q;cases q
     have hD5:H5 D=some (.lst ys):=s5.keep D _ nD2 (kk D _ hD2)
     have s25:Step φ1 H1 φ5 H5:=s2.trans (s3.trans s5)
     have l5:=(l2.step s3).step s5
     have re5:RepE X.K S.cl (Bx B D) φ5 H5 ρ1 σ4:=re4.step s5
     have h0:∀(i:Nat),sl[i]?=some none->(sl.map fun o=>o.bind fun j=>(ρ[j]?).join)[i]?=some none:=fun i q=>by
      rw [List.getElem?_map,q];rfl
     cases k with
     |false =>
      simp only [cond_false] at e1
      cases e1
      exact ⟨φ5,_,vs,rest',s25,hD5,nD5,rs5,RepE.untgt hf h0 eb re5,l5,e2,ez⟩
     |true =>
      simp only [cond_true] at e1
      obtain ⟨y,st7,e5,e1⟩:=zea e1
      cases e1
      refine ⟨Bx B D,φ5,st6,ρ1,rs5,re5,?_⟩
      rw [e5]
      intro y' H6 φ6 s6 rs6 ry
      have nD6:some D∉φ6:=fun z=>by
       rcases s6.new D z with q|q
       ·exact nD5 q
       ·rw [hD5] at q;cases q
      have hD6:H6 D=some (.lst ys):=s6.keep D _ nD5 hD5
      have hBD:Bx B D D:=.inr rfl
      refine ⟨hD6,φ6,_,vs++[y],rest',?_,zal,nD6,rs6.skip hBD,(RepE.untgt hf h0 eb (re5.step s6)).skip hBD,((l5.step s6).append (by simp only [RepL];exact ⟨y',[],rfl,ry,rfl⟩)).skip hBD,e2,?_⟩
      ·have s16:=s25.trans s6
       exact ⟨fun b o n q=>by rw [z4 (zad q hD)];exact s16.keep b o n q,s16.len,s16.pre,s16.new⟩
      ·simpa [consO] using ez
   ·have ei:i=xs.length:=by omega
    subst ei
    rw [List.drop_length,compL] at ec
    cases ec
    have s3:Step φ1 H1 (φ2++[some D]) H2:=⟨fun b o n q=>s2.keep b o n q,Nat.le_trans s2.len (by simp),fun n b h e=>by rw [List.getElem?_append_left (Nat.lt_of_lt_of_le h s2.len)] at e;exact s2.pre n b h e,fun b h=>by
     rcases List.mem_append.1 h with h|h
     ·exact s2.new b h
     ·simp only [List.mem_cons,List.not_mem_nil,or_false,Option.some.injEq] at h
      subst h
      exact .inr hD⟩
    refine .inl ⟨dr.stop φ2 H2 s2,h1 (.ref D) H2 (φ2++[some D]) s3 (RepS.thaw rs2 nB hD2 nD2 (by rw [<- ez,List.append_nil];exact l2)) ?_⟩
    simp only [RepV]
    refine ⟨by simp [rs2.len],D,rfl,fun b e=>?_⟩
    rw [<- rs2.len,List.getElem?_append_right (Nat.le_refl _)] at e
    simpa using e.symm
theorem zg5 {sc:Scope}{NC:List Str}{sl:List (Option Nat)}{ifs:List Expr}{i:Nat}{x:Str}{spos:Pos}(hN:X.N.Nodup)(hix:X.N[i]?=some x)(hx:Loc X.env.scope x)(hc:X.calm=true)(O:CompOk X sc NC sl)(hf:tgtFree ct sl=true)(hi:KqI X tg iter (tI S X ci))(hg:∀j,KqG (cxC X sc NC j) tg (tG0 S X.K ct))
  (ht:∀j,KqTs (cxC X sc NC j) ifs (tT0 S X.K cc)) (he:∀j,KqE (cxC X sc NC j) elt (tE0 S X.K ce))
  (hsw:swapsWith (.ListComp elt [⟨tg,iter,ifs,0⟩] sc pos) (some (.Name x px)) spos.line X.env=pure true:=by rfl) (hs:∀x,foldedSetIterable iter X.env x=pure x:=by intro _;rfl)
  (hfn:X.fn x=true \/ X.env.scope.names.lookup x=some .local:=by first|exact .inl rfl|exact .inr rfl|assumption):KqS X (.Assign [.Name x px] (.ListComp elt [⟨tg,iter,ifs,0⟩] sc pos) spos) (tS S X (.asg (.n i) (.thw (.comp sl ct ci cc ce)))):= by
 with_unfolding_all
 exact PS.imp (zkp hN hix hx hc O hi hg ht he hsw hs hfn) fun D σ H ⟨B,φ,st,ρ,rs,re,h⟩=>by
  refine zjM hf ?_
  simp only [ex] at h
  exact tE.fl rs re h fun x H1 v st1 φ1 s rs1 re1 rv h1=>h1 _ H1 φ1 .rfl rs1 (re1.set i rv)
end
end L2
namespace L2
open PySem IC
theorem zmM {v w:PV}{zs:List PV}(h:binV .add v w=some (.lst zs)):∃a b,v=.lst a/\w=.lst b/\zs=a++b/\a.length+b.length<=sizeMax:=by
 unfold binV at h
 split at h
 ·unfold binI at h
  simp at h
 ·simp at h
 ·simp only at h
  split at h
  ·cases h
  ·cases h
 ·simp only at h
  split at h
  ·unfold catT at h
   repeat' split at h
   all_goals cases h
  ·cases h
 ·rename_i a b
  simp only at h
  split at h
  ·rename_i c
   cases h
   exact ⟨a,b,rfl,rfl,rfl,c⟩
  ·cases h
 ·cases h
section
variable {S:Se}{X:Cx}{σ:St}{B:Addr->Prop}{φ φ1:Ph}{H H1:Hp}{st:Store}{ρ:IC.Env}{p pos p2 px py pt pt2:Pos}{a b c d o a' b' c' d':Expr}{ca cb cc cd ce cf:Ce}{pins:List (Addr×Obj)}{s:Shared}{kt k2:Nat}{es:List Expr}{ces:Ces}{x:Str}
theorem zkW (ha:KqE X a (tE S X ca))(hb:KqE X b (tE S X cb)):KqE X (.BinOp a .Add b pos) (tE S X (.thw (.bin .add ca cb))):= by
 with_unfolding_all
 exact PE.imp (zos zmz ha hb) fun σ H Q ⟨B,φ,st,ρ,rs,re,h⟩=>by
  simp only [ev,R.bind_assoc] at h
  refine tE.bind rs re h fun x H1 v st1 φ1 s1 rs1 re1 rv h1=>tE.bind rs1 re1 h1 fun y H2 w st2 φ2 s2 rs2 re2 rw h2=>?_
  cases e:binV .add v w with
  |none=>rw [e] at h2;exact h2.elim
  |some z =>
   rw [e] at h2
   cases z with
   |lst zs =>
    obtain ⟨vs,ws,rfl,rfl,rfl,c⟩:=zmM e
    have rv2:=rv.step s2
    simp only [RepV] at rv2 rw
    obtain ⟨p,xs,rfl,r1,l1⟩:=rv2
    obtain ⟨p',ys,rfl,r2,l2⟩:=rw
    have n1:=l1.length
    have n2:=l2.length
    refine ⟨p,p',xs,ys,rfl,rfl,r1.1,r2.1,by rw [<- za1];omega,fun D hD=>?_⟩
    simp only [toR,R.bind,thwV] at h2
    exact h2 _ _ (φ2++[some D]) (.push hD) (rs2.push hD (rs2.nB hD) ⟨_,zal,(l1.append l2).step (.push hD)⟩) (.loc_new rs2)
   |_=>exact h2.elim
end
end L2
namespace IC
open PySem
noncomputable def zc4:PV:=(.int 10000000000000000000000000000000000000000)
noncomputable def zfR:PV:=(.int 2)
noncomputable def zfO:PV:=(.int 20)
noncomputable def zfr:PV:=(.int 2)
noncomputable def zcD:PV:=(.int 200)
noncomputable def d_ROWS:List (Str×PV):=[(Str.ofString "set",(.tp true [(.str "cell"),(.str "figure")])),(Str.ofString "move",(.tp true [(.str "cell"),(.str "cell")])),(Str.ofString "bare",(.tp true [(.str "cell"),(.str "cell")])),(Str.ofString "sum",(.tp true [(.str "cell"),(.str "cell"),(.str "cell")])),(Str.ofString "less",(.tp true [(.str "cell"),(.str "cell"),(.str "cell")])),(Str.ofString "both",(.tp true [(.str "cell"),(.str "cell"),(.str "cell")])),(Str.ofString "any",(.tp true [(.str "cell"),(.str "cell"),(.str "cell")])),(Str.ofString "odd",(.tp true [(.str "cell"),(.str "cell"),(.str "cell")])),(Str.ofString "twice",(.tp true [(.str "cell"),(.str "cell")])),(Str.ofString "half",(.tp true [(.str "cell"),(.str "cell")])),(Str.ofString "times",(.tp true [(.str "cell"),(.str "cell"),(.str "cell"),(.str "cell")])),(Str.ofString "mark",(.tp true [(.str "figure")])),(Str.ofString "ask",(.tp true [(.str "cell")]))]
noncomputable def zbj:Fn:=⟨3,3,true,(.cons (.ret (.and (.isi (.var 0) [.int]) (.and (.not (.isi (.var 0) [.bool])) (.chain .le .le (.var 1) (.var 0) (.var 2))))) .nil)⟩
noncomputable def zaA:Fn:=⟨1,1,true,(.cons (.ret (.and (.isi (.var 0) [.str]) (.and (.cmp .eq (.blt .len (.cons (.var 0) .nil)) (.cst (.int 1))) (.chain .le .le (.cst (.str "a")) (.var 0) (.cst (.str "z")))))) .nil)⟩
noncomputable def zbk:Fn:=⟨2,2,true,(.cons (.ite (.or (.not (.isi (.var 0) [.tuple])) (.cmp .ne (.blt .len (.cons (.var 0) .nil)) (.var 1))) (.cons (.ret (.cst (.bl false))) .nil) .nil) (.cons (.ret (.blt .all (.cons (.comp [none] (.n 0) (.seq (.var 0)) (.cst (.bl true)) (.call 0 (.cons (.var 0) (.cons (.neg (.cst zcD)) (.cons (.cst zcD) .nil))))) .nil))) .nil))⟩
noncomputable def zcu:Fn:=⟨1,1,true,(.cons (.ret (.call 4 (.cons (.var 0) (.cons (.cst (.bl true)) .nil)))) .nil)⟩
noncomputable def f_has_form:Fn:=⟨2,4,true,(.cons (.ite (.or (.not (.call 5 (.cons (.var 0) .nil))) (.cmp .ne (.blt .len (.cons (.var 0) .nil)) (.bin .add (.blt .len (.cons (.dix d_ROWS (.idx (.var 0) (.cst (.int 0)))) .nil)) (.cst (.int 1))))) (.cons (.ret (.cst (.bl false))) .nil) .nil) (.cons (.for (.t [2,3]) (.zip (.dix d_ROWS (.idx (.var 0) (.cst (.int 0)))) (.slc (.var 0) (.cst (.int 1)) (.cst .non))) (.cons (.ite (.not (.call 6 (.cons (.var 2) (.cons (.var 3) (.cons (.var 1) .nil))))) (.cons (.ret (.cst (.bl false))) .nil) .nil) .nil)) (.cons (.ret (.or (.cmp .ne (.idx (.var 0) (.cst (.int 0))) (.cst (.str "times"))) (.cmp .ne (.idx (.var 0) (.cst (.int 1))) (.idx (.var 0) (.cst (.int 2)))))) .nil)))⟩
noncomputable def zb8:Fn:=⟨1,1,true,(.cons (.ret (.and (.isi (.var 0) [.tuple]) (.and (.cmp .gt (.blt .len (.cons (.var 0) .nil)) (.cst (.int 0))) (.and (.isi (.idx (.var 0) (.cst (.int 0))) [.str]) (.din (.idx (.var 0) (.cst (.int 0))) d_ROWS))))) .nil)⟩
noncomputable def zck:Fn:=⟨3,3,true,(.cons (.ite (.cmp .eq (.var 0) (.cst (.str "figure"))) (.cons (.ret (.call 0 (.cons (.var 1) (.cons (.cst (.int 0)) (.cons (.cst (.int 1)) .nil))))) .nil) .nil) (.cons (.ret (.ite (.var 2) (.call 7 (.cons (.var 1) .nil)) .nope)) .nil))⟩
noncomputable def zbi:Fn:=⟨1,1,true,(.cons (.ret (.and (.call 8 (.cons (.var 0) .nil)) (.call 2 (.cons (.idx (.var 0) (.cst (.int 1))) (.cons (.cst (.int 4)) .nil))))) .nil)⟩
noncomputable def zby:Fn:=⟨1,1,true,(.cons (.ret (.and (.isi (.var 0) [.tuple]) (.and (.cmp .eq (.blt .len (.cons (.var 0) .nil)) (.cst (.int 2))) (.call 1 (.cons (.idx (.var 0) (.cst (.int 0))) .nil))))) .nil)⟩
noncomputable def zav:Fn:=⟨1,1,true,(.cons (.ret (.and (.isi (.var 0) [.tuple]) (.and (.cmp .le (.blt .len (.cons (.var 0) .nil)) (.cst zfO)) (.blt .all (.cons (.comp [none] (.n 0) (.seq (.var 0)) (.cst (.bl true)) (.call 10 (.cons (.var 0) .nil))) .nil))))) .nil)⟩
noncomputable def zbh:Fn:=⟨1,4,true,(.cons (.ite (.or (.not (.isi (.var 0) [.tuple])) (.cmp .ne (.blt .len (.cons (.var 0) .nil)) (.cst (.int 3)))) (.cons (.ret (.cst (.bl false))) .nil) .nil) (.cons (.asg (.t [1,2,3]) (.var 0)) (.cons (.ret (.and (.call 0 (.cons (.var 1) (.cons (.bin .sub (.cst (.int 1)) (.cst zc4)) (.cons (.bin .sub (.cst zc4) (.cst (.int 1))) .nil)))) (.and (.call 2 (.cons (.var 2) (.cons (.cst (.int 6)) .nil))) (.call 11 (.cons (.var 3) .nil))))) .nil)))⟩
noncomputable def zaF:Fn:=⟨1,1,true,(.cons (.ret (.and (.isi (.var 0) [.tuple]) (.and (.cmp .le (.blt .len (.cons (.var 0) .nil)) (.cst zfr)) (.blt .all (.cons (.comp [none] (.n 0) (.seq (.var 0)) (.cst (.bl true)) (.call 12 (.cons (.var 0) .nil))) .nil))))) .nil)⟩
noncomputable def zau:Fn:=⟨1,1,true,(.cons (.ite (.or (.not (.isi (.var 0) [.tuple])) (.cmp .eq (.blt .len (.cons (.var 0) .nil)) (.cst (.int 0)))) (.cons (.ret (.cst (.bl false))) .nil) .nil) (.cons (.ite (.cmp .eq (.idx (.var 0) (.cst (.int 0))) (.cst (.str "mark"))) (.cons (.ret (.cmp .eq (.blt .len (.cons (.var 0) .nil)) (.cst (.int 1)))) .nil) .nil) (.cons (.ite (.or (.cmp .ne (.idx (.var 0) (.cst (.int 0))) (.cst (.str "slice"))) (.or (.cmp .ne (.blt .len (.cons (.var 0) .nil)) (.cst (.int 4))) (.not (.call 1 (.cons (.idx (.var 0) (.cst (.int 1))) .nil))))) (.cons (.ret (.cst (.bl false))) .nil) .nil) (.cons (.ret (.and (.call 2 (.cons (.idx (.var 0) (.cst (.int 2))) (.cons (.cst (.int 4)) .nil))) (.call 2 (.cons (.idx (.var 0) (.cst (.int 3))) (.cons (.cst (.int 4)) .nil))))) .nil))))⟩
noncomputable def zcR:Fn:=⟨1,1,true,(.cons (.ret (.call 14 (.cons (.var 0) (.cons (.cst zfR) .nil)))) .nil)⟩
noncomputable def zcH:Fn:=⟨2,2,true,(.cons (.ret (.and (.isi (.var 0) [.tuple]) (.blt .all (.cons (.comp [none,some 1] (.n 0) (.seq (.var 0)) (.cst (.bl true)) (.call 15 (.cons (.var 0) (.cons (.var 1) .nil)))) .nil)))) .nil)⟩
noncomputable def f_is_part:Fn:=⟨2,2,true,(.cons (.ite (.or (.not (.isi (.var 0) [.tuple])) (.cmp .eq (.blt .len (.cons (.var 0) .nil)) (.cst (.int 0)))) (.cons (.ret (.cst (.bl false))) .nil) .nil) (.cons (.ite (.cmp .eq (.idx (.var 0) (.cst (.int 0))) (.cst (.str "row"))) (.cons (.ret (.and (.cmp .eq (.blt .len (.cons (.var 0) .nil)) (.cst (.int 2))) (.call 3 (.cons (.idx (.var 0) (.cst (.int 1))) .nil)))) .nil) .nil) (.cons (.ite (.or (.cmp .ne (.idx (.var 0) (.cst (.int 0))) (.cst (.str "rounds"))) (.or (.cmp .ne (.blt .len (.cons (.var 0) .nil)) (.cst (.int 4))) (.cmp .eq (.var 1) (.cst (.int 0))))) (.cons (.ret (.cst (.bl false))) .nil) .nil) (.cons (.ret (.and (.call 2 (.cons (.idx (.var 0) (.cst (.int 1))) (.cons (.cst (.int 3)) .nil))) (.and (.call 9 (.cons (.idx (.var 0) (.cst (.int 2))) .nil)) (.call 14 (.cons (.idx (.var 0) (.cst (.int 3))) (.cons (.bin .sub (.var 1) (.cst (.int 1))) .nil)))))) .nil))))⟩
noncomputable def zf5:Fn:=⟨1,1,false,(.cons (.ret (.newl (.cons (.slc (.var 0) (.cst .non) (.cst (.int 63))) (.cons (.cst (.int 0)) (.cons (.cst (.int 0)) (.cons (.cst (.bl false)) .nil)))))) .nil)⟩
noncomputable def f_qmixed:Fn:=⟨1,8,true,(.cons (.asg (.n 1) (.tup (.cons (.cst (.int 2147483647)) (.cons (.cst (.int 2147483629)) (.cons (.cst (.int 2147483587)) (.cons (.cst (.int 2147483579)) (.cons (.cst (.int 2147483563)) .nil))))))) (.cons (.asg (.n 2) (.cst (.int 0))) (.cons (.for (.t [3,4]) (.enum (.var 1)) (.cons (.asg (.n 5) (.bin .add (.var 0) (.idx (.tup (.cons (.cst (.int 11)) (.cons (.cst (.int 101)) (.cons (.cst (.int 1009)) (.cons (.cst (.int 10007)) (.cons (.cst (.int 100003)) .nil)))))) (.var 3)))) (.cons (.asg (.n 5) (.bin .mod (.bin .mul (.var 5) (.bin .add (.cst (.int 48271)) (.bin .mul (.cst (.int 2)) (.var 3)))) (.var 4))) (.cons (.asg (.n 6) (.bin .mod (.bin .mul (.var 5) (.var 5)) (.var 4))) (.cons (.asg (.n 7) (.bin .mod (.bin .mul (.bin .mod (.bin .mul (.var 6) (.var 6)) (.var 4)) (.var 5)) (.var 4))) (.cons (.asg (.n 2) (.bin .add (.bin .mul (.var 2) (.var 4)) (.var 7))) .nil)))))) (.cons (.ret (.var 2)) .nil))))⟩
noncomputable def zeM:Fn:=⟨1,4,false,(.cons (.asg (.t [1,2]) (.tup (.cons (.idx (.var 0) (.cst (.int 0))) (.cons (.idx (.var 0) (.cst (.int 1))) .nil)))) (.cons (.asg (.n 3) (.bin .add (.bin .mul (.cst (.int 31)) (.var 2)) (.cst (.int 7)))) (.cons (.ite (.cmp .gt (.blt .len (.cons (.var 1) .nil)) (.cst (.int 0))) (.cons (.asg (.n 3) (.bin .mul (.cst (.int 104729)) (.bin .fdiv (.var 2) (.blt .len (.cons (.var 1) .nil))))) (.cons (.asg (.n 3) (.bin .add (.var 3) (.idx (.var 1) (.bin .mod (.var 2) (.blt .len (.cons (.var 1) .nil)))))) .nil)) .nil) (.cons (.six (.var 0) (.cst (.int 1)) (.bin .add (.var 2) (.cst (.int 1)))) (.cons (.six (.var 0) (.cst (.int 3)) (.or (.cmp .ge (.var 2) (.blt .len (.cons (.var 1) .nil))) (.cmp .lt (.var 3) (.bin .pow (.cst (.int 10)) (.cst (.int 18)))))) (.cons (.ite (.idx (.var 0) (.cst (.int 3))) (.cons (.six (.var 0) (.cst (.int 2)) (.call 17 (.cons (.var 3) .nil))) .nil) (.cons (.six (.var 0) (.cst (.int 2)) (.bin .sub (.var 3) (.bin .pow (.cst (.int 10)) (.cst (.int 18))))) .nil)) .nil))))))⟩
noncomputable def f_qtake:Fn:=⟨2,4,false,(.cons (.asg (.n 2) (.cst (.int 0))) (.cons (.while (.and (.cmp .lt (.var 2) (.cst (.int 64))) (.or (.cmp .eq (.idx (.var 0) (.cst (.int 2))) (.cst (.int 0))) (.and (.idx (.var 0) (.cst (.int 3))) (.cmp .lt (.idx (.var 0) (.cst (.int 2))) (.bin .mul (.var 1) (.cst (.int 4096))))))) (.cons (.expr (.call 18 (.cons (.var 0) .nil))) (.cons (.aug 2 .add (.cst (.int 1))) (.cons (.ite (.and (.idx (.var 0) (.cst (.int 3))) (.cmp .lt (.idx (.var 0) (.cst (.int 2))) (.bin .mul (.var 1) (.cst (.int 4096))))) (.cons (.six (.var 0) (.cst (.int 2)) (.bin .add (.idx (.var 0) (.cst (.int 2))) (.bin .mul (.bin .mul (.var 1) (.cst (.int 4096))) (.bin .add (.cst (.int 1)) (.bin .mod (.idx (.var 0) (.cst (.int 2))) (.cst (.int 4093))))))) .nil) .nil) .nil)))) (.cons (.asg (.n 3) (.bin .mod (.idx (.var 0) (.cst (.int 2))) (.var 1))) (.cons (.six (.var 0) (.cst (.int 2)) (.bin .fdiv (.idx (.var 0) (.cst (.int 2))) (.var 1))) (.cons (.ret (.var 3)) .nil)))))⟩
noncomputable def zga:Fn:=⟨2,2,false,(.cons (.ret (.tup (.cons (.bin .add (.cst (.int 4)) (.call 19 (.cons (.var 0) (.cons (.cst (.int 13)) .nil)))) (.cons (.bin .add (.cst (.int 1)) (.call 19 (.cons (.var 0) (.cons (.var 1) .nil)))) .nil)))) .nil)⟩
noncomputable def zf6:Fn:=⟨1,1,true,(.cons (.ret (.and (.isi (.var 0) [.int]) (.not (.isi (.var 0) [.bool])))) .nil)⟩
noncomputable def zc7:Fn:=⟨3,3,true,(.cons (.ite (.or (.not (.isi (.var 0) [.tuple])) (.cmp .ne (.blt .len (.cons (.var 0) .nil)) (.var 1))) (.cons (.ret (.cst (.bl false))) .nil) .nil) (.cons (.ret (.blt .all (.cons (.comp [none,some 2] (.n 0) (.seq (.var 0)) (.cst (.bl true)) (.and (.call 21 (.cons (.var 0) .nil)) (.chain .le .le (.bin .sub (.cst (.int 0)) (.var 1)) (.var 0) (.var 1)))) .nil))) .nil))⟩
noncomputable def zdc:Fn:=⟨1,1,true,(.cons (.ret (.and (.isi (.var 0) [.str]) (.and (.cmp .eq (.blt .len (.cons (.var 0) .nil)) (.cst (.int 1))) (.cmp .isin (.var 0) (.cst (.str "abcdefghijklmnopqrstuvwxyz")))))) .nil)⟩
noncomputable def zbd:Fn:=⟨1,1,true,(.cons (.ret (.and (.isi (.var 0) [.tuple]) (.and (.cmp .eq (.blt .len (.cons (.var 0) .nil)) (.cst (.int 2))) (.and (.call 23 (.cons (.idx (.var 0) (.cst (.int 0))) .nil)) (.call 22 (.cons (.idx (.var 0) (.cst (.int 1))) (.cons (.cst (.int 4)) (.cons (.cst (.int 200)) .nil)))))))) .nil)⟩
noncomputable def f_qtelling_row:Fn:=⟨1,2,true,(.cons (.ite (.or (.not (.isi (.var 0) [.tuple])) (.or (.cmp .lt (.blt .len (.cons (.var 0) .nil)) (.cst (.int 2))) (.not (.isi (.idx (.var 0) (.cst (.int 0))) [.str])))) (.cons (.ret (.cst (.bl false))) .nil) .nil) (.cons (.ite (.cmp .eq (.idx (.var 0) (.cst (.int 0))) (.cst (.str "mark"))) (.cons (.ret (.and (.cmp .eq (.blt .len (.cons (.var 0) .nil)) (.cst (.int 2))) (.and (.call 21 (.cons (.idx (.var 0) (.cst (.int 1))) .nil)) (.cmp .isin (.idx (.var 0) (.cst (.int 1))) (.tup (.cons (.cst (.int 0)) (.cons (.cst (.int 1)) .nil))))))) .nil) .nil) (.cons (.ite (.cmp .eq (.idx (.var 0) (.cst (.int 0))) (.cst (.str "ask"))) (.cons (.ret (.and (.cmp .eq (.blt .len (.cons (.var 0) .nil)) (.cst (.int 2))) (.call 24 (.cons (.idx (.var 0) (.cst (.int 1))) .nil)))) .nil) .nil) (.cons (.ite (.cmp .eq (.idx (.var 0) (.cst (.int 0))) (.cst (.str "set"))) (.cons (.ret (.and (.cmp .eq (.blt .len (.cons (.var 0) .nil)) (.cst (.int 3))) (.and (.call 24 (.cons (.idx (.var 0) (.cst (.int 1))) .nil)) (.and (.call 21 (.cons (.idx (.var 0) (.cst (.int 2))) .nil)) (.cmp .isin (.idx (.var 0) (.cst (.int 2))) (.tup (.cons (.cst (.int 0)) (.cons (.cst (.int 1)) .nil)))))))) .nil) .nil) (.cons (.asg (.n 1) (.newd [("move",3),("bare",3),("twice",3),("half",3),("sum",4),("less",4),("both",4),("any",4),("odd",4)])) (.cons (.dput (.var 1) (.cst (.str "times")) (.cst (.int 5))) (.cons (.ite (.or (.cmp .ne (.mth .get (.var 1) (.cons (.idx (.var 0) (.cst (.int 0))) (.cons (.cst (.int 0)) .nil))) (.blt .len (.cons (.var 0) .nil))) (.not (.blt .all (.cons (.comp [none] (.n 0) (.seq (.slc (.var 0) (.cst (.int 1)) (.cst .non))) (.cst (.bl true)) (.call 24 (.cons (.var 0) .nil))) .nil)))) (.cons (.ret (.cst (.bl false))) .nil) .nil) (.cons (.ret (.or (.cmp .ne (.idx (.var 0) (.cst (.int 0))) (.cst (.str "times"))) (.cmp .ne (.idx (.var 0) (.cst (.int 1))) (.idx (.var 0) (.cst (.int 2)))))) .nil))))))))⟩
noncomputable def zbS:Fn:=⟨1,1,true,(.cons (.ite (.cmp .eq (.var 0) (.tup (.cons (.cst (.str "mark")) .nil))) (.cons (.ret (.cst (.bl true))) .nil) .nil) (.cons (.ite (.or (.not (.isi (.var 0) [.tuple])) (.or (.cmp .ne (.blt .len (.cons (.var 0) .nil)) (.cst (.int 4))) (.or (.cmp .ne (.idx (.var 0) (.cst (.int 0))) (.cst (.str "slice"))) (.not (.call 23 (.cons (.idx (.var 0) (.cst (.int 1))) .nil)))))) (.cons (.ret (.cst (.bl false))) .nil) .nil) (.cons (.ret (.and (.call 22 (.cons (.idx (.var 0) (.cst (.int 2))) (.cons (.cst (.int 4)) (.cons (.cst (.int 200)) .nil)))) (.call 22 (.cons (.idx (.var 0) (.cst (.int 3))) (.cons (.cst (.int 4)) (.cons (.cst (.int 200)) .nil)))))) .nil)))⟩
noncomputable def f_qis_sentence:Fn:=⟨1,2,true,(.cons (.ite (.or (.not (.isi (.var 0) [.tuple])) (.cmp .gt (.blt .len (.cons (.var 0) .nil)) (.cst (.int 20)))) (.cons (.ret (.cst (.bl false))) .nil) .nil) (.cons (.for (.n 1) (.seq (.var 0)) (.cons (.ite (.or (.not (.isi (.var 1) [.tuple])) (.or (.cmp .ne (.blt .len (.cons (.var 1) .nil)) (.cst (.int 3))) (.not (.call 22 (.cons (.idx (.var 1) (.cst (.int 1))) (.cons (.cst (.int 6)) (.cons (.cst (.int 200)) .nil))))))) (.cons (.ret (.cst (.bl false))) .nil) .nil) (.cons (.ite (.or (.not (.call 21 (.cons (.idx (.var 1) (.cst (.int 0))) .nil))) (.or (.cmp .ge (.blt .abs (.cons (.idx (.var 1) (.cst (.int 0))) .nil)) (.bin .pow (.cst (.int 10)) (.cst (.int 40)))) (.not (.isi (.idx (.var 1) (.cst (.int 2))) [.tuple])))) (.cons (.ret (.cst (.bl false))) .nil) .nil) (.cons (.ite (.or (.cmp .gt (.blt .len (.cons (.idx (.var 1) (.cst (.int 2))) .nil)) (.cst (.int 2))) (.not (.blt .all (.cons (.comp [none] (.n 0) (.seq (.idx (.var 1) (.cst (.int 2)))) (.cst (.bl true)) (.call 26 (.cons (.var 0) .nil))) .nil)))) (.cons (.ret (.cst (.bl false))) .nil) .nil) .nil)))) (.cons (.ret (.cst (.bl true))) .nil)))⟩
noncomputable def f_qpart:Fn:=⟨2,2,true,(.cons (.ite (.or (.not (.isi (.var 0) [.tuple])) (.cmp .lt (.blt .len (.cons (.var 0) .nil)) (.cst (.int 2)))) (.cons (.ret (.cst (.bl false))) .nil) .nil) (.cons (.ite (.cmp .eq (.idx (.var 0) (.cst (.int 0))) (.cst (.str "row"))) (.cons (.ret (.and (.cmp .eq (.blt .len (.cons (.var 0) .nil)) (.cst (.int 2))) (.call 25 (.cons (.idx (.var 0) (.cst (.int 1))) .nil)))) .nil) .nil) (.cons (.ite (.or (.cmp .ne (.idx (.var 0) (.cst (.int 0))) (.cst (.str "rounds"))) (.or (.cmp .ne (.blt .len (.cons (.var 0) .nil)) (.cst (.int 4))) (.or (.cmp .gt (.var 1) (.cst (.int 1))) (.not (.call 22 (.cons (.idx (.var 0) (.cst (.int 1))) (.cons (.cst (.int 3)) (.cons (.cst (.int 200)) .nil)))))))) (.cons (.ret (.cst (.bl false))) .nil) .nil) (.cons (.ite (.or (.not (.call 27 (.cons (.idx (.var 0) (.cst (.int 2))) .nil))) (.not (.isi (.idx (.var 0) (.cst (.int 3))) [.tuple]))) (.cons (.ret (.cst (.bl false))) .nil) .nil) (.cons (.ret (.blt .all (.cons (.comp [none,some 1] (.n 0) (.seq (.idx (.var 0) (.cst (.int 3)))) (.cst (.bl true)) (.call 28 (.cons (.var 0) (.cons (.bin .add (.var 1) (.cst (.int 1))) .nil)))) .nil))) .nil)))))⟩
noncomputable def zbZ:Fn:=⟨1,1,true,(.cons (.ret (.and (.isi (.var 0) [.tuple]) (.blt .all (.cons (.comp [none] (.n 0) (.seq (.var 0)) (.cst (.bl true)) (.call 28 (.cons (.var 0) (.cons (.cst (.int 0)) .nil)))) .nil)))) .nil)⟩
noncomputable def zcd:Fn:=⟨1,1,false,(.cons (.ret (.idx (.cst (.str "abcdefghijklmnopqrstuvwxyz")) (.call 19 (.cons (.var 0) (.cons (.cst (.int 26)) .nil))))) .nil)⟩
noncomputable def f_qsome_row:Fn:=⟨2,6,false,(.cons (.asg (.n 2) (.tup (.cons (.cst (.str "set")) (.cons (.cst (.str "move")) (.cons (.cst (.str "bare")) (.cons (.cst (.str "sum")) (.cons (.cst (.str "less")) (.cons (.cst (.str "both")) (.cons (.cst (.str "any")) (.cons (.cst (.str "odd")) (.cons (.cst (.str "twice")) (.cons (.cst (.str "half")) (.cons (.cst (.str "times")) (.cons (.cst (.str "mark")) (.cons (.cst (.str "ask")) .nil))))))))))))))) (.cons (.asg (.n 3) (.idx (.var 2) (.call 19 (.cons (.var 0) (.cons (.cst (.int 13)) .nil))))) (.cons (.asg (.n 4) (.call 19 (.cons (.var 0) (.cons (.cst (.int 2)) .nil)))) (.cons (.asg (.n 5) (.thw (.comp [none,some 1,some 0] (.n 0) (.range1 (.cst (.int 4))) (.cst (.bl true)) (.idx (.var 1) (.call 19 (.cons (.var 2) (.cons (.blt .len (.cons (.var 1) .nil)) .nil))))))) (.cons (.ite (.cmp .eq (.var 3) (.cst (.str "mark"))) (.cons (.ret (.tup (.cons (.var 3) (.cons (.var 4) .nil)))) .nil) .nil) (.cons (.ite (.cmp .eq (.var 3) (.cst (.str "ask"))) (.cons (.ret (.tup (.cons (.var 3) (.cons (.idx (.var 5) (.cst (.int 0))) .nil)))) .nil) .nil) (.cons (.ite (.cmp .eq (.var 3) (.cst (.str "set"))) (.cons (.ret (.tup (.cons (.var 3) (.cons (.idx (.var 5) (.cst (.int 0))) (.cons (.var 4) .nil))))) .nil) .nil) (.cons (.ite (.cmp .eq (.var 3) (.cst (.str "times"))) (.cons (.ite (.cmp .eq (.idx (.var 5) (.cst (.int 0))) (.idx (.var 5) (.cst (.int 1)))) (.cons (.six2 (.var 5) (.cst (.int 0)) (.var 5) (.cst (.int 1)) (.idx (.var 1) (.cst (.int 0))) (.idx (.var 1) (.cst (.int 1)))) .nil) .nil) (.cons (.ret (.tup (.cons (.var 3) (.cons (.idx (.var 5) (.cst (.int 0))) (.cons (.idx (.var 5) (.cst (.int 1))) (.cons (.idx (.var 5) (.cst (.int 2))) (.cons (.idx (.var 5) (.cst (.int 3))) .nil))))))) .nil)) .nil) (.cons (.ite (.cmp .isin (.var 3) (.tup (.cons (.cst (.str "move")) (.cons (.cst (.str "bare")) (.cons (.cst (.str "twice")) (.cons (.cst (.str "half")) .nil)))))) (.cons (.ret (.tup (.cons (.var 3) (.cons (.idx (.var 5) (.cst (.int 0))) (.cons (.idx (.var 5) (.cst (.int 1))) .nil))))) .nil) .nil) (.cons (.ret (.tup (.cons (.var 3) (.cons (.idx (.var 5) (.cst (.int 0))) (.cons (.idx (.var 5) (.cst (.int 1))) (.cons (.idx (.var 5) (.cst (.int 2))) .nil)))))) .nil))))))))))⟩
noncomputable def f_qstrange:Fn:=⟨1,4,false,(.cons (.asg (.n 1) (.call 30 (.cons (.var 0) .nil))) (.cons (.asg (.n 2) (.bin .add (.cst (.int 100)) (.bin .mul (.call 19 (.cons (.var 0) (.cons (.cst (.int 3)) .nil))) (.call 19 (.cons (.var 0) (.cons (.bin .pow (.cst (.int 10)) (.cst (.int 9))) .nil)))))) (.cons (.asg (.n 3) (.newl (.cons (.cst .non) (.cons (.cst (.bl true)) (.cons (.cst (.bl false)) (.cons (.neg (.cst (.int 1))) (.cons (.var 2) (.cons (.cst (.str "")) (.cons (.var 1) (.cons (.bin .add (.var 1) (.var 1)) (.cons (.cst (.str "A")) (.cons (.cst (.str "?")) (.cons (.tup .nil) (.cons (.tup (.cons (.var 1) .nil)) .nil)))))))))))))) (.cons (.expr (.mth .extend (.var 3) (.cons (.lst (.cons (.tup (.cons (.var 1) (.cons (.cst (.int 0)) (.cons (.cst (.int 0)) .nil)))) (.cons (.tup (.cons (.var 1) (.cons (.neg (.cst (.int 1))) .nil))) (.cons (.tup (.cons (.var 1) (.cons (.var 2) .nil))) (.cons (.tup (.cons (.cst (.str "A")) (.cons (.cst (.int 0)) .nil))) (.cons (.tup (.cons (.bin .add (.var 1) (.cst (.str "b"))) (.cons (.cst (.int 0)) .nil))) .nil)))))) .nil))) (.cons (.expr (.mth .extend (.var 3) (.cons (.lst (.cons (.tup (.cons (.cst (.str "")) (.cons (.cst (.int 0)) .nil))) (.cons (.tup (.cons (.var 1) (.cons (.cst (.bl true)) .nil))) (.cons (.tup (.cons (.var 1) (.cons (.cst (.str "0")) .nil))) (.cons (.lst (.cons (.var 1) (.cons (.cst (.int 0)) .nil))) (.cons (.tup (.cons (.var 1) (.cons (.tup (.cons (.cst (.int 0)) (.cons (.cst (.int 0)) (.cons (.cst (.int 0)) (.cons (.cst (.int 0)) .nil))))) .nil))) .nil)))))) .nil))) (.cons (.expr (.mth .extend (.var 3) (.cons (.lst (.cons (.cst (.int 0)) (.cons (.cst (.int 1)) (.cons (.cst (.int 2)) (.cons (.tup (.cons (.var 1) (.cons (.cst (.int 0)) .nil))) (.cons (.cst (.str "sum")) (.cons (.cst (.str "marks")) (.cons (.tup (.cons (.cst (.str "mark")) (.cons (.cst (.int 0)) .nil))) (.cons (.tup (.cons (.tup (.cons (.var 1) (.cons (.cst (.int 0)) .nil))) (.cons (.cst (.int 1)) .nil))) .nil))))))))) .nil))) (.cons (.ret (.idx (.var 3) (.call 19 (.cons (.var 0) (.cons (.blt .len (.cons (.var 3) .nil)) .nil))))) .nil)))))))⟩
noncomputable def f_qspoilt_tuple:Fn:=⟨2,8,false,(.cons (.asg (.n 2) (.call 19 (.cons (.var 0) (.cons (.cst (.int 6)) .nil)))) (.cons (.asg (.n 3) (.call 19 (.cons (.var 0) (.cons (.bin .add (.blt .len (.cons (.var 1) .nil)) (.cst (.int 1))) .nil)))) (.cons (.asg (.n 4) (.call 32 (.cons (.var 0) .nil))) (.cons (.asg (.n 5) (.blt .min (.cons (.var 3) (.cons (.bin .sub (.blt .len (.cons (.var 1) .nil)) (.cst (.int 1))) .nil)))) (.cons (.ite (.or (.cmp .eq (.blt .len (.cons (.var 1) .nil)) (.cst (.int 0))) (.cmp .eq (.var 2) (.cst (.int 0)))) (.cons (.ret (.bin .add (.bin .add (.slc (.var 1) (.cst .non) (.var 3)) (.tup (.cons (.var 4) .nil))) (.slc (.var 1) (.var 3) (.cst .non)))) .nil) .nil) (.cons (.ite (.cmp .eq (.var 2) (.cst (.int 1))) (.cons (.ret (.bin .add (.slc (.var 1) (.cst .non) (.var 5)) (.slc (.var 1) (.bin .add (.var 5) (.cst (.int 1))) (.cst .non)))) .nil) .nil) (.cons (.ite (.cmp .eq (.var 2) (.cst (.int 2))) (.cons (.ret (.bin .add (.bin .add (.slc (.var 1) (.cst .non) (.var 5)) (.tup (.cons (.idx (.var 1) (.var 5)) .nil))) (.slc (.var 1) (.var 5) (.cst .non)))) .nil) .nil) (.cons (.ite (.cmp .eq (.var 2) (.cst (.int 3))) (.cons (.asg (.n 6) (.call 19 (.cons (.var 0) (.cons (.blt .len (.cons (.var 1) .nil)) .nil)))) (.cons (.asg (.n 7) (.thw (.blt .list (.cons (.var 1) .nil)))) (.cons (.six2 (.var 7) (.var 5) (.var 7) (.var 6) (.idx (.var 7) (.var 6)) (.idx (.var 7) (.var 5))) (.cons (.ret (.blt .tuple (.cons (.var 7) .nil))) .nil)))) .nil) (.cons (.ret (.bin .add (.bin .add (.slc (.var 1) (.cst .non) (.var 5)) (.tup (.cons (.var 4) .nil))) (.slc (.var 1) (.bin .add (.var 5) (.cst (.int 1))) (.cst .non)))) .nil)))))))))⟩
noncomputable def zbv:Fn:=⟨1,4,false,(.cons (.asg (.n 1) (.call 19 (.cons (.var 0) (.cons (.cst (.int 8)) .nil)))) (.cons (.asg (.n 2) (.call 19 (.cons (.var 0) (.cons (.cst (.int 100)) .nil)))) (.cons (.asg (.n 3) (.comp [none,some 0] (.n 0) (.range1 (.cst (.int 3))) (.cst (.bl true)) (.bin .sub (.call 19 (.cons (.var 1) (.cons (.cst (.int 4)) .nil))) (.cst (.int 1))))) (.cons (.ite (.cmp .lt (.var 1) (.cst (.int 4))) (.cons (.ret (.tup (.cons (.var 2) (.cons (.cst (.int 0)) (.cons (.cst (.int 0)) (.cons (.cst (.int 0)) .nil)))))) .nil) .nil) (.cons (.ite (.cmp .lt (.var 1) (.cst (.int 7))) (.cons (.ret (.tup (.cons (.bin .add (.cst (.int 10)) (.bin .mod (.var 2) (.cst (.int 60)))) (.cons (.idx (.var 3) (.cst (.int 0))) (.cons (.idx (.var 3) (.cst (.int 1))) (.cons (.idx (.var 3) (.cst (.int 2))) .nil)))))) .nil) .nil) (.cons (.ret (.blt .tuple (.cons (.lst (.cons (.idx (.tup (.cons (.cst (.int 200)) (.cons (.neg (.cst (.int 200))) (.cons (.var 2) (.cons (.cst (.int 0)) .nil))))) (.call 19 (.cons (.var 0) (.cons (.cst (.int 4)) .nil)))) (.cons (.idx (.var 3) (.cst (.int 0))) (.cons (.idx (.var 3) (.cst (.int 1))) (.cons (.idx (.var 3) (.cst (.int 2))) .nil))))) .nil))) .nil))))))⟩
noncomputable def f_qsome_telling_row:Fn:=⟨1,4,false,(.cons (.asg (.n 1) (.newl .nil)) (.cons (.for (.n 2) (.range1 (.bin .add (.cst (.int 2)) (.call 19 (.cons (.var 0) (.cons (.cst (.int 3)) .nil))))) (.cons (.asg (.n 3) (.tup (.cons (.call 30 (.cons (.var 0) .nil)) (.cons (.call 34 (.cons (.var 0) .nil)) .nil)))) (.cons (.ite (.nin (.var 3) (.var 1)) (.cons (.expr (.mth .append (.var 1) (.cons (.var 3) .nil))) .nil) .nil) .nil))) (.cons (.ite (.cmp .eq (.blt .len (.cons (.var 1) .nil)) (.cst (.int 1))) (.cons (.expr (.mth .append (.var 1) (.cons (.tup (.cons (.idx (.idx (.var 1) (.cst (.int 0))) (.cst (.int 0))) (.cons (.tup (.cons (.bin .add (.bin .mod (.idx (.idx (.idx (.var 1) (.cst (.int 0))) (.cst (.int 1))) (.cst (.int 0))) (.cst (.int 90))) (.cst (.int 1))) (.cons (.cst (.int 0)) (.cons (.cst (.int 0)) (.cons (.cst (.int 1)) .nil))))) .nil))) .nil))) .nil) .nil) (.cons (.ret (.call 31 (.cons (.var 0) (.cons (.var 1) .nil)))) .nil))))⟩
noncomputable def f_qsome_sentence:Fn:=⟨1,9,false,(.cons (.asg (.n 1) (.newl .nil)) (.cons (.for (.n 2) (.range1 (.blt .max (.cons (.cst (.int 0)) (.cons (.bin .sub (.call 19 (.cons (.var 0) (.cons (.cst (.int 6)) .nil))) (.cst (.int 2))) .nil)))) (.cons (.asg (.n 3) (.newl .nil)) (.cons (.for (.n 4) (.range1 (.call 19 (.cons (.var 0) (.cons (.cst (.int 3)) .nil)))) (.cons (.asg (.n 5) (.tup (.cons (.cst (.str "mark")) .nil))) (.cons (.ite (.cmp .gt (.call 19 (.cons (.var 0) (.cons (.cst (.int 4)) .nil))) (.cst (.int 0))) (.cons (.asg (.n 5) (.tup (.cons (.cst (.str "slice")) (.cons (.call 30 (.cons (.var 0) .nil)) (.cons (.call 34 (.cons (.var 0) .nil)) (.cons (.call 34 (.cons (.var 0) .nil)) .nil)))))) .nil) .nil) (.cons (.expr (.mth .append (.var 3) (.cons (.var 5) .nil))) .nil)))) (.cons (.asg (.n 6) (.bin .mul (.call 19 (.cons (.var 0) (.cons (.bin .pow (.cst (.int 10)) (.cst (.int 40))) .nil))) (.bin .sub (.cst (.int 1)) (.bin .mul (.cst (.int 2)) (.call 19 (.cons (.var 0) (.cons (.cst (.int 2)) .nil))))))) (.cons (.asg (.n 7) (.idx (.tup (.cons (.bin .sub (.call 19 (.cons (.var 0) (.cons (.cst (.int 7)) .nil))) (.cst (.int 3))) (.cons (.var 6) .nil))) (.call 19 (.cons (.var 0) (.cons (.cst (.int 2)) .nil))))) (.cons (.asg (.n 8) (.thw (.comp [none,some 0] (.n 0) (.range1 (.cst (.int 6))) (.cst (.bl true)) (.bin .sub (.call 19 (.cons (.var 1) (.cons (.cst (.int 5)) .nil))) (.cst (.int 1)))))) (.cons (.six (.var 8) (.call 19 (.cons (.var 0) (.cons (.cst (.int 6)) .nil))) (.idx (.tup (.cons (.cst (.int 0)) (.cons (.cst (.int 1)) (.cons (.cst (.int 200)) (.cons (.neg (.cst (.int 200))) .nil))))) (.call 19 (.cons (.var 0) (.cons (.cst (.int 4)) .nil))))) (.cons (.expr (.mth .append (.var 1) (.cons (.tup (.cons (.var 7) (.cons (.blt .tuple (.cons (.var 8) .nil)) (.cons (.blt .tuple (.cons (.var 3) .nil)) .nil)))) .nil))) .nil)))))))) (.cons (.ret (.blt .tuple (.cons (.var 1) .nil))) .nil)))⟩
noncomputable def f_qsome_count:Fn:=⟨3,6,false,(.cons (.asg (.n 3) (.blt .int (.cons (.and (.cmp .lt (.bin .mul (.var 1) (.var 2)) (.cst (.int 13))) (.cmp .eq (.call 19 (.cons (.var 0) (.cons (.cst (.int 4)) .nil))) (.cst (.int 0)))) .nil))) (.cons (.asg (.n 4) (.tup (.cons (.bin .mul (.call 19 (.cons (.var 0) (.cons (.cst (.int 4)) .nil))) (.bin .sub (.cst (.int 1)) (.var 3))) (.cons (.bin .mul (.call 19 (.cons (.var 0) (.cons (.cst (.int 3)) .nil))) (.bin .sub (.cst (.int 1)) (.var 3))) (.cons (.var 3) .nil))))) (.cons (.asg (.n 5) (.call 19 (.cons (.var 0) (.cons (.cst (.int 8)) .nil)))) (.cons (.ite (.cmp .eq (.var 5) (.cst (.int 0))) (.cons (.asg (.n 4) (.tup (.cons (.bin .sub (.cst (.int 0)) (.call 19 (.cons (.var 0) (.cons (.cst (.int 201)) .nil)))) (.cons (.cst (.int 0)) (.cons (.cst (.int 0)) .nil))))) .nil) .nil) (.cons (.ite (.cmp .eq (.var 5) (.cst (.int 1))) (.cons (.asg (.n 4) (.tup (.cons (.bin .sub (.cst (.int 0)) (.call 19 (.cons (.var 0) (.cons (.cst (.int 4)) .nil)))) (.cons (.cst (.int 2)) (.cons (.cst (.int 0)) .nil))))) .nil) .nil) (.cons (.ite (.cmp .eq (.var 5) (.cst (.int 2))) (.cons (.asg (.n 4) (.tup (.cons (.bin .add (.cst (.int 4)) (.call 19 (.cons (.var 0) (.cons (.cst (.int 8)) .nil)))) (.cons (.bin .sub (.neg (.cst (.int 1))) (.call 19 (.cons (.var 0) (.cons (.cst (.int 2)) .nil)))) (.cons (.cst (.int 0)) .nil))))) .nil) .nil) (.cons (.ret (.var 4)) .nil)))))))⟩
noncomputable def f_qsome_telling:Fn:=⟨3,8,false,(.cons (.asg (.n 3) (.newl .nil)) (.cons (.for (.n 4) (.range1 (.call 19 (.cons (.var 0) (.cons (.cst (.int 4)) .nil)))) (.cons (.ite (.cmp .eq (.call 19 (.cons (.var 0) (.cons (.cst (.int 2)) .nil))) (.cst (.int 0))) (.cons (.expr (.mth .append (.var 3) (.cons (.tup (.cons (.cst (.str "row")) (.cons (.call 35 (.cons (.var 0) .nil)) .nil))) .nil))) .nil) (.cons (.asg (.n 5) (.newl .nil)) (.cons (.for (.n 6) (.range1 (.call 19 (.cons (.var 0) (.cons (.cst (.int 3)) .nil)))) (.cons (.asg (.n 7) (.comp [none,some 0] (.n 0) (.range1 (.call 19 (.cons (.var 0) (.cons (.cst (.int 3)) .nil)))) (.cst (.bl true)) (.tup (.cons (.cst (.str "row")) (.cons (.call 35 (.cons (.var 1) .nil)) .nil))))) (.cons (.ite (.cmp .eq (.call 19 (.cons (.var 0) (.cons (.cst (.int 2)) .nil))) (.cst (.int 0))) (.cons (.asg (.n 5) (.thw (.bin .add (.frz (.var 5)) (.slc (.var 7) (.cst .non) (.cst (.int 1)))))) .nil) (.cons (.expr (.mth .append (.var 5) (.cons (.tup (.cons (.cst (.str "rounds")) (.cons (.call 37 (.cons (.var 0) (.cons (.var 1) (.cons (.var 2) .nil)))) (.cons (.call 36 (.cons (.var 0) .nil)) (.cons (.blt .tuple (.cons (.var 7) .nil)) .nil))))) .nil))) .nil)) .nil))) (.cons (.expr (.mth .append (.var 3) (.cons (.tup (.cons (.cst (.str "rounds")) (.cons (.call 37 (.cons (.var 0) (.cons (.var 1) (.cons (.var 2) .nil)))) (.cons (.call 36 (.cons (.var 0) .nil)) (.cons (.blt .tuple (.cons (.var 5) .nil)) .nil))))) .nil))) .nil)))) .nil)) (.cons (.ret (.blt .tuple (.cons (.var 3) .nil))) .nil)))⟩
noncomputable def f_qspoilt_within:Fn:=⟨3,4,false,(.cons (.asg (.n 3) (.call 19 (.cons (.var 0) (.cons (.blt .max (.cons (.cst (.int 1)) (.cons (.blt .len (.cons (.var 1) .nil)) .nil))) .nil)))) (.cons (.ite (.and (.cmp .lt (.var 2) (.cst (.int 9))) (.and (.cmp .gt (.call 19 (.cons (.var 0) (.cons (.cst (.int 3)) .nil))) (.cst (.int 0))) (.and (.cmp .lt (.var 3) (.blt .len (.cons (.var 1) .nil))) (.isi (.idx (.var 1) (.var 3)) [.tuple])))) (.cons (.ret (.bin .add (.bin .add (.slc (.var 1) (.cst .non) (.var 3)) (.tup (.cons (.call 39 (.cons (.var 0) (.cons (.idx (.var 1) (.var 3)) (.cons (.bin .add (.var 2) (.cst (.int 1))) .nil)))) .nil))) (.slc (.var 1) (.bin .add (.var 3) (.cst (.int 1))) (.cst .non)))) .nil) .nil) (.cons (.ret (.call 33 (.cons (.var 0) (.cons (.var 1) .nil)))) .nil)))⟩
noncomputable def f_law:Fn:=⟨1,11,true,(.cons (.asg (.n 1) (.call 16 (.cons (.var 0) .nil))) (.cons (.asg (.t [2,3]) (.call 20 (.cons (.var 1) (.cons (.cst (.int 4)) .nil)))) (.cons (.asg (.n 4) (.call 38 (.cons (.var 1) (.cons (.var 2) (.cons (.var 3) .nil))))) (.cons (.ite (.cmp .isnot (.call 13 (.cons (.var 4) .nil)) (.cst (.bl true))) (.cons .nope .nil) .nil) (.cons (.for (.n 5) (.range1 (.cst (.int 4))) (.cons (.asg (.n 6) (.call 39 (.cons (.var 1) (.cons (.var 4) (.cons (.cst (.int 0)) .nil))))) (.cons (.asg (.n 7) (.call 13 (.cons (.var 6) .nil))) (.cons (.ite (.or (.not (.isi (.var 7) [.bool])) (.cmp .ne (.var 7) (.call 29 (.cons (.var 6) .nil)))) (.cons .nope .nil) .nil) .nil)))) (.cons (.asg (.n 8) (.tup (.cons (.cst (.str "rounds")) (.cons (.tup (.cons (.cst (.int 1)) (.cons (.cst (.int 0)) (.cons (.cst (.int 0)) .nil)))) (.cons (.tup .nil) (.cons (.tup (.cons (.tup (.cons (.cst (.str "row")) (.cons (.tup (.cons (.cst (.str "mark")) (.cons (.cst (.int 0)) .nil))) .nil))) .nil)) .nil)))))) (.cons (.asg (.n 9) (.tup (.cons (.cst (.str "rounds")) (.cons (.tup (.cons (.cst (.int 1)) (.cons (.cst (.int 0)) (.cons (.cst (.int 0)) .nil)))) (.cons (.tup .nil) (.cons (.tup (.cons (.var 8) .nil)) .nil)))))) (.cons (.ite (.or (.cmp .isnot (.call 13 (.cons (.tup (.cons (.var 9) .nil)) .nil)) (.cst (.bl true))) (.cmp .isnot (.call 13 (.cons (.tup (.cons (.tup (.cons (.cst (.str "rounds")) (.cons (.tup (.cons (.cst (.int 1)) (.cons (.cst (.int 0)) (.cons (.cst (.int 0)) .nil)))) (.cons (.tup .nil) (.cons (.tup (.cons (.var 9) .nil)) .nil))))) .nil)) .nil)) (.cst (.bl false)))) (.cons .nope .nil) .nil) (.cons (.asg (.n 10) (.call 32 (.cons (.var 1) .nil))) (.cons (.asg (.n 7) (.call 13 (.cons (.var 10) .nil))) (.cons (.ret (.and (.cmp .is (.call 13 (.cons (.blt .list (.cons (.var 4) .nil)) .nil)) (.cst (.bl false))) (.and (.isi (.var 7) [.bool]) (.cmp .eq (.var 7) (.cmp .eq (.var 10) (.tup .nil)))))) .nil)))))))))))⟩
noncomputable def T:Nat->Option Fn
 |0=>some zbj
 |1=>some zaA
 |2=>some zbk
 |3=>some zcu
 |4=>some f_has_form
 |5=>some zb8
 |6=>some zck
 |7=>some zbi
 |8=>some zby
 |9=>some zav
 |10=>some zbh
 |11=>some zaF
 |12=>some zau
 |13=>some zcR
 |14=>some zcH
 |15=>some f_is_part
 |16=>some zf5
 |17=>some f_qmixed
 |18=>some zeM
 |19=>some f_qtake
 |20=>some zga
 |21=>some zf6
 |22=>some zc7
 |23=>some zdc
 |24=>some zbd
 |25=>some f_qtelling_row
 |26=>some zbS
 |27=>some f_qis_sentence
 |28=>some f_qpart
 |29=>some zbZ
 |30=>some zcd
 |31=>some f_qsome_row
 |32=>some f_qstrange
 |33=>some f_qspoilt_tuple
 |34=>some zbv
 |35=>some f_qsome_telling_row
 |36=>some f_qsome_sentence
 |37=>some f_qsome_count
 |38=>some f_qsome_telling
 |39=>some f_qspoilt_within
 |40=>some f_law
 |_=>none
noncomputable abbrev zfz:Nat:=0
noncomputable abbrev zgw:Nat:=1
noncomputable abbrev zcb:Nat:=2
noncomputable abbrev zfn:Nat:=3
noncomputable abbrev zg7:Nat:=4
noncomputable abbrev zeo:Nat:=5
noncomputable abbrev zfN:Nat:=6
noncomputable abbrev zeG:Nat:=7
noncomputable abbrev ze3:Nat:=8
noncomputable abbrev ze6:Nat:=9
noncomputable abbrev zgc:Nat:=10
noncomputable abbrev zfS:Nat:=11
noncomputable abbrev zfL:Nat:=12
noncomputable abbrev za5:Nat:=13
noncomputable abbrev zb6:Nat:=14
noncomputable abbrev zcI:Nat:=15
noncomputable abbrev zhl:Nat:=16
noncomputable abbrev zi0:Nat:=17
noncomputable abbrev zj9:Nat:=18
noncomputable abbrev zaf:Nat:=19
noncomputable abbrev zhH:Nat:=20
noncomputable abbrev ze4:Nat:=21
noncomputable abbrev zcB:Nat:=22
noncomputable abbrev zif:Nat:=23
noncomputable abbrev zdo:Nat:=24
noncomputable abbrev zeD:Nat:=25
noncomputable abbrev zhI:Nat:=26
noncomputable abbrev zeE:Nat:=27
noncomputable abbrev zdV:Nat:=28
noncomputable abbrev zds:Nat:=29
noncomputable abbrev zeB:Nat:=30
noncomputable abbrev zeT:Nat:=31
noncomputable abbrev zfw:Nat:=32
noncomputable abbrev zcC:Nat:=33
noncomputable abbrev zfh:Nat:=34
noncomputable abbrev zbK:Nat:=35
noncomputable abbrev zdC:Nat:=36
noncomputable abbrev zcq:Nat:=37
noncomputable abbrev zcE:Nat:=38
noncomputable abbrev zcl:Nat:=39
noncomputable abbrev zkx:Nat:=40
end IC
namespace WK
open PySem L2 IC
noncomputable def top (i:Nat):Stmt:=PySem.Challenge.pw_widewords_k12_tellings_looked_at.main.body.getD i (.Pass ⟨0,0,0,0⟩)
noncomputable abbrev zbw:Stmt:=top 2
theorem sc_is_whole:FnScope ["thing","low","high"] ["thing","low","high"] (defScope zbw):=⟨rfl,rfl,rfl,by decide +kernel,rfl,by decide +kernel,by decide +kernel⟩
noncomputable abbrev zba:Stmt:=top 3
theorem sc_is_letter:FnScope ["thing"] ["thing"] (defScope zba):=⟨rfl,rfl,rfl,by decide +kernel,rfl,by decide +kernel,by decide +kernel⟩
noncomputable abbrev zaZ:Stmt:=top 4
theorem sc_are_told:FnScope ["thing","many"] ["thing","many"] (defScope zaZ):=⟨rfl,rfl,rfl,by decide +kernel,rfl,by decide +kernel,by decide +kernel⟩
noncomputable abbrev zbf:Stmt:=top 7
theorem sc_is_told_row:FnScope ["thing"] ["thing"] (defScope zbf):=⟨rfl,rfl,rfl,by decide +kernel,rfl,by decide +kernel,by decide +kernel⟩
noncomputable abbrev zaX:Stmt:=top 8
theorem sc_has_form:FnScope ["thing","told","kind","operand"] ["thing","told"] (defScope zaX):=⟨rfl,rfl,rfl,by decide +kernel,rfl,by decide +kernel,by decide +kernel⟩
noncomputable abbrev zaW:Stmt:=top 9
theorem sc_is_named:FnScope ["thing"] ["thing"] (defScope zaW):=⟨rfl,rfl,rfl,by decide +kernel,rfl,by decide +kernel,by decide +kernel⟩
noncomputable abbrev za7:Stmt:=top 10
theorem sc_is_operand:FnScope ["kind","thing","told"] ["kind","thing","told"] (defScope za7):=⟨rfl,rfl,rfl,by decide +kernel,rfl,by decide +kernel,by decide +kernel⟩
noncomputable abbrev zaE:Stmt:=top 12
theorem sc_is_told_cell:FnScope ["thing"] ["thing"] (defScope zaE):=⟨rfl,rfl,rfl,by decide +kernel,rfl,by decide +kernel,by decide +kernel⟩
noncomputable abbrev zay:Stmt:=top 13
theorem sc_is_lettered:FnScope ["thing"] ["thing"] (defScope zay):=⟨rfl,rfl,rfl,by decide +kernel,rfl,by decide +kernel,by decide +kernel⟩
noncomputable abbrev zah:Stmt:=top 18
theorem sc_is_sentence:FnScope ["thing"] ["thing"] (defScope zah):=⟨rfl,rfl,rfl,by decide +kernel,rfl,by decide +kernel,by decide +kernel⟩
noncomputable abbrev za3:Stmt:=top 19
theorem sc_is_term:FnScope ["thing","f","exponent","things"] ["thing"] (defScope za3):=⟨rfl,rfl,rfl,by decide +kernel,rfl,by decide +kernel,by decide +kernel⟩
noncomputable abbrev zaq:Stmt:=top 20
theorem sc_are_things:FnScope ["thing"] ["thing"] (defScope zaq):=⟨rfl,rfl,rfl,by decide +kernel,rfl,by decide +kernel,by decide +kernel⟩
noncomputable abbrev zaV:Stmt:=top 21
theorem sc_is_thing:FnScope ["thing"] ["thing"] (defScope zaV):=⟨rfl,rfl,rfl,by decide +kernel,rfl,by decide +kernel,by decide +kernel⟩
noncomputable abbrev za6:Stmt:=top 24
theorem sc_is_telling:FnScope ["thing"] ["thing"] (defScope za6):=⟨rfl,rfl,rfl,by decide +kernel,rfl,by decide +kernel,by decide +kernel⟩
noncomputable abbrev zaO:Stmt:=top 25
theorem sc_are_parts:FnScope ["thing","nests"] ["thing","nests"] (defScope zaO):=⟨rfl,rfl,rfl,by decide +kernel,rfl,by decide +kernel,by decide +kernel⟩
noncomputable abbrev za2:Stmt:=top 26
theorem sc_is_part:FnScope ["thing","nests"] ["thing","nests"] (defScope za2):=⟨rfl,rfl,rfl,by decide +kernel,rfl,by decide +kernel,by decide +kernel⟩
noncomputable abbrev zem:Stmt:=top 28
theorem sc_qfresh:FnScope ["_law_script"] ["_law_script"] (defScope zem):=⟨rfl,rfl,rfl,by decide +kernel,rfl,by decide +kernel,by decide +kernel⟩
noncomputable abbrev zdk:Stmt:=top 29
theorem sc_qmixed:FnScope ["_law_seed","_law_primes","_law_number","_law_k","_law_prime","_law_far","_law_square","_law_power"] ["_law_seed"] (defScope zdk):=⟨rfl,rfl,rfl,by decide +kernel,rfl,by decide +kernel,by decide +kernel⟩
noncomputable abbrev zdQ:Stmt:=top 30
theorem sc_qfill:FnScope ["_law_state","_law_cells","_law_at","_law_seed"] ["_law_state"] (defScope zdQ):=⟨rfl,rfl,rfl,by decide +kernel,rfl,by decide +kernel,by decide +kernel⟩
noncomputable abbrev zeQ:Stmt:=top 31
theorem sc_qtake:FnScope ["_law_state","_law_many","_law_turns","_law_digit"] ["_law_state","_law_many"] (defScope zeQ):=⟨rfl,rfl,rfl,by decide +kernel,rfl,by decide +kernel,by decide +kernel⟩
noncomputable abbrev zdq:Stmt:=top 32
theorem sc_qsizes:FnScope ["_law_state","_law_most"] ["_law_state","_law_most"] (defScope zdq):=⟨rfl,rfl,rfl,by decide +kernel,rfl,by decide +kernel,by decide +kernel⟩
noncomputable abbrev zcs:Stmt:=top 33
theorem sc_qwhole:FnScope ["_law_thing_here"] ["_law_thing_here"] (defScope zcs):=⟨rfl,rfl,rfl,by decide +kernel,rfl,by decide +kernel,by decide +kernel⟩
noncomputable abbrev zbr:Stmt:=top 34
theorem sc_qwholes:FnScope ["_law_thing_here","_law_many","_law_most"] ["_law_thing_here","_law_many","_law_most"] (defScope zbr):=⟨rfl,rfl,rfl,by decide +kernel,rfl,by decide +kernel,by decide +kernel⟩
noncomputable abbrev zbT:Stmt:=top 35
theorem sc_qletter:FnScope ["_law_thing_here"] ["_law_thing_here"] (defScope zbT):=⟨rfl,rfl,rfl,by decide +kernel,rfl,by decide +kernel,by decide +kernel⟩
noncomputable abbrev zao:Stmt:=top 36
theorem sc_qindex_cell:FnScope ["_law_thing_here"] ["_law_thing_here"] (defScope zao):=⟨rfl,rfl,rfl,by decide +kernel,rfl,by decide +kernel,by decide +kernel⟩
noncomputable abbrev zW:Stmt:=top 37
theorem sc_qtelling_row:FnScope ["_law_row","_law_lengths"] ["_law_row"] (defScope zW):=⟨rfl,rfl,rfl,by decide +kernel,rfl,by decide +kernel,by decide +kernel⟩
noncomputable abbrev zbV:Stmt:=top 38
theorem sc_qthing:FnScope ["_law_thing_here"] ["_law_thing_here"] (defScope zbV):=⟨rfl,rfl,rfl,by decide +kernel,rfl,by decide +kernel,by decide +kernel⟩
noncomputable abbrev zX:Stmt:=top 39
theorem sc_qis_sentence:FnScope ["_law_told","_law_term"] ["_law_told"] (defScope zX):=⟨rfl,rfl,rfl,by decide +kernel,rfl,by decide +kernel,by decide +kernel⟩
noncomputable abbrev zbN:Stmt:=top 40
theorem sc_qpart:FnScope ["_law_part_here","_law_deep"] ["_law_part_here","_law_deep"] (defScope zbN):=⟨rfl,rfl,rfl,by decide +kernel,rfl,by decide +kernel,by decide +kernel⟩
noncomputable abbrev zaw:Stmt:=top 41
theorem sc_qis_telling:FnScope ["_law_told"] ["_law_told"] (defScope zaw):=⟨rfl,rfl,rfl,by decide +kernel,rfl,by decide +kernel,by decide +kernel⟩
noncomputable abbrev zaP:Stmt:=top 42
theorem sc_qsome_letter:FnScope ["_law_state"] ["_law_state"] (defScope zaP):=⟨rfl,rfl,rfl,by decide +kernel,rfl,by decide +kernel,by decide +kernel⟩
noncomputable abbrev za9:Stmt:=top 43
theorem sc_qsome_row:FnScope ["_law_state","_law_cells","_law_kinds","_law_kind","_law_digit","_law_some"] ["_law_state","_law_cells"] (defScope za9):=⟨rfl,rfl,rfl,by decide +kernel,rfl,by decide +kernel,by decide +kernel⟩
noncomputable abbrev zbx:Stmt:=top 44
theorem sc_qstrange:FnScope ["_law_state","_law_letter_here","_law_great","_law_some"] ["_law_state"] (defScope zbx):=⟨rfl,rfl,rfl,by decide +kernel,rfl,by decide +kernel,by decide +kernel⟩
noncomputable abbrev z3:Stmt:=top 45
theorem sc_qspoilt_tuple:FnScope ["_law_state","_law_told","_law_way","_law_at","_law_strange_here","_law_here","_law_other","_law_row"] ["_law_state","_law_told"] (defScope z3):=⟨rfl,rfl,rfl,by decide +kernel,rfl,by decide +kernel,by decide +kernel⟩
noncomputable abbrev zax:Stmt:=top 46
theorem sc_qsome_index:FnScope ["_law_state","_law_way","_law_first","_law_small"] ["_law_state"] (defScope zax):=⟨rfl,rfl,rfl,by decide +kernel,rfl,by decide +kernel,by decide +kernel⟩
noncomputable abbrev zM:Stmt:=top 47
theorem sc_qsome_telling_row:FnScope ["_law_state","_law_cells","_law_k","_law_spot"] ["_law_state"] (defScope zM):=⟨rfl,rfl,rfl,by decide +kernel,rfl,by decide +kernel,by decide +kernel⟩
noncomputable abbrev zQ:Stmt:=top 48
theorem sc_qsome_sentence:FnScope ["_law_state","_law_terms","_law_k","_law_things","_law_j","_law_thing_here","_law_far","_law_factor","_law_numbers"] ["_law_state"] (defScope zQ):=⟨rfl,rfl,rfl,by decide +kernel,rfl,by decide +kernel,by decide +kernel⟩
noncomputable abbrev zaN:Stmt:=top 49
theorem sc_qsome_count:FnScope ["_law_state","_law_w","_law_n","_law_t","_law_count","_law_way"] ["_law_state","_law_w","_law_n"] (defScope zaN):=⟨rfl,rfl,rfl,by decide +kernel,rfl,by decide +kernel,by decide +kernel⟩
noncomputable abbrev zT:Stmt:=top 50
theorem sc_qsome_telling:FnScope ["_law_state","_law_w","_law_n","_law_parts","_law_k","_law_inner","_law_j","_law_deep"] ["_law_state","_law_w","_law_n"] (defScope zT):=⟨rfl,rfl,rfl,by decide +kernel,rfl,by decide +kernel,by decide +kernel⟩
noncomputable abbrev zP:Stmt:=top 51
theorem sc_qspoilt_within:FnScope ["_law_state","_law_told","_law_deep","_law_at"] ["_law_state","_law_told","_law_deep"] (defScope zP):=⟨rfl,rfl,rfl,by decide +kernel,rfl,by decide +kernel,by decide +kernel⟩
noncomputable abbrev zdN:Stmt:=top 52
theorem sc_law:FnScope ["_law_script","_law_state","_law_w","_law_n","_law_told","_law_k","_law_spoilt","_law_found","_law_inner","_law_deep","_law_strange_here"] ["_law_script"] (defScope zdN):=⟨rfl,rfl,rfl,by decide +kernel,rfl,by decide +kernel,by decide +kernel⟩
theorem zcF:VisAll ["thing","low","high"] (defScope zbw):=by unfold VisAll;decide +kernel
abbrev GI (s:Stmt)(x:String):Prop:=(defScope s).names.lookup (Str.ofString x)=some .globalImplicit
theorem zfZ:GI zbw "bool":=by decide +kernel
theorem zgh:GI zbw "int":=by decide +kernel
theorem zb3:GI zbw "isinstance":=by decide +kernel
theorem zdZ:VisAll ["thing"] (defScope zba):=by unfold VisAll;decide +kernel
theorem zdA:GI zba "isinstance":=by decide +kernel
theorem zfY:GI zba "len":=by decide +kernel
theorem zfW:GI zba "str":=by decide +kernel
theorem zdz:VisAll ["thing","many"] (defScope zaZ):=by unfold VisAll;decide +kernel
theorem zgl:GI zaZ "all":=by decide +kernel
theorem zdJ:GI zaZ "isinstance":=by decide +kernel
theorem zgg:GI zaZ "len":=by decide +kernel
theorem zfy:GI zaZ "tuple":=by decide +kernel
theorem zgZ:VisAll ["thing"] (defScope zbf):=by unfold VisAll;decide +kernel
theorem zdx:GI zbf "has_form":=by decide +kernel
theorem zat:VisAll ["thing","told","kind","operand"] (defScope zaX):=by unfold VisAll;decide +kernel
theorem zdB:GI zaX "ROWS":=by decide +kernel
theorem zer:GI zaX "is_named":=by decide +kernel
theorem zdI:GI zaX "is_operand":=by decide +kernel
theorem zdU:GI zaX "len":=by decide +kernel
theorem zgs:GI zaX "zip":=by decide +kernel
theorem zdn:VisAll ["thing"] (defScope zaW):=by unfold VisAll;decide +kernel
theorem zf1:GI zaW "ROWS":=by decide +kernel
theorem zb4:GI zaW "isinstance":=by decide +kernel
theorem zgj:GI zaW "len":=by decide +kernel
theorem zgJ:GI zaW "str":=by decide +kernel
theorem zfI:GI zaW "tuple":=by decide +kernel
theorem zcv:VisAll ["kind","thing","told"] (defScope za7):=by unfold VisAll;decide +kernel
theorem zcK:GI za7 "is_told_cell":=by decide +kernel
theorem zdL:GI za7 "is_whole":=by decide +kernel
theorem zd7:VisAll ["thing"] (defScope zaE):=by unfold VisAll;decide +kernel
theorem zc6:GI zaE "are_told":=by decide +kernel
theorem zcy:GI zaE "is_lettered":=by decide +kernel
theorem zcX:VisAll ["thing"] (defScope zay):=by unfold VisAll;decide +kernel
theorem zde:GI zay "is_letter":=by decide +kernel
theorem zc2:GI zay "isinstance":=by decide +kernel
theorem zfd:GI zay "len":=by decide +kernel
theorem zez:GI zay "tuple":=by decide +kernel
theorem zcW:VisAll ["thing"] (defScope zah):=by unfold VisAll;decide +kernel
theorem zcY:GI zah "MOST_TERMS":=by decide +kernel
theorem ze9:GI zah "all":=by decide +kernel
theorem zc1:GI zah "isinstance":=by decide +kernel
theorem zfl:GI zah "len":=by decide +kernel
theorem zew:GI zah "tuple":=by decide +kernel
theorem zbz:VisAll ["thing","f","exponent","things"] (defScope za3):=by unfold VisAll;decide +kernel
theorem zbW:GI za3 "FACTOR_LIMIT":=by decide +kernel
theorem zdX:GI za3 "are_things":=by decide +kernel
theorem zeI:GI za3 "are_told":=by decide +kernel
theorem zeZ:GI za3 "is_whole":=by decide +kernel
theorem zdY:GI za3 "isinstance":=by decide +kernel
theorem zgN:GI za3 "len":=by decide +kernel
theorem zfU:GI za3 "tuple":=by decide +kernel
theorem zdl:VisAll ["thing"] (defScope zaq):=by unfold VisAll;decide +kernel
theorem zcT:GI zaq "MOST_THINGS":=by decide +kernel
theorem zfE:GI zaq "all":=by decide +kernel
theorem zdd:GI zaq "isinstance":=by decide +kernel
theorem zfv:GI zaq "len":=by decide +kernel
theorem zeN:GI zaq "tuple":=by decide +kernel
theorem zbc:VisAll ["thing"] (defScope zaV):=by unfold VisAll;decide +kernel
theorem zcp:GI zaV "are_told":=by decide +kernel
theorem zee:GI zaV "is_letter":=by decide +kernel
theorem zdD:GI zaV "isinstance":=by decide +kernel
theorem zcJ:GI zaV "len":=by decide +kernel
theorem zfK:GI zaV "tuple":=by decide +kernel
theorem zhD:VisAll ["thing"] (defScope za6):=by unfold VisAll;decide +kernel
theorem zc9:GI za6 "MOST_NESTS":=by decide +kernel
theorem zdt:GI za6 "are_parts":=by decide +kernel
theorem zfM:VisAll ["thing","nests"] (defScope zaO):=by unfold VisAll;decide +kernel
theorem zf3:GI zaO "all":=by decide +kernel
theorem zdm:GI zaO "isinstance":=by decide +kernel
theorem ze8:GI zaO "tuple":=by decide +kernel
theorem zaK:VisAll ["thing","nests"] (defScope za2):=by unfold VisAll;decide +kernel
theorem zes:GI za2 "are_parts":=by decide +kernel
theorem zeK:GI za2 "are_told":=by decide +kernel
theorem zdM:GI za2 "is_sentence":=by decide +kernel
theorem zdH:GI za2 "is_told_row":=by decide +kernel
theorem zd1:GI za2 "isinstance":=by decide +kernel
theorem zcU:GI za2 "len":=by decide +kernel
theorem zf2:GI za2 "tuple":=by decide +kernel
theorem zkX:VisAll ["_law_script"] (defScope zem):=by unfold VisAll;decide +kernel
theorem zS:VisAll ["_law_seed","_law_primes","_law_number","_law_k","_law_prime","_law_far","_law_square","_law_power"] (defScope zdk):=by unfold VisAll;decide +kernel
theorem zeX:GI zdk "enumerate":=by decide +kernel
theorem z8:VisAll ["_law_state","_law_cells","_law_at","_law_seed"] (defScope zdQ):=by unfold VisAll;decide +kernel
theorem zgv:GI zdQ "_law_mixed":=by decide +kernel
theorem zcN:GI zdQ "len":=by decide +kernel
theorem zam:VisAll ["_law_state","_law_many","_law_turns","_law_digit"] (defScope zeQ):=by unfold VisAll;decide +kernel
theorem zgU:GI zeQ "_law_fill":=by decide +kernel
theorem zgr:VisAll ["_law_state","_law_most"] (defScope zdq):=by unfold VisAll;decide +kernel
theorem zdS:GI zdq "_law_take":=by decide +kernel
theorem zhS:VisAll ["_law_thing_here"] (defScope zcs):=by unfold VisAll;decide +kernel
theorem zgS:GI zcs "bool":=by decide +kernel
theorem zho:GI zcs "int":=by decide +kernel
theorem zcn:GI zcs "isinstance":=by decide +kernel
theorem zen:VisAll ["_law_thing_here","_law_many","_law_most"] (defScope zbr):=by unfold VisAll;decide +kernel
theorem zgY:GI zbr "all":=by decide +kernel
theorem zdW:GI zbr "isinstance":=by decide +kernel
theorem zgV:GI zbr "len":=by decide +kernel
theorem zf0:GI zbr "tuple":=by decide +kernel
theorem zfJ:VisAll ["_law_thing_here"] (defScope zbT):=by unfold VisAll;decide +kernel
theorem zd5:GI zbT "isinstance":=by decide +kernel
theorem zg2:GI zbT "len":=by decide +kernel
theorem zgW:GI zbT "str":=by decide +kernel
theorem zcf:VisAll ["_law_thing_here"] (defScope zao):=by unfold VisAll;decide +kernel
theorem zdF:GI zao "_law_letter":=by decide +kernel
theorem zdK:GI zao "_law_wholes":=by decide +kernel
theorem zcV:GI zao "isinstance":=by decide +kernel
theorem zfj:GI zao "len":=by decide +kernel
theorem zev:GI zao "tuple":=by decide +kernel
theorem zD:VisAll ["_law_row","_law_lengths"] (defScope zW):=by unfold VisAll;decide +kernel
theorem zbt:GI zW "_law_index_cell":=by decide +kernel
theorem zb5:GI zW "_law_whole":=by decide +kernel
theorem zeJ:GI zW "all":=by decide +kernel
theorem zbB:GI zW "isinstance":=by decide +kernel
theorem zaI:GI zW "len":=by decide +kernel
theorem ze1:GI zW "str":=by decide +kernel
theorem zeb:GI zW "tuple":=by decide +kernel
theorem zcG:VisAll ["_law_thing_here"] (defScope zbV):=by unfold VisAll;decide +kernel
theorem zfB:GI zbV "_law_letter":=by decide +kernel
theorem zc8:GI zbV "_law_wholes":=by decide +kernel
theorem zex:GI zbV "isinstance":=by decide +kernel
theorem zhz:GI zbV "len":=by decide +kernel
theorem zgB:GI zbV "tuple":=by decide +kernel
theorem zZ:VisAll ["_law_told","_law_term"] (defScope zX):=by unfold VisAll;decide +kernel
theorem zdG:GI zX "_law_whole":=by decide +kernel
theorem zdj:GI zX "_law_wholes":=by decide +kernel
theorem zeP:GI zX "abs":=by decide +kernel
theorem zeR:GI zX "all":=by decide +kernel
theorem zaJ:GI zX "isinstance":=by decide +kernel
theorem zbJ:GI zX "len":=by decide +kernel
theorem zbs:GI zX "tuple":=by decide +kernel
theorem zbH:VisAll ["_law_part_here","_law_deep"] (defScope zbN):=by unfold VisAll;decide +kernel
theorem zdP:GI zbN "_law_is_sentence":=by decide +kernel
theorem zd2:GI zbN "_law_telling_row":=by decide +kernel
theorem zfX:GI zbN "_law_wholes":=by decide +kernel
theorem zih:GI zbN "all":=by decide +kernel
theorem zcA:GI zbN "isinstance":=by decide +kernel
theorem zd6:GI zbN "len":=by decide +kernel
theorem zeC:GI zbN "tuple":=by decide +kernel
theorem zeF:VisAll ["_law_told"] (defScope zaw):=by unfold VisAll;decide +kernel
theorem zfi:GI zaw "all":=by decide +kernel
theorem zc5:GI zaw "isinstance":=by decide +kernel
theorem zeq:GI zaw "tuple":=by decide +kernel
theorem zge:VisAll ["_law_state"] (defScope zaP):=by unfold VisAll;decide +kernel
theorem zd0:GI zaP "_law_take":=by decide +kernel
theorem zz:VisAll ["_law_state","_law_cells","_law_kinds","_law_kind","_law_digit","_law_some"] (defScope za9):=by unfold VisAll;decide +kernel
theorem zcP:GI za9 "_law_take":=by decide +kernel
theorem zfs:GI za9 "range":=by decide +kernel
theorem zJ:VisAll ["_law_state","_law_letter_here","_law_great","_law_some"] (defScope zbx):=by unfold VisAll;decide +kernel
theorem zdh:GI zbx "_law_some_letter":=by decide +kernel
theorem zb7:GI zbx "_law_take":=by decide +kernel
theorem zgd:GI zbx "len":=by decide +kernel
theorem zn:VisAll ["_law_state","_law_told","_law_way","_law_at","_law_strange_here","_law_here","_law_other","_law_row"] (defScope z3):=by unfold VisAll;decide +kernel
theorem zc3:GI z3 "_law_strange":=by decide +kernel
theorem zbm:GI z3 "_law_take":=by decide +kernel
theorem zaS:GI z3 "len":=by decide +kernel
theorem zd4:GI z3 "list":=by decide +kernel
theorem zeA:GI z3 "min":=by decide +kernel
theorem zdE:GI z3 "tuple":=by decide +kernel
theorem zO:VisAll ["_law_state","_law_way","_law_first","_law_small"] (defScope zax):=by unfold VisAll;decide +kernel
theorem zbC:GI zax "_law_take":=by decide +kernel
theorem zey:GI zax "range":=by decide +kernel
theorem zep:GI zax "tuple":=by decide +kernel
theorem zE:VisAll ["_law_state","_law_cells","_law_k","_law_spot"] (defScope zM):=by unfold VisAll;decide +kernel
theorem zb1:GI zM "_law_some_index":=by decide +kernel
theorem zbY:GI zM "_law_some_letter":=by decide +kernel
theorem zch:GI zM "_law_some_row":=by decide +kernel
theorem zcM:GI zM "_law_take":=by decide +kernel
theorem zdb:GI zM "len":=by decide +kernel
theorem zcL:GI zM "range":=by decide +kernel
theorem zq:VisAll ["_law_state","_law_terms","_law_k","_law_things","_law_j","_law_thing_here","_law_far","_law_factor","_law_numbers"] (defScope zQ):=by unfold VisAll;decide +kernel
theorem zbg:GI zQ "_law_some_index":=by decide +kernel
theorem zcj:GI zQ "_law_some_letter":=by decide +kernel
theorem zK:GI zQ "_law_take":=by decide +kernel
theorem zec:GI zQ "max":=by decide +kernel
theorem zbe:GI zQ "range":=by decide +kernel
theorem za8:GI zQ "tuple":=by decide +kernel
theorem zI:VisAll ["_law_state","_law_w","_law_n","_law_t","_law_count","_law_way"] (defScope zaN):=by unfold VisAll;decide +kernel
theorem z6:GI zaN "_law_take":=by decide +kernel
theorem zfe:GI zaN "int":=by decide +kernel
theorem zx:VisAll ["_law_state","_law_w","_law_n","_law_parts","_law_k","_law_inner","_law_j","_law_deep"] (defScope zT):=by unfold VisAll;decide +kernel
theorem zbo:GI zT "_law_some_count":=by decide +kernel
theorem zaT:GI zT "_law_some_sentence":=by decide +kernel
theorem zbM:GI zT "_law_some_telling_row":=by decide +kernel
theorem zas:GI zT "_law_take":=by decide +kernel
theorem zbl:GI zT "range":=by decide +kernel
theorem zbn:GI zT "tuple":=by decide +kernel
theorem zG:VisAll ["_law_state","_law_told","_law_deep","_law_at"] (defScope zP):=by unfold VisAll;decide +kernel
theorem zca:GI zP "_law_spoilt_tuple":=by decide +kernel
theorem zb0:GI zP "_law_spoilt_within":=by decide +kernel
theorem zbP:GI zP "_law_take":=by decide +kernel
theorem zcr:GI zP "isinstance":=by decide +kernel
theorem zci:GI zP "len":=by decide +kernel
theorem zd9:GI zP "max":=by decide +kernel
theorem zdp:GI zP "tuple":=by decide +kernel
theorem zaD:VisAll ["_law_script","_law_state","_law_w","_law_n","_law_told","_law_k","_law_spoilt","_law_found","_law_inner","_law_deep","_law_strange_here"] (defScope zdN):=by unfold VisAll;decide +kernel
theorem zhF:GI zdN "_law_fresh":=by decide +kernel
theorem ze7:GI zdN "_law_is_telling":=by decide +kernel
theorem zhu:GI zdN "_law_sizes":=by decide +kernel
theorem zeu:GI zdN "_law_some_telling":=by decide +kernel
theorem zdR:GI zdN "_law_spoilt_within":=by decide +kernel
theorem zgt:GI zdN "_law_strange":=by decide +kernel
theorem zgq:GI zdN "bool":=by decide +kernel
theorem zaG:GI zdN "is_telling":=by decide +kernel
theorem zdf:GI zdN "isinstance":=by decide +kernel
theorem ziW:GI zdN "list":=by decide +kernel
theorem zia:GI zdN "range":=by decide +kernel
noncomputable def pss:Nat->Option (List Str)
 |0=>some ["thing","low","high"]
 |1=>some ["thing"]
 |2=>some ["thing","many"]
 |3=>some ["thing"]
 |4=>some ["thing","told"]
 |5=>some ["thing"]
 |6=>some ["kind","thing","told"]
 |7=>some ["thing"]
 |8=>some ["thing"]
 |9=>some ["thing"]
 |10=>some ["thing"]
 |11=>some ["thing"]
 |12=>some ["thing"]
 |13=>some ["thing"]
 |14=>some ["thing","nests"]
 |15=>some ["thing","nests"]
 |16=>some ["_law_script"]
 |17=>some ["_law_seed"]
 |18=>some ["_law_state"]
 |19=>some ["_law_state","_law_many"]
 |20=>some ["_law_state","_law_most"]
 |21=>some ["_law_thing_here"]
 |22=>some ["_law_thing_here","_law_many","_law_most"]
 |23=>some ["_law_thing_here"]
 |24=>some ["_law_thing_here"]
 |25=>some ["_law_row"]
 |26=>some ["_law_thing_here"]
 |27=>some ["_law_told"]
 |28=>some ["_law_part_here","_law_deep"]
 |29=>some ["_law_told"]
 |30=>some ["_law_state"]
 |31=>some ["_law_state","_law_cells"]
 |32=>some ["_law_state"]
 |33=>some ["_law_state","_law_told"]
 |34=>some ["_law_state"]
 |35=>some ["_law_state"]
 |36=>some ["_law_state"]
 |37=>some ["_law_state","_law_w","_law_n"]
 |38=>some ["_law_state","_law_w","_law_n"]
 |39=>some ["_law_state","_law_told","_law_deep"]
 |40=>some ["_law_script"]
 |_=>none
structure Facts (w:World)(K:PySem.W.Frag)(mg:Str->Option Value)(cl:Nat->Addr)(fa:Nat->Addr)(fdd:Nat->FuncData):Prop where
 F0:Fn K mg "is_whole" zbw ["thing","low","high"] (fa 0) (fdd 0)
 F1:Fn K mg "is_letter" zba ["thing"] (fa 1) (fdd 1)
 F2:Fn K mg "are_told" zaZ ["thing","many"] (fa 2) (fdd 2)
 F3:Fn K mg "is_told_row" zbf ["thing"] (fa 3) (fdd 3)
 F4:Fn K mg "has_form" zaX ["thing","told"] (fa 4) (fdd 4)
 F5:Fn K mg "is_named" zaW ["thing"] (fa 5) (fdd 5)
 F6:Fn K mg "is_operand" za7 ["kind","thing","told"] (fa 6) (fdd 6)
 F7:Fn K mg "is_told_cell" zaE ["thing"] (fa 7) (fdd 7)
 F8:Fn K mg "is_lettered" zay ["thing"] (fa 8) (fdd 8)
 F9:Fn K mg "is_sentence" zah ["thing"] (fa 9) (fdd 9)
 F10:Fn K mg "is_term" za3 ["thing"] (fa 10) (fdd 10)
 F11:Fn K mg "are_things" zaq ["thing"] (fa 11) (fdd 11)
 F12:Fn K mg "is_thing" zaV ["thing"] (fa 12) (fdd 12)
 F13:Fn K mg "is_telling" za6 ["thing"] (fa 13) (fdd 13)
 F14:Fn K mg "are_parts" zaO ["thing","nests"] (fa 14) (fdd 14)
 F15:Fn K mg "is_part" za2 ["thing","nests"] (fa 15) (fdd 15)
 F16:Fn K mg "_law_fresh" zem ["_law_script"] (fa 16) (fdd 16)
 F17:Fn K mg "_law_mixed" zdk ["_law_seed"] (fa 17) (fdd 17)
 F18:Fn K mg "_law_fill" zdQ ["_law_state"] (fa 18) (fdd 18)
 F19:Fn K mg "_law_take" zeQ ["_law_state","_law_many"] (fa 19) (fdd 19)
 F20:Fn K mg "_law_sizes" zdq ["_law_state","_law_most"] (fa 20) (fdd 20)
 F21:Fn K mg "_law_whole" zcs ["_law_thing_here"] (fa 21) (fdd 21)
 F22:Fn K mg "_law_wholes" zbr ["_law_thing_here","_law_many","_law_most"] (fa 22) (fdd 22)
 F23:Fn K mg "_law_letter" zbT ["_law_thing_here"] (fa 23) (fdd 23)
 F24:Fn K mg "_law_index_cell" zao ["_law_thing_here"] (fa 24) (fdd 24)
 F25:Fn K mg "_law_telling_row" zW ["_law_row"] (fa 25) (fdd 25)
 F26:Fn K mg "_law_thing" zbV ["_law_thing_here"] (fa 26) (fdd 26)
 F27:Fn K mg "_law_is_sentence" zX ["_law_told"] (fa 27) (fdd 27)
 F28:Fn K mg "_law_part" zbN ["_law_part_here","_law_deep"] (fa 28) (fdd 28)
 F29:Fn K mg "_law_is_telling" zaw ["_law_told"] (fa 29) (fdd 29)
 F30:Fn K mg "_law_some_letter" zaP ["_law_state"] (fa 30) (fdd 30)
 F31:Fn K mg "_law_some_row" za9 ["_law_state","_law_cells"] (fa 31) (fdd 31)
 F32:Fn K mg "_law_strange" zbx ["_law_state"] (fa 32) (fdd 32)
 F33:Fn K mg "_law_spoilt_tuple" z3 ["_law_state","_law_told"] (fa 33) (fdd 33)
 F34:Fn K mg "_law_some_index" zax ["_law_state"] (fa 34) (fdd 34)
 F35:Fn K mg "_law_some_telling_row" zM ["_law_state"] (fa 35) (fdd 35)
 F36:Fn K mg "_law_some_sentence" zQ ["_law_state"] (fa 36) (fdd 36)
 F37:Fn K mg "_law_some_count" zaN ["_law_state","_law_w","_law_n"] (fa 37) (fdd 37)
 F38:Fn K mg "_law_some_telling" zT ["_law_state","_law_w","_law_n"] (fa 38) (fdd 38)
 F39:Fn K mg "_law_spoilt_within" zP ["_law_state","_law_told","_law_deep"] (fa 39) (fdd 39)
 F40:Fn K mg "law" zdN ["_law_script"] (fa 40) (fdd 40)
 z_abs:mg "abs"=none
 z_all:mg "all"=none
 z_bool:mg "bool"=none
 z_enumerate:mg "enumerate"=none
 z_int:mg "int"=none
 z_isinstance:mg "isinstance"=none
 z_len:mg "len"=none
 z_list:mg "list"=none
 z_max:mg "max"=none
 z_min:mg "min"=none
 z_range:mg "range"=none
 z_str:mg "str"=none
 z_tuple:mg "tuple"=none
 z_zip:mg "zip"=none
 k_bool:KitT K .bool
 k_int:KitT K .int
 k_str:KitT K .str
 k_tuple:KitT K .tuple
 c_FACTOR_LIMIT:GCI mg "FACTOR_LIMIT" 10000000000000000000000000000000000000000
 c_MOST_NESTS:GCI mg "MOST_NESTS" 2
 c_MOST_TERMS:GCI mg "MOST_TERMS" 20
 c_MOST_THINGS:GCI mg "MOST_THINGS" 2
 c_MOST_TOLD:GCI mg "MOST_TOLD" 200
 d_ROWS:GD K w mg cl "ROWS" d_ROWS
def Fns (P:Program)(w:World)(K:PySem.W.Frag)(mg:Str->Option Value)(base:Heap)(cl:Nat->Addr)(fa:Nat->Addr)(fdd:Nat->FuncData)(k:Nat):Prop:=∀i ps,pss i=some ps->FnOk P w K mg base (CX1 P w) k (fa i) (fdd i) ps (spI K cl (callT T k) i)
section
variable {P:Program}{w:World}{K:PySem.W.Frag}{mg:Str->Option Value}{base:Heap}{cl:Nat->Addr}{fa:Nat->Addr}{fdd:Nat->FuncData}{k:Nat}
theorem ziT (Z:Facts w K mg cl fa fdd)(C:Fns P w K mg base cl fa fdd k):FnOk P w K mg base (CX1 P w) (k+1) (fa 0) (fdd 0) ["thing","low","high"] (spI K cl (callT T (k+1)) 0) :=
 zV (fn:=zbj) rfl Z.F0.F sc_is_whole rfl rfl fun _ _ _ _ _ _ hr=>have nd:=sc_is_whole.nd;have hu1:=zaR hr;(zh (zu (zN (z5 (t:=.int) Z.k_int rfl zb3 Z.z_isinstance zgh Z.z_int zkR (zk zcF 0)) (zN (zjf (z5 (t:=.bool) Z.k_bool rfl zb3 Z.z_isinstance zfZ Z.z_bool zhw (zk zcF 0))) (zaa (zfG zh8 zh8 (zk zcF 1) (zk zcF 0) (zk zcF 2)))))) zl)
theorem zis (Z:Facts w K mg cl fa fdd)(C:Fns P w K mg base cl fa fdd k):FnOk P w K mg base (CX1 P w) (k+1) (fa 1) (fdd 1) ["thing"] (spI K cl (callT T (k+1)) 1) :=
 zV (fn:=zaA) rfl Z.F1.F sc_is_letter rfl rfl fun _ _ _ _ _ _ hr=>have nd:=sc_is_letter.nd;have hu1:=zaR hr;(zh (zu (zN (z5 (t:=.str) Z.k_str rfl zdA Z.z_isinstance zfW Z.z_str zi2 (zk zdZ 0)) (zN (zab (za0 hr.units) (zF zag zfY Z.z_len zae (zc (zk zdZ 0) zj)) zd (nomark _)) (zaa (zfG zh8 zh8 zC (zk zdZ 0) zC))))) zl)
theorem ziH (Z:Facts w K mg cl fa fdd)(C:Fns P w K mg base cl fa fdd k):FnOk P w K mg base (CX1 P w) (k+1) (fa 2) (fdd 2) ["thing","many"] (spI K cl (callT T (k+1)) 2) :=
 zV (fn:=zbk) rfl Z.F2.F sc_are_told rfl rfl fun _ _ _ _ _ _ hr=>have nd:=sc_are_told.nd;have hu1:=zaR hr;(zh (zL (zaz (zai (zak (z7 (z5 (t:=.tuple) Z.k_tuple rfl zdJ Z.z_isinstance zfy Z.z_tuple z9 (zk zdz 0)))) (zar (zB (zdw hr.units) (zF zag zgg Z.z_len zae (zc (zk zdz 0) zj)) (zk zdz 1) (nomark _))))) (zh (zu zan) zl) zl) (zh (zu (zF (zft rfl) zgl Z.z_all zfq (zc (zbO rfl (compOk (NC:=["each"]) (slots:=[none]) ["thing","many"] (defScope zaZ) rfl rfl rfl (by decide +kernel) (by decide +kernel) (by decide +kernel) (by decide +kernel) rfl) (by decide) (zcg (zk zdz 0)) (fun j=>za4 rfl (zaj (i:=0) (show (["each"]:List Str).Nodup by decide +kernel) rfl (by first|exact Or.inl rfl|exact Or.inr rfl))) (fun j=>zaH) (fun j=>zaU rfl (zo (C 0 _ rfl) hr rfl Z.F0.m Z.F0.F.kp Z.F0.b (zc (sv_k 0) (zc (zef (zdu (i:=200) rfl Z.c_MOST_TOLD)) (zc (zdu (i:=200) rfl Z.c_MOST_TOLD) zj)))))) zj))) zl))
theorem zgR (Z:Facts w K mg cl fa fdd)(C:Fns P w K mg base cl fa fdd k):FnOk P w K mg base (CX1 P w) (k+1) (fa 3) (fdd 3) ["thing"] (spI K cl (callT T (k+1)) 3) :=
 zV (fn:=zcu) rfl Z.F3.F sc_is_told_row rfl rfl fun _ _ _ _ _ _ hr=>have nd:=sc_is_told_row.nd;have hu1:=zaR hr;(zh (zu (zo (C 4 _ rfl) hr zdx Z.F4.m Z.F4.F.kp Z.F4.b (zc (zk zgZ 0) (zc zan zj)))) zl)
theorem ziu (Z:Facts w K mg cl fa fdd)(C:Fns P w K mg base cl fa fdd k):FnOk P w K mg base (CX1 P w) (k+1) (fa 4) (fdd 4) ["thing","told"] (spI K cl (callT T (k+1)) 4) :=
 zV (fn:=f_has_form) rfl Z.F4.F sc_has_form rfl rfl fun _ _ _ _ _ _ hr=>have nd:=sc_has_form.nd;have hu1:=zaR hr;(zh (zL (zaz (zai (zak (z7 (zo (C 5 _ rfl) hr zer Z.F5.m Z.F5.F.kp Z.F5.b (zc (zk zat 0) zj)))) (zar (zB (zdw hr.units) (zF zag zdU Z.z_len zae (zc (zk zat 0) zj)) (zt zaB (zF zag zdU Z.z_len zae (zc (zi5 zdB Z.d_ROWS (zp (zk zat 0) zd)) zj)) zd) (nomark _))))) (zh (zu zan) zl) zl) (zh (zct own1 rfl (zlJ zgs Z.z_zip (zi5 zdB Z.d_ROWS (zp (zk zat 0) zd)) (zbp (zk zat 0) (zaM zd) zaL)) (zgb rfl (zbA (i:=2) nd rfl (lcF (i:=2) zat rfl) (zbA (i:=3) nd rfl (lcF (i:=3) zat rfl) zff))) (zh (zL (zak (z7 (zo (C 6 _ rfl) hr zdI Z.F6.m Z.F6.F.kp Z.F6.b (zc (zk zat 2) (zc (zk zat 3) (zc (zk zat 1) zj)))))) (zh (zu zan) zl) zl) zl)) (zh (zu (ziR (zab (zdw hr.units) (zp (zk zat 0) zd) zC (nomark _)) (zaa (zab (zdw hr.units) (zp (zk zat 0) zd) (zp (zk zat 0) zd) (nomark _))))) zl)))
theorem ziw (Z:Facts w K mg cl fa fdd)(C:Fns P w K mg base cl fa fdd k):FnOk P w K mg base (CX1 P w) (k+1) (fa 5) (fdd 5) ["thing"] (spI K cl (callT T (k+1)) 5) :=
 zV (fn:=zb8) rfl Z.F5.F sc_is_named rfl rfl fun _ _ _ _ _ _ hr=>have nd:=sc_is_named.nd;have hu1:=zaR hr;(zh (zu (zN (z5 (t:=.tuple) Z.k_tuple rfl zb4 Z.z_isinstance zfI Z.z_tuple z9 (zk zdn 0)) (zN (zab ziN (zF zag zgj Z.z_len zae (zc (zk zdn 0) zj)) zd (nomark _)) (zN (z5 (t:=.str) Z.k_str rfl zb4 Z.z_isinstance zgJ Z.z_str zi2 (zp (zk zdn 0) zd)) (zaa (zlI zf1 Z.d_ROWS (zp (zk zdn 0) zd))))))) zl)
theorem zhv (Z:Facts w K mg cl fa fdd)(C:Fns P w K mg base cl fa fdd k):FnOk P w K mg base (CX1 P w) (k+1) (fa 6) (fdd 6) ["kind","thing","told"] (spI K cl (callT T (k+1)) 6) :=
 zV (fn:=zck) rfl Z.F6.F sc_is_operand rfl rfl fun _ _ _ _ _ _ hr=>have nd:=sc_is_operand.nd;have hu1:=zaR hr;(zh (zL (zB (za0 hr.units) (zk zcv 0) zC (nomark _)) (zh (zu (zo (C 0 _ rfl) hr zdL Z.F0.m Z.F0.F.kp Z.F0.b (zc (zk zcv 1) (zc zd (zc zd zj))))) zl) zl) (zh (zu (zlq (z7 (zk zcv 2)) (zo (C 7 _ rfl) hr zcK Z.F7.m Z.F7.F.kp Z.F7.b (zc (zk zcv 1) zj)) zkz)) zl))
theorem zgf (Z:Facts w K mg cl fa fdd)(C:Fns P w K mg base cl fa fdd k):FnOk P w K mg base (CX1 P w) (k+1) (fa 7) (fdd 7) ["thing"] (spI K cl (callT T (k+1)) 7) :=
 zV (fn:=zbi) rfl Z.F7.F sc_is_told_cell rfl rfl fun _ _ _ _ _ _ hr=>have nd:=sc_is_told_cell.nd;have hu1:=zaR hr;(zh (zu (zN (zo (C 8 _ rfl) hr zcy Z.F8.m Z.F8.F.kp Z.F8.b (zc (zk zd7 0) zj)) (zaa (zo (C 2 _ rfl) hr zc6 Z.F2.m Z.F2.F.kp Z.F2.b (zc (zp (zk zd7 0) zd) (zc zd zj)))))) zl)
theorem zgX (Z:Facts w K mg cl fa fdd)(C:Fns P w K mg base cl fa fdd k):FnOk P w K mg base (CX1 P w) (k+1) (fa 8) (fdd 8) ["thing"] (spI K cl (callT T (k+1)) 8) :=
 zV (fn:=zby) rfl Z.F8.F sc_is_lettered rfl rfl fun _ _ _ _ _ _ hr=>have nd:=sc_is_lettered.nd;have hu1:=zaR hr;(zh (zu (zN (z5 (t:=.tuple) Z.k_tuple rfl zc2 Z.z_isinstance zez Z.z_tuple z9 (zk zcX 0)) (zN (zab (za0 hr.units) (zF zag zfd Z.z_len zae (zc (zk zcX 0) zj)) zd (nomark _)) (zaa (zo (C 1 _ rfl) hr zde Z.F1.m Z.F1.F.kp Z.F1.b (zc (zp (zk zcX 0) zd) zj)))))) zl)
theorem zgQ (Z:Facts w K mg cl fa fdd)(C:Fns P w K mg base cl fa fdd k):FnOk P w K mg base (CX1 P w) (k+1) (fa 9) (fdd 9) ["thing"] (spI K cl (callT T (k+1)) 9) :=
 zV (fn:=zav) rfl Z.F9.F sc_is_sentence rfl rfl fun _ _ _ _ _ _ hr=>have nd:=sc_is_sentence.nd;have hu1:=zaR hr;(zh (zu (zN (z5 (t:=.tuple) Z.k_tuple rfl zc1 Z.z_isinstance zew Z.z_tuple z9 (zk zcW 0)) (zN (zab zh8 (zF zag zfl Z.z_len zae (zc (zk zcW 0) zj)) (zdu (i:=20) zcY Z.c_MOST_TERMS) (nomark _)) (zaa (zF (zft rfl) ze9 Z.z_all zfq (zc (zbO rfl (compOk (NC:=["each"]) (slots:=[none]) ["thing"] (defScope zah) rfl rfl rfl (by decide +kernel) (by decide +kernel) (by decide +kernel) (by decide +kernel) rfl) (by decide) (zcg (zk zcW 0)) (fun j=>za4 rfl (zaj (i:=0) (show (["each"]:List Str).Nodup by decide +kernel) rfl (by first|exact Or.inl rfl|exact Or.inr rfl))) (fun j=>zaH) (fun j=>zaU rfl (zo (C 10 _ rfl) hr rfl Z.F10.m Z.F10.F.kp Z.F10.b (zc (sv_k 0) zj)))) zj)))))) zl)
theorem zjG (Z:Facts w K mg cl fa fdd)(C:Fns P w K mg base cl fa fdd k):FnOk P w K mg base (CX1 P w) (k+1) (fa 10) (fdd 10) ["thing"] (spI K cl (callT T (k+1)) 10) :=
 zV (fn:=zbh) rfl Z.F10.F sc_is_term rfl rfl fun _ _ _ _ _ _ hr=>have nd:=sc_is_term.nd;have hu1:=zaR hr;(zh (zL (zaz (zai (zak (z7 (z5 (t:=.tuple) Z.k_tuple rfl zdY Z.z_isinstance zfU Z.z_tuple z9 (zk zbz 0)))) (zar (zB (zdw hr.units) (zF zag zgN Z.z_len zae (zc (zk zbz 0) zj)) zd (nomark _))))) (zh (zu zan) zl) zl) (zh (zhV (zk zbz 0) (zgb rfl (zbA (i:=1) nd rfl (lcF (i:=1) zbz rfl) (zbA (i:=2) nd rfl (lcF (i:=2) zbz rfl) (zbA (i:=3) nd rfl (lcF (i:=3) zbz rfl) zff))))) (zh (zu (zN (zo (C 0 _ rfl) hr zeZ Z.F0.m Z.F0.F.kp Z.F0.b (zc (zk zbz 1) (zc (zt zco zd (zdu (i:=10000000000000000000000000000000000000000) zbW Z.c_FACTOR_LIMIT)) (zc (zt zco (zdu (i:=10000000000000000000000000000000000000000) zbW Z.c_FACTOR_LIMIT) zd) zj)))) (zN (zo (C 2 _ rfl) hr zeI Z.F2.m Z.F2.F.kp Z.F2.b (zc (zk zbz 2) (zc zd zj))) (zaa (zo (C 11 _ rfl) hr zdX Z.F11.m Z.F11.F.kp Z.F11.b (zc (zk zbz 3) zj)))))) zl)))
theorem zhs (Z:Facts w K mg cl fa fdd)(C:Fns P w K mg base cl fa fdd k):FnOk P w K mg base (CX1 P w) (k+1) (fa 11) (fdd 11) ["thing"] (spI K cl (callT T (k+1)) 11) :=
 zV (fn:=zaF) rfl Z.F11.F sc_are_things rfl rfl fun _ _ _ _ _ _ hr=>have nd:=sc_are_things.nd;have hu1:=zaR hr;(zh (zu (zN (z5 (t:=.tuple) Z.k_tuple rfl zdd Z.z_isinstance zeN Z.z_tuple z9 (zk zdl 0)) (zN (zab zh8 (zF zag zfv Z.z_len zae (zc (zk zdl 0) zj)) (zdu (i:=2) zcT Z.c_MOST_THINGS) (nomark _)) (zaa (zF (zft rfl) zfE Z.z_all zfq (zc (zbO rfl (compOk (NC:=["each"]) (slots:=[none]) ["thing"] (defScope zaq) rfl rfl rfl (by decide +kernel) (by decide +kernel) (by decide +kernel) (by decide +kernel) rfl) (by decide) (zcg (zk zdl 0)) (fun j=>za4 rfl (zaj (i:=0) (show (["each"]:List Str).Nodup by decide +kernel) rfl (by first|exact Or.inl rfl|exact Or.inr rfl))) (fun j=>zaH) (fun j=>zaU rfl (zo (C 12 _ rfl) hr rfl Z.F12.m Z.F12.F.kp Z.F12.b (zc (sv_k 0) zj)))) zj)))))) zl)
theorem ziV (Z:Facts w K mg cl fa fdd)(C:Fns P w K mg base cl fa fdd k):FnOk P w K mg base (CX1 P w) (k+1) (fa 12) (fdd 12) ["thing"] (spI K cl (callT T (k+1)) 12) :=
 zV (fn:=zau) rfl Z.F12.F sc_is_thing rfl rfl fun _ _ _ _ _ _ hr=>have nd:=sc_is_thing.nd;have hu1:=zaR hr;(zh (zL (zaz (zai (zak (z7 (z5 (t:=.tuple) Z.k_tuple rfl zdD Z.z_isinstance zfK Z.z_tuple z9 (zk zbc 0)))) (zar (zB (za0 hr.units) (zF zag zcJ Z.z_len zae (zc (zk zbc 0) zj)) zd (nomark _))))) (zh (zu zan) zl) zl) (zh (zL (zB (za0 hr.units) (zp (zk zbc 0) zd) zC (nomark _)) (zh (zu (zab (za0 hr.units) (zF zag zcJ Z.z_len zae (zc (zk zbc 0) zj)) zd (nomark _))) zl) zl) (zh (zL (zaz (zai (zB (zdw hr.units) (zp (zk zbc 0) zd) zC (nomark _)) (zai (zB (zdw hr.units) (zF zag zcJ Z.z_len zae (zc (zk zbc 0) zj)) zd (nomark _)) (zar (zak (z7 (zo (C 1 _ rfl) hr zee Z.F1.m Z.F1.F.kp Z.F1.b (zc (zp (zk zbc 0) zd) zj)))))))) (zh (zu zan) zl) zl) (zh (zu (zN (zo (C 2 _ rfl) hr zcp Z.F2.m Z.F2.F.kp Z.F2.b (zc (zp (zk zbc 0) zd) (zc zd zj))) (zaa (zo (C 2 _ rfl) hr zcp Z.F2.m Z.F2.F.kp Z.F2.b (zc (zp (zk zbc 0) zd) (zc zd zj)))))) zl))))
theorem zhJ (Z:Facts w K mg cl fa fdd)(C:Fns P w K mg base cl fa fdd k):FnOk P w K mg base (CX1 P w) (k+1) (fa 13) (fdd 13) ["thing"] (spI K cl (callT T (k+1)) 13) :=
 zV (fn:=zcR) rfl Z.F13.F sc_is_telling rfl rfl fun _ _ _ _ _ _ hr=>have nd:=sc_is_telling.nd;have hu1:=zaR hr;(zh (zu (zo (C 14 _ rfl) hr zdt Z.F14.m Z.F14.F.kp Z.F14.b (zc (zk zhD 0) (zc (zdu (i:=2) zc9 Z.c_MOST_NESTS) zj)))) zl)
theorem zhT (Z:Facts w K mg cl fa fdd)(C:Fns P w K mg base cl fa fdd k):FnOk P w K mg base (CX1 P w) (k+1) (fa 14) (fdd 14) ["thing","nests"] (spI K cl (callT T (k+1)) 14) :=
 zV (fn:=zcH) rfl Z.F14.F sc_are_parts rfl rfl fun _ _ _ _ _ _ hr=>have nd:=sc_are_parts.nd;have hu1:=zaR hr;(zh (zu (zN (z5 (t:=.tuple) Z.k_tuple rfl zdm Z.z_isinstance ze8 Z.z_tuple z9 (zk zfM 0)) (zaa (zF (zft rfl) zf3 Z.z_all zfq (zc (zbO rfl (compOk (NC:=["each","nests"]) (slots:=[none,some 1]) ["thing","nests"] (defScope zaO) rfl rfl rfl (by decide +kernel) (by decide +kernel) (by decide +kernel) (by decide +kernel) rfl) (by decide) (zcg (zk zfM 0)) (fun j=>za4 rfl (zaj (i:=0) (show (["each","nests"]:List Str).Nodup by decide +kernel) rfl (by first|exact Or.inl rfl|exact Or.inr rfl))) (fun j=>zaH) (fun j=>zaU rfl (zo (C 15 _ rfl) hr rfl Z.F15.m Z.F15.F.kp Z.F15.b (zc (sv_k 0) (zc (sv_k 1) zj))))) zj))))) zl)
theorem zjD (Z:Facts w K mg cl fa fdd)(C:Fns P w K mg base cl fa fdd k):FnOk P w K mg base (CX1 P w) (k+1) (fa 15) (fdd 15) ["thing","nests"] (spI K cl (callT T (k+1)) 15) :=
 zV (fn:=f_is_part) rfl Z.F15.F sc_is_part rfl rfl fun _ _ _ _ _ _ hr=>have nd:=sc_is_part.nd;have hu1:=zaR hr;(zh (zL (zaz (zai (zak (z7 (z5 (t:=.tuple) Z.k_tuple rfl zd1 Z.z_isinstance zf2 Z.z_tuple z9 (zk zaK 0)))) (zar (zB (za0 hr.units) (zF zag zcU Z.z_len zae (zc (zk zaK 0) zj)) zd (nomark _))))) (zh (zu zan) zl) zl) (zh (zL (zB (za0 hr.units) (zp (zk zaK 0) zd) zC (nomark _)) (zh (zu (zN (zab (za0 hr.units) (zF zag zcU Z.z_len zae (zc (zk zaK 0) zj)) zd (nomark _)) (zaa (zo (C 3 _ rfl) hr zdH Z.F3.m Z.F3.F.kp Z.F3.b (zc (zp (zk zaK 0) zd) zj))))) zl) zl) (zh (zL (zaz (zai (zB (zdw hr.units) (zp (zk zaK 0) zd) zC (nomark _)) (zai (zB (zdw hr.units) (zF zag zcU Z.z_len zae (zc (zk zaK 0) zj)) zd (nomark _)) (zar (zB (za0 hr.units) (zk zaK 1) zd (nomark _)))))) (zh (zu zan) zl) zl) (zh (zu (zN (zo (C 2 _ rfl) hr zeK Z.F2.m Z.F2.F.kp Z.F2.b (zc (zp (zk zaK 0) zd) (zc zd zj))) (zN (zo (C 9 _ rfl) hr zdM Z.F9.m Z.F9.F.kp Z.F9.b (zc (zp (zk zaK 0) zd) zj)) (zaa (zo (C 14 _ rfl) hr zes Z.F14.m Z.F14.F.kp Z.F14.b (zc (zp (zk zaK 0) zd) (zc (zt zco (zk zaK 1) zd) zj))))))) zl))))
theorem zkU (Z:Facts w K mg cl fa fdd)(C:Fns P w K mg base cl fa fdd k):FnOk P w K mg base (CX1 P w) (k+1) (fa 16) (fdd 16) ["_law_script"] (spI K cl (callT T (k+1)) 16) :=
 zV (fn:=zf5) rfl Z.F16.F sc_qfresh rfl rfl fun _ _ _ _ _ _ hr=>have nd:=sc_qfresh.nd;have hu1:=zaR hr;(zh (zu (zcw (zc (zbp (zk zkX 0) zaL (zaM zd)) (zc zd (zc zd (zc zan zj)))))) zl)
theorem zkA (Z:Facts w K mg cl fa fdd)(C:Fns P w K mg base cl fa fdd k):FnOk P w K mg base (CX1 P w) (k+1) (fa 17) (fdd 17) ["_law_seed"] (spI K cl (callT T (k+1)) 17) :=
 zV (fn:=f_qmixed) rfl Z.F17.F sc_qmixed rfl rfl fun _ _ _ _ _ _ hr=>have nd:=sc_qmixed.nd;have hu1:=zaR hr;(zh (zH (i:=1) nd rfl (lcF (i:=1) zS rfl) (zA (zc zd (zc zd (zc zd (zc zd (zc zd zj))))))) (zh (zH (i:=2) nd rfl (lcF (i:=2) zS rfl) zd) (zh (zct own1 rfl (zki zeX Z.z_enumerate (zk zS 1)) (zgb rfl (zbA (i:=3) nd rfl (lcF (i:=3) zS rfl) (zbA (i:=4) nd rfl (lcF (i:=4) zS rfl) zff))) (zh (zH (i:=5) nd rfl (lcF (i:=5) zS rfl) (zt zaB (zk zS 0) (zp (zA (zc zd (zc zd (zc zd (zc zd (zc zd zj)))))) (zk zS 3)))) (zh (zH (i:=5) nd rfl (lcF (i:=5) zS rfl) (zt ze5 (zt zb2 (zk zS 5) (zt zaB zd (zt zb2 zd (zk zS 3)))) (zk zS 4))) (zh (zH (i:=6) nd rfl (lcF (i:=6) zS rfl) (zt ze5 (zt zb2 (zk zS 5) (zk zS 5)) (zk zS 4))) (zh (zH (i:=7) nd rfl (lcF (i:=7) zS rfl) (zt ze5 (zt zb2 (zt ze5 (zt zb2 (zk zS 6) (zk zS 6)) (zk zS 4)) (zk zS 5)) (zk zS 4))) (zh (zH (i:=2) nd rfl (lcF (i:=2) zS rfl) (zt zaB (zt zb2 (zk zS 2) (zk zS 4)) (zk zS 7))) zl)))))) (zh (zu (zk zS 2)) zl))))
theorem zll (Z:Facts w K mg cl fa fdd)(C:Fns P w K mg base cl fa fdd k):FnOk P w K mg base (CX1 P w) (k+1) (fa 18) (fdd 18) ["_law_state"] (spI K cl (callT T (k+1)) 18) :=
 zV (fn:=zeM) rfl Z.F18.F sc_qfill rfl rfl fun _ _ _ _ _ _ hr=>have nd:=sc_qfill.nd;have hu1:=zaR hr;(zh (zlx rfl nd rfl rfl (by decide) (zlR rfl nd rfl rfl (by decide) rfl rfl (zc (zp (zk z8 0) zd) (zc (zp (zk z8 0) zd) zj)) rfl)) (zh (zH (i:=3) nd rfl (lcF (i:=3) z8 rfl) (zt zaB (zt zb2 zd (zk z8 2)) zd)) (zh (zL (zB ziN (zF zag zcN Z.z_len zae (zc (zk z8 1) zj)) zd (nomark _)) (zh (zH (i:=3) nd rfl (lcF (i:=3) z8 rfl) (zt zb2 zd (zt zk4 (zk z8 2) (zF zag zcN Z.z_len zae (zc (zk z8 1) zj))))) (zh (zH (i:=3) nd rfl (lcF (i:=3) z8 rfl) (zt zaB (zk z8 3) (zp (zk z8 1) (zt ze5 (zk z8 2) (zF zag zcN Z.z_len zae (zc (zk z8 1) zj)))))) zl)) zl) (zh (zdy (zt zaB (zk z8 2) zd) (zk z8 0) zd (hg:=zbQ (zk z8 0) zd zbG)) (zh (zdy (ziR (zab znW (zk z8 2) (zF zag zcN Z.z_len zae (zc (zk z8 1) zj)) (nomark _)) (zaa (zab zgG (zk z8 3) (zt zhO zd zd) (nomark _)))) (zk z8 0) zd (hg:=zbQ (zk z8 0) zd zbG)) (zh (zL (z7 (zp (zk z8 0) zd)) (zh (zdy (zo (C 17 _ rfl) hr zgv Z.F17.m Z.F17.F.kp Z.F17.b (zc (zk z8 3) zj)) (zk z8 0) zd (hg:=zbQ (zk z8 0) zd zbG)) zl) (zh (zdy (zt zco (zk z8 3) (zt zhO zd zd)) (zk z8 0) zd (hg:=zbQ (zk z8 0) zd zbG)) zl)) zl))))))
theorem zlU (Z:Facts w K mg cl fa fdd)(C:Fns P w K mg base cl fa fdd k):FnOk P w K mg base (CX1 P w) (k+1) (fa 19) (fdd 19) ["_law_state","_law_many"] (spI K cl (callT T (k+1)) 19) :=
 zV (fn:=f_qtake) rfl Z.F19.F sc_qtake rfl rfl fun _ _ _ _ _ _ hr=>have nd:=sc_qtake.nd;have hu1:=zaR hr;(zh (zH (i:=2) nd rfl (lcF (i:=2) zam rfl) zd) (zh (zjw own1 (zaz (zeg (zB zgG (zk zam 2) zd (nomark _)) (zfk (zaz (zai (zB (za0 hr.units) (zp (zk zam 0) zd) zd (nomark _)) (zar (zaz (zeg (z7 (zp (zk zam 0) zd)) (zfk (zB zgG (zp (zk zam 0) zd) (zt zb2 (zk zam 1) zd) (nomark _))))))))))) (zh (zbq (zo (C 18 _ rfl) hr zgU Z.F18.m Z.F18.F.kp Z.F18.b (zc (zk zam 0) zj))) (zh (zlp (i:=2) nd rfl (lcF (i:=2) zam rfl) zd znz) (zh (zL (zaz (zeg (z7 (zp (zk zam 0) zd)) (zfk (zB zgG (zp (zk zam 0) zd) (zt zb2 (zk zam 1) zd) (nomark _))))) (zh (zdy (zt zaB (zp (zk zam 0) zd) (zt zb2 (zt zb2 (zk zam 1) zd) (zt zaB zd (zt ze5 (zp (zk zam 0) zd) zd)))) (zk zam 0) zd (hg:=zbQ (zk zam 0) zd zbG)) zl) zl) zl)))) (zh (zH (i:=3) nd rfl (lcF (i:=3) zam rfl) (zt ze5 (zp (zk zam 0) zd) (zk zam 1))) (zh (zdy (zt zk4 (zp (zk zam 0) zd) (zk zam 1)) (zk zam 0) zd (hg:=zbQ (zk zam 0) zd zbG)) (zh (zu (zk zam 3)) zl)))))
theorem zkI (Z:Facts w K mg cl fa fdd)(C:Fns P w K mg base cl fa fdd k):FnOk P w K mg base (CX1 P w) (k+1) (fa 20) (fdd 20) ["_law_state","_law_most"] (spI K cl (callT T (k+1)) 20) :=
 zV (fn:=zga) rfl Z.F20.F sc_qsizes rfl rfl fun _ _ _ _ _ _ hr=>have nd:=sc_qsizes.nd;have hu1:=zaR hr;(zh (zu (zA (zc (zt zaB zd (zo (C 19 _ rfl) hr zdS Z.F19.m Z.F19.F.kp Z.F19.b (zc (zk zgr 0) (zc zd zj)))) (zc (zt zaB zd (zo (C 19 _ rfl) hr zdS Z.F19.m Z.F19.F.kp Z.F19.b (zc (zk zgr 0) (zc (zk zgr 1) zj)))) zj)))) zl)
theorem zkh (Z:Facts w K mg cl fa fdd)(C:Fns P w K mg base cl fa fdd k):FnOk P w K mg base (CX1 P w) (k+1) (fa 21) (fdd 21) ["_law_thing_here"] (spI K cl (callT T (k+1)) 21) :=
 zV (fn:=zf6) rfl Z.F21.F sc_qwhole rfl rfl fun _ _ _ _ _ _ hr=>have nd:=sc_qwhole.nd;have hu1:=zaR hr;(zh (zu (zN (z5 (t:=.int) Z.k_int rfl zcn Z.z_isinstance zho Z.z_int zkR (zk zhS 0)) (zaa (zjf (z5 (t:=.bool) Z.k_bool rfl zcn Z.z_isinstance zgS Z.z_bool zhw (zk zhS 0)))))) zl)
theorem zjx (Z:Facts w K mg cl fa fdd)(C:Fns P w K mg base cl fa fdd k):FnOk P w K mg base (CX1 P w) (k+1) (fa 22) (fdd 22) ["_law_thing_here","_law_many","_law_most"] (spI K cl (callT T (k+1)) 22) :=
 zV (fn:=zc7) rfl Z.F22.F sc_qwholes rfl rfl fun _ _ _ _ _ _ hr=>have nd:=sc_qwholes.nd;have hu1:=zaR hr;(zh (zL (zaz (zai (zak (z7 (z5 (t:=.tuple) Z.k_tuple rfl zdW Z.z_isinstance zf0 Z.z_tuple z9 (zk zen 0)))) (zar (zB (zdw hr.units) (zF zag zgV Z.z_len zae (zc (zk zen 0) zj)) (zk zen 1) (nomark _))))) (zh (zu zan) zl) zl) (zh (zu (zF (zft rfl) zgY Z.z_all zfq (zc (zbO rfl (compOk (NC:=["_law_part_here","_law_most"]) (slots:=[none,some 2]) ["_law_thing_here","_law_many","_law_most"] (defScope zbr) rfl rfl rfl (by decide +kernel) (by decide +kernel) (by decide +kernel) (by decide +kernel) rfl) (by decide) (zcg (zk zen 0)) (fun j=>za4 rfl (zaj (i:=0) (show (["_law_part_here","_law_most"]:List Str).Nodup by decide +kernel) rfl (by first|exact Or.inl rfl|exact Or.inr rfl))) (fun j=>zaH) (fun j=>zaU rfl (zN (zo (C 21 _ rfl) hr rfl Z.F21.m Z.F21.F.kp Z.F21.b (zc (sv_k 0) zj)) (zaa (zfG zh8 zh8 (zt zco zd (sv_k 1)) (sv_k 0) (sv_k 1)))))) zj))) zl))
theorem zjC (Z:Facts w K mg cl fa fdd)(C:Fns P w K mg base cl fa fdd k):FnOk P w K mg base (CX1 P w) (k+1) (fa 23) (fdd 23) ["_law_thing_here"] (spI K cl (callT T (k+1)) 23) :=
 zV (fn:=zdc) rfl Z.F23.F sc_qletter rfl rfl fun _ _ _ _ _ _ hr=>have nd:=sc_qletter.nd;have hu1:=zaR hr;(zh (zu (zN (z5 (t:=.str) Z.k_str rfl zd5 Z.z_isinstance zgW Z.z_str zi2 (zk zfJ 0)) (zN (zab (za0 hr.units) (zF zag zg2 Z.z_len zae (zc (zk zfJ 0) zj)) zd (nomark _)) (zaa (zab zlv (zk zfJ 0) zC (by with_unfolding_all rfl)))))) zl)
theorem zgT (Z:Facts w K mg cl fa fdd)(C:Fns P w K mg base cl fa fdd k):FnOk P w K mg base (CX1 P w) (k+1) (fa 24) (fdd 24) ["_law_thing_here"] (spI K cl (callT T (k+1)) 24) :=
 zV (fn:=zbd) rfl Z.F24.F sc_qindex_cell rfl rfl fun _ _ _ _ _ _ hr=>have nd:=sc_qindex_cell.nd;have hu1:=zaR hr;(zh (zu (zN (z5 (t:=.tuple) Z.k_tuple rfl zcV Z.z_isinstance zev Z.z_tuple z9 (zk zcf 0)) (zN (zab (za0 hr.units) (zF zag zfj Z.z_len zae (zc (zk zcf 0) zj)) zd (nomark _)) (zN (zo (C 23 _ rfl) hr zdF Z.F23.m Z.F23.F.kp Z.F23.b (zc (zp (zk zcf 0) zd) zj)) (zaa (zo (C 22 _ rfl) hr zdK Z.F22.m Z.F22.F.kp Z.F22.b (zc (zp (zk zcf 0) zd) (zc zd (zc zd zj))))))))) zl)
theorem zgK (Z:Facts w K mg cl fa fdd)(C:Fns P w K mg base cl fa fdd k):FnOk P w K mg base (CX1 P w) (k+1) (fa 25) (fdd 25) ["_law_row"] (spI K cl (callT T (k+1)) 25) :=
 zV (fn:=f_qtelling_row) rfl Z.F25.F sc_qtelling_row rfl rfl fun _ _ _ _ _ _ hr=>have nd:=sc_qtelling_row.nd;have hu1:=zaR hr;(zh (zL (zaz (zai (zak (z7 (z5 (t:=.tuple) Z.k_tuple rfl zbB Z.z_isinstance zeb Z.z_tuple z9 (zk zD 0)))) (zai (zB zgG (zF zag zaI Z.z_len zae (zc (zk zD 0) zj)) zd (nomark _)) (zar (zak (z7 (z5 (t:=.str) Z.k_str rfl zbB Z.z_isinstance ze1 Z.z_str zi2 (zp (zk zD 0) zd)))))))) (zh (zu zan) zl) zl) (zh (zL (zB (za0 hr.units) (zp (zk zD 0) zd) zC (nomark _)) (zh (zu (zN (zab (za0 hr.units) (zF zag zaI Z.z_len zae (zc (zk zD 0) zj)) zd (nomark _)) (zN (zo (C 21 _ rfl) hr zb5 Z.F21.m Z.F21.F.kp Z.F21.b (zc (zp (zk zD 0) zd) zj)) (zaa (zab zlv (zp (zk zD 0) zd) (zA (zc zd (zc zd zj))) (by with_unfolding_all rfl)))))) zl) zl) (zh (zL (zB (za0 hr.units) (zp (zk zD 0) zd) zC (nomark _)) (zh (zu (zN (zab (za0 hr.units) (zF zag zaI Z.z_len zae (zc (zk zD 0) zj)) zd (nomark _)) (zaa (zo (C 24 _ rfl) hr zbt Z.F24.m Z.F24.F.kp Z.F24.b (zc (zp (zk zD 0) zd) zj))))) zl) zl) (zh (zL (zB (za0 hr.units) (zp (zk zD 0) zd) zC (nomark _)) (zh (zu (zN (zab (za0 hr.units) (zF zag zaI Z.z_len zae (zc (zk zD 0) zj)) zd (nomark _)) (zN (zo (C 24 _ rfl) hr zbt Z.F24.m Z.F24.F.kp Z.F24.b (zc (zp (zk zD 0) zd) zj)) (zN (zo (C 21 _ rfl) hr zb5 Z.F21.m Z.F21.F.kp Z.F21.b (zc (zp (zk zD 0) zd) zj)) (zaa (zab zlv (zp (zk zD 0) zd) (zA (zc zd (zc zd zj))) (by with_unfolding_all rfl))))))) zl) zl) (zh (zH (i:=1) nd rfl (lcF (i:=1) zD rfl) (zj8 (zbX (zbX (zbX (zbX (zbX (zbX (zbX (zbX (zbX zlA))))))))))) (zh (zkC hu1 (zk zD 1) zC zd) (zh (zL (zaz (zai (zB (zdw hr.units) (zlZ hu1 (zk zD 1) (zp (zk zD 0) zd) zd) (zF zag zaI Z.z_len zae (zc (zk zD 0) zj)) (nomark _)) (zar (zak (z7 (zF (zft rfl) zeJ Z.z_all zfq (zc (zbO rfl (compOk (NC:=["_law_part_here"]) (slots:=[none]) ["_law_row","_law_lengths"] (defScope zW) rfl rfl rfl (by decide +kernel) (by decide +kernel) (by decide +kernel) (by decide +kernel) rfl) (by decide) (zcg (zbp (zk zD 0) (zaM zd) zaL)) (fun j=>za4 rfl (zaj (i:=0) (show (["_law_part_here"]:List Str).Nodup by decide +kernel) rfl (by first|exact Or.inl rfl|exact Or.inr rfl))) (fun j=>zaH) (fun j=>zaU rfl (zo (C 24 _ rfl) hr rfl Z.F24.m Z.F24.F.kp Z.F24.b (zc (sv_k 0) zj)))) zj))))))) (zh (zu zan) zl) zl) (zh (zu (ziR (zab (zdw hr.units) (zp (zk zD 0) zd) zC (nomark _)) (zaa (zab (zdw hr.units) (zp (zk zD 0) zd) (zp (zk zD 0) zd) (nomark _))))) zl))))))))
theorem zkJ (Z:Facts w K mg cl fa fdd)(C:Fns P w K mg base cl fa fdd k):FnOk P w K mg base (CX1 P w) (k+1) (fa 26) (fdd 26) ["_law_thing_here"] (spI K cl (callT T (k+1)) 26) :=
 zV (fn:=zbS) rfl Z.F26.F sc_qthing rfl rfl fun _ _ _ _ _ _ hr=>have nd:=sc_qthing.nd;have hu1:=zaR hr;(zh (zL (zB (za0 hr.units) (zk zcG 0) (zA (zc zC zj)) (nomark _)) (zh (zu zan) zl) zl) (zh (zL (zaz (zai (zak (z7 (z5 (t:=.tuple) Z.k_tuple rfl zex Z.z_isinstance zgB Z.z_tuple z9 (zk zcG 0)))) (zai (zB (zdw hr.units) (zF zag zhz Z.z_len zae (zc (zk zcG 0) zj)) zd (nomark _)) (zai (zB (zdw hr.units) (zp (zk zcG 0) zd) zC (nomark _)) (zar (zak (z7 (zo (C 23 _ rfl) hr zfB Z.F23.m Z.F23.F.kp Z.F23.b (zc (zp (zk zcG 0) zd) zj))))))))) (zh (zu zan) zl) zl) (zh (zu (zN (zo (C 22 _ rfl) hr zc8 Z.F22.m Z.F22.F.kp Z.F22.b (zc (zp (zk zcG 0) zd) (zc zd (zc zd zj)))) (zaa (zo (C 22 _ rfl) hr zc8 Z.F22.m Z.F22.F.kp Z.F22.b (zc (zp (zk zcG 0) zd) (zc zd (zc zd zj))))))) zl)))
theorem zgu (Z:Facts w K mg cl fa fdd)(C:Fns P w K mg base cl fa fdd k):FnOk P w K mg base (CX1 P w) (k+1) (fa 27) (fdd 27) ["_law_told"] (spI K cl (callT T (k+1)) 27) :=
 zV (fn:=f_qis_sentence) rfl Z.F27.F sc_qis_sentence rfl rfl fun _ _ _ _ _ _ hr=>have nd:=sc_qis_sentence.nd;have hu1:=zaR hr;(zh (zL (zaz (zai (zak (z7 (z5 (t:=.tuple) Z.k_tuple rfl zaJ Z.z_isinstance zbs Z.z_tuple z9 (zk zZ 0)))) (zar (zB ziN (zF zag zbJ Z.z_len zae (zc (zk zZ 0) zj)) zd (nomark _))))) (zh (zu zan) zl) zl) (zh (zct own1 rfl (zcg (zk zZ 0)) (zaj (i:=1) nd rfl (lcF (i:=1) zZ rfl)) (zh (zL (zaz (zai (zak (z7 (z5 (t:=.tuple) Z.k_tuple rfl zaJ Z.z_isinstance zbs Z.z_tuple z9 (zk zZ 1)))) (zai (zB (zdw hr.units) (zF zag zbJ Z.z_len zae (zc (zk zZ 1) zj)) zd (nomark _)) (zar (zak (z7 (zo (C 22 _ rfl) hr zdj Z.F22.m Z.F22.F.kp Z.F22.b (zc (zp (zk zZ 1) zd) (zc zd (zc zd zj)))))))))) (zh (zu zan) zl) zl) (zh (zL (zaz (zai (zak (z7 (zo (C 21 _ rfl) hr zdG Z.F21.m Z.F21.F.kp Z.F21.b (zc (zp (zk zZ 1) zd) zj)))) (zai (zB znW (zF zop zeP Z.z_abs zoE (zc (zp (zk zZ 1) zd) zj)) (zt zhO zd zd) (nomark _)) (zar (zak (z7 (z5 (t:=.tuple) Z.k_tuple rfl zaJ Z.z_isinstance zbs Z.z_tuple z9 (zp (zk zZ 1) zd)))))))) (zh (zu zan) zl) zl) (zh (zL (zaz (zai (zB ziN (zF zag zbJ Z.z_len zae (zc (zp (zk zZ 1) zd) zj)) zd (nomark _)) (zar (zak (z7 (zF (zft rfl) zeR Z.z_all zfq (zc (zbO rfl (compOk (NC:=["_law_thing_here"]) (slots:=[none]) ["_law_told","_law_term"] (defScope zX) rfl rfl rfl (by decide +kernel) (by decide +kernel) (by decide +kernel) (by decide +kernel) rfl) (by decide) (zcg (zp (zk zZ 1) zd)) (fun j=>za4 rfl (zaj (i:=0) (show (["_law_thing_here"]:List Str).Nodup by decide +kernel) rfl (by first|exact Or.inl rfl|exact Or.inr rfl))) (fun j=>zaH) (fun j=>zaU rfl (zo (C 26 _ rfl) hr rfl Z.F26.m Z.F26.F.kp Z.F26.b (zc (sv_k 0) zj)))) zj))))))) (zh (zu zan) zl) zl) zl)))) (zh (zu zan) zl)))
theorem zlH (Z:Facts w K mg cl fa fdd)(C:Fns P w K mg base cl fa fdd k):FnOk P w K mg base (CX1 P w) (k+1) (fa 28) (fdd 28) ["_law_part_here","_law_deep"] (spI K cl (callT T (k+1)) 28) :=
 zV (fn:=f_qpart) rfl Z.F28.F sc_qpart rfl rfl fun _ _ _ _ _ _ hr=>have nd:=sc_qpart.nd;have hu1:=zaR hr;(zh (zL (zaz (zai (zak (z7 (z5 (t:=.tuple) Z.k_tuple rfl zcA Z.z_isinstance zeC Z.z_tuple z9 (zk zbH 0)))) (zar (zB zgG (zF zag zd6 Z.z_len zae (zc (zk zbH 0) zj)) zd (nomark _))))) (zh (zu zan) zl) zl) (zh (zL (zB (za0 hr.units) (zp (zk zbH 0) zd) zC (nomark _)) (zh (zu (zN (zab (za0 hr.units) (zF zag zd6 Z.z_len zae (zc (zk zbH 0) zj)) zd (nomark _)) (zaa (zo (C 25 _ rfl) hr zd2 Z.F25.m Z.F25.F.kp Z.F25.b (zc (zp (zk zbH 0) zd) zj))))) zl) zl) (zh (zL (zaz (zai (zB (zdw hr.units) (zp (zk zbH 0) zd) zC (nomark _)) (zai (zB (zdw hr.units) (zF zag zd6 Z.z_len zae (zc (zk zbH 0) zj)) zd (nomark _)) (zai (zB ziN (zk zbH 1) zd (nomark _)) (zar (zak (z7 (zo (C 22 _ rfl) hr zfX Z.F22.m Z.F22.F.kp Z.F22.b (zc (zp (zk zbH 0) zd) (zc zd (zc zd zj))))))))))) (zh (zu zan) zl) zl) (zh (zL (zaz (zai (zak (z7 (zo (C 27 _ rfl) hr zdP Z.F27.m Z.F27.F.kp Z.F27.b (zc (zp (zk zbH 0) zd) zj)))) (zar (zak (z7 (z5 (t:=.tuple) Z.k_tuple rfl zcA Z.z_isinstance zeC Z.z_tuple z9 (zp (zk zbH 0) zd))))))) (zh (zu zan) zl) zl) (zh (zu (zF (zft rfl) zih Z.z_all zfq (zc (zbO rfl (compOk (NC:=["_law_inner","_law_deep"]) (slots:=[none,some 1]) ["_law_part_here","_law_deep"] (defScope zbN) rfl rfl rfl (by decide +kernel) (by decide +kernel) (by decide +kernel) (by decide +kernel) rfl) (by decide) (zcg (zp (zk zbH 0) zd)) (fun j=>za4 rfl (zaj (i:=0) (show (["_law_inner","_law_deep"]:List Str).Nodup by decide +kernel) rfl (by first|exact Or.inl rfl|exact Or.inr rfl))) (fun j=>zaH) (fun j=>zaU rfl (zo (C 28 _ rfl) hr rfl Z.F28.m Z.F28.F.kp Z.F28.b (zc (sv_k 0) (zc (zt zaB (sv_k 1) zd) zj))))) zj))) zl)))))
theorem zg0 (Z:Facts w K mg cl fa fdd)(C:Fns P w K mg base cl fa fdd k):FnOk P w K mg base (CX1 P w) (k+1) (fa 29) (fdd 29) ["_law_told"] (spI K cl (callT T (k+1)) 29) :=
 zV (fn:=zbZ) rfl Z.F29.F sc_qis_telling rfl rfl fun _ _ _ _ _ _ hr=>have nd:=sc_qis_telling.nd;have hu1:=zaR hr;(zh (zu (zN (z5 (t:=.tuple) Z.k_tuple rfl zc5 Z.z_isinstance zeq Z.z_tuple z9 (zk zeF 0)) (zaa (zF (zft rfl) zfi Z.z_all zfq (zc (zbO rfl (compOk (NC:=["_law_part_here"]) (slots:=[none]) ["_law_told"] (defScope zaw) rfl rfl rfl (by decide +kernel) (by decide +kernel) (by decide +kernel) (by decide +kernel) rfl) (by decide) (zcg (zk zeF 0)) (fun j=>za4 rfl (zaj (i:=0) (show (["_law_part_here"]:List Str).Nodup by decide +kernel) rfl (by first|exact Or.inl rfl|exact Or.inr rfl))) (fun j=>zaH) (fun j=>zaU rfl (zo (C 28 _ rfl) hr rfl Z.F28.m Z.F28.F.kp Z.F28.b (zc (sv_k 0) (zc zd zj))))) zj))))) zl)
theorem zgA (Z:Facts w K mg cl fa fdd)(C:Fns P w K mg base cl fa fdd k):FnOk P w K mg base (CX1 P w) (k+1) (fa 30) (fdd 30) ["_law_state"] (spI K cl (callT T (k+1)) 30) :=
 zV (fn:=zcd) rfl Z.F30.F sc_qsome_letter rfl rfl fun _ _ _ _ _ _ hr=>have nd:=sc_qsome_letter.nd;have hu1:=zaR hr;(zh (zu (zp zC (zo (C 19 _ rfl) hr zd0 Z.F19.m Z.F19.F.kp Z.F19.b (zc (zk zge 0) (zc zd zj))))) zl)
theorem zik (Z:Facts w K mg cl fa fdd)(C:Fns P w K mg base cl fa fdd k):FnOk P w K mg base (CX1 P w) (k+1) (fa 31) (fdd 31) ["_law_state","_law_cells"] (spI K cl (callT T (k+1)) 31) :=
 zV (fn:=f_qsome_row) rfl Z.F31.F sc_qsome_row rfl rfl fun _ _ _ _ _ _ hr=>have nd:=sc_qsome_row.nd;have hu1:=zaR hr;(zh (zH (i:=2) nd rfl (lcF (i:=2) zz rfl) (zA (zc zC (zc zC (zc zC (zc zC (zc zC (zc zC (zc zC (zc zC (zc zC (zc zC (zc zC (zc zC (zc zC zj))))))))))))))) (zh (zH (i:=3) nd rfl (lcF (i:=3) zz rfl) (zp (zk zz 2) (zo (C 19 _ rfl) hr zcP Z.F19.m Z.F19.F.kp Z.F19.b (zc (zk zz 0) (zc zd zj))))) (zh (zH (i:=4) nd rfl (lcF (i:=4) zz rfl) (zo (C 19 _ rfl) hr zcP Z.F19.m Z.F19.F.kp Z.F19.b (zc (zk zz 0) (zc zd zj)))) (zh (zg5 (i:=5) nd rfl (lcF (i:=5) zz rfl) rfl (compOk (NC:=["_law_k","_law_cells","_law_state"]) (slots:=[none,some 1,some 0]) ["_law_state","_law_cells","_law_kinds","_law_kind","_law_digit","_law_some"] (defScope za9) rfl rfl rfl (by decide +kernel) (by decide +kernel) (by decide +kernel) (by decide +kernel) rfl) (by decide) (zaQ zfs Z.z_range zd) (fun j=>za4 rfl (zaj (i:=0) (show (["_law_k","_law_cells","_law_state"]:List Str).Nodup by decide +kernel) rfl (by first|exact Or.inl rfl|exact Or.inr rfl))) (fun j=>zaH) (fun j=>zaU rfl (zp (sv_k 1) (zo (C 19 _ rfl) hr rfl Z.F19.m Z.F19.F.kp Z.F19.b (zc (sv_k 2) (zc (zF zag rfl Z.z_len zae (zc (sv_k 1) zj)) zj)))))) (zh (zL (zB (za0 hr.units) (zk zz 3) zC (nomark _)) (zh (zu (zA (zc (zk zz 3) (zc (zk zz 4) zj)))) zl) zl) (zh (zL (zB (za0 hr.units) (zk zz 3) zC (nomark _)) (zh (zu (zA (zc (zk zz 3) (zc (zp (zk zz 5) zd) zj)))) zl) zl) (zh (zL (zB (za0 hr.units) (zk zz 3) zC (nomark _)) (zh (zu (zA (zc (zk zz 3) (zc (zp (zk zz 5) zd) (zc (zk zz 4) zj))))) zl) zl) (zh (zL (zB (za0 hr.units) (zk zz 3) zC (nomark _)) (zh (zL (zB (za0 hr.units) (zp (zk zz 5) zd) (zp (zk zz 5) zd) (nomark _)) (zh (zij rfl (zc (zp (zk zz 1) zd) (zc (zp (zk zz 1) zd) zj)) (zk zz 5) zd (zk zz 5) zd (zbQ (zk zz 5) zd zbG) (zbQ (zk zz 5) zd zbG)) zl) zl) (zh (zu (zA (zc (zk zz 3) (zc (zp (zk zz 5) zd) (zc (zp (zk zz 5) zd) (zc (zp (zk zz 5) zd) (zc (zp (zk zz 5) zd) zj))))))) zl)) zl) (zh (zL (zB zlv (zk zz 3) (zA (zc zC (zc zC (zc zC (zc zC zj))))) (by with_unfolding_all rfl)) (zh (zu (zA (zc (zk zz 3) (zc (zp (zk zz 5) zd) (zc (zp (zk zz 5) zd) zj))))) zl) zl) (zh (zu (zA (zc (zk zz 3) (zc (zp (zk zz 5) zd) (zc (zp (zk zz 5) zd) (zc (zp (zk zz 5) zd) zj)))))) zl))))))))))
theorem ziJ (Z:Facts w K mg cl fa fdd)(C:Fns P w K mg base cl fa fdd k):FnOk P w K mg base (CX1 P w) (k+1) (fa 32) (fdd 32) ["_law_state"] (spI K cl (callT T (k+1)) 32) :=
 zV (fn:=f_qstrange) rfl Z.F32.F sc_qstrange rfl rfl fun _ _ _ _ _ _ hr=>have nd:=sc_qstrange.nd;have hu1:=zaR hr;(zh (zH (i:=1) nd rfl (lcF (i:=1) zJ rfl) (zo (C 30 _ rfl) hr zdh Z.F30.m Z.F30.F.kp Z.F30.b (zc (zk zJ 0) zj))) (zh (zH (i:=2) nd rfl (lcF (i:=2) zJ rfl) (zt zaB zd (zt zb2 (zo (C 19 _ rfl) hr zb7 Z.F19.m Z.F19.F.kp Z.F19.b (zc (zk zJ 0) (zc zd zj))) (zo (C 19 _ rfl) hr zb7 Z.F19.m Z.F19.F.kp Z.F19.b (zc (zk zJ 0) (zc (zt zhO zd zd) zj)))))) (zh (zH (i:=3) nd rfl (lcF (i:=3) zJ rfl) (zcw (zc zlo (zc zan (zc zan (zc (zef zd) (zc (zk zJ 2) (zc zC (zc (zk zJ 1) (zc (zt zaB (zk zJ 1) (zk zJ 1)) (zc zC (zc zC (zc (zA zj) (zc (zA (zc (zk zJ 1) zj)) zj)))))))))))))) (zh (zbq (zeY (zk zJ 3) (zfa (zc (zA (zc (zk zJ 1) (zc zd (zc zd zj)))) (zc (zA (zc (zk zJ 1) (zc (zef zd) zj))) (zc (zA (zc (zk zJ 1) (zc (zk zJ 2) zj))) (zc (zA (zc zC (zc zd zj))) (zc (zA (zc (zt zaB (zk zJ 1) zC) (zc zd zj))) zj)))))))) (zh (zbq (zeY (zk zJ 3) (zfa (zc (zA (zc zC (zc zd zj))) (zc (zA (zc (zk zJ 1) (zc zan zj))) (zc (zA (zc (zk zJ 1) (zc zC zj))) (zc (zfa (zc (zk zJ 1) (zc zd zj))) (zc (zA (zc (zk zJ 1) (zc (zA (zc zd (zc zd (zc zd (zc zd zj))))) zj))) zj)))))))) (zh (zbq (zeY (zk zJ 3) (zfa (zc zd (zc zd (zc zd (zc (zA (zc (zk zJ 1) (zc zd zj))) (zc zC (zc zC (zc (zA (zc zC (zc zd zj))) (zc (zA (zc (zA (zc (zk zJ 1) (zc zd zj))) (zc zd zj))) zj))))))))))) (zh (zu (zp (zk zJ 3) (zo (C 19 _ rfl) hr zb7 Z.F19.m Z.F19.F.kp Z.F19.b (zc (zk zJ 0) (zc (zF zag zgd Z.z_len zae (zc (zk zJ 3) zj)) zj))))) zl)))))))
theorem zf4 (Z:Facts w K mg cl fa fdd)(C:Fns P w K mg base cl fa fdd k):FnOk P w K mg base (CX1 P w) (k+1) (fa 33) (fdd 33) ["_law_state","_law_told"] (spI K cl (callT T (k+1)) 33) :=
 zV (fn:=f_qspoilt_tuple) rfl Z.F33.F sc_qspoilt_tuple rfl rfl fun _ _ _ _ _ _ hr=>have nd:=sc_qspoilt_tuple.nd;have hu1:=zaR hr;(zh (zH (i:=2) nd rfl (lcF (i:=2) zn rfl) (zo (C 19 _ rfl) hr zbm Z.F19.m Z.F19.F.kp Z.F19.b (zc (zk zn 0) (zc zd zj)))) (zh (zH (i:=3) nd rfl (lcF (i:=3) zn rfl) (zo (C 19 _ rfl) hr zbm Z.F19.m Z.F19.F.kp Z.F19.b (zc (zk zn 0) (zc (zt zaB (zF zag zaS Z.z_len zae (zc (zk zn 1) zj)) zd) zj)))) (zh (zH (i:=4) nd rfl (lcF (i:=4) zn rfl) (zo (C 32 _ rfl) hr zc3 Z.F32.m Z.F32.F.kp Z.F32.b (zc (zk zn 0) zj))) (zh (zH (i:=5) nd rfl (lcF (i:=5) zn rfl) (zF (zn7 rfl) zeA Z.z_min zod (zc (zk zn 3) (zc (zt zco (zF zag zaS Z.z_len zae (zc (zk zn 1) zj)) zd) zj)))) (zh (zL (zaz (zai (zB (za0 hr.units) (zF zag zaS Z.z_len zae (zc (zk zn 1) zj)) zd (nomark _)) (zar (zB (za0 hr.units) (zk zn 2) zd (nomark _))))) (zh (zu (zt zaB (zt zaB (zbp (zk zn 1) zaL (zaM (zk zn 3))) (zA (zc (zk zn 4) zj))) (zbp (zk zn 1) (zaM (zk zn 3)) zaL))) zl) zl) (zh (zL (zB (za0 hr.units) (zk zn 2) zd (nomark _)) (zh (zu (zt zaB (zbp (zk zn 1) zaL (zaM (zk zn 5))) (zbp (zk zn 1) (zaM (zt zaB (zk zn 5) zd)) zaL))) zl) zl) (zh (zL (zB (za0 hr.units) (zk zn 2) zd (nomark _)) (zh (zu (zt zaB (zt zaB (zbp (zk zn 1) zaL (zaM (zk zn 5))) (zA (zc (zp (zk zn 1) (zk zn 5)) zj))) (zbp (zk zn 1) (zaM (zk zn 5)) zaL))) zl) zl) (zh (zL (zB (za0 hr.units) (zk zn 2) zd (nomark _)) (zh (zH (i:=6) nd rfl (lcF (i:=6) zn rfl) (zo (C 19 _ rfl) hr zbm Z.F19.m Z.F19.F.kp Z.F19.b (zc (zk zn 0) (zc (zF zag zaS Z.z_len zae (zc (zk zn 1) zj)) zj)))) (zh (zH (i:=7) nd rfl (lcF (i:=7) zn rfl) (zjK zd4 Z.z_list zld (zc (zk zn 1) zj))) (zh (zij rfl (zc (zp (zk zn 7) (zk zn 6)) (zc (zp (zk zn 7) (zk zn 5)) zj)) (zk zn 7) (zk zn 5) (zk zn 7) (zk zn 6) (zbQ (zk zn 7) (zk zn 5) zbG) (zbQ (zk zn 7) (zk zn 6) zbG)) (zh (zu (zbF zcO zdE Z.z_tuple z9 (zc (zk zn 7) zj))) zl)))) zl) (zh (zu (zt zaB (zt zaB (zbp (zk zn 1) zaL (zaM (zk zn 5))) (zA (zc (zk zn 4) zj))) (zbp (zk zn 1) (zaM (zt zaB (zk zn 5) zd)) zaL))) zl)))))))))
theorem zgL (Z:Facts w K mg cl fa fdd)(C:Fns P w K mg base cl fa fdd k):FnOk P w K mg base (CX1 P w) (k+1) (fa 34) (fdd 34) ["_law_state"] (spI K cl (callT T (k+1)) 34) :=
 zV (fn:=zbv) rfl Z.F34.F sc_qsome_index rfl rfl fun _ _ _ _ _ _ hr=>have nd:=sc_qsome_index.nd;have hu1:=zaR hr;(zh (zH (i:=1) nd rfl (lcF (i:=1) zO rfl) (zo (C 19 _ rfl) hr zbC Z.F19.m Z.F19.F.kp Z.F19.b (zc (zk zO 0) (zc zd zj)))) (zh (zH (i:=2) nd rfl (lcF (i:=2) zO rfl) (zo (C 19 _ rfl) hr zbC Z.F19.m Z.F19.F.kp Z.F19.b (zc (zk zO 0) (zc zd zj)))) (zh (zh9 (i:=3) nd rfl (lcF (i:=3) zO rfl) rfl (compOk (NC:=["_law_k","_law_state"]) (slots:=[none,some 0]) ["_law_state","_law_way","_law_first","_law_small"] (defScope zax) rfl rfl rfl (by decide +kernel) (by decide +kernel) (by decide +kernel) (by decide +kernel) rfl) (by decide) (zaQ zey Z.z_range zd) (fun j=>za4 rfl (zaj (i:=0) (show (["_law_k","_law_state"]:List Str).Nodup by decide +kernel) rfl (by first|exact Or.inl rfl|exact Or.inr rfl))) (fun j=>zaH) (fun j=>zaU rfl (zt zco (zo (C 19 _ rfl) hr rfl Z.F19.m Z.F19.F.kp Z.F19.b (zc (sv_k 1) (zc zd zj))) zd))) (zh (zL (zB zgG (zk zO 1) zd (nomark _)) (zh (zu (zA (zc (zk zO 2) (zc zd (zc zd (zc zd zj)))))) zl) zl) (zh (zL (zB zgG (zk zO 1) zd (nomark _)) (zh (zu (zA (zc (zt zaB zd (zt ze5 (zk zO 2) zd)) (zc (zp (zk zO 3) zd) (zc (zp (zk zO 3) zd) (zc (zp (zk zO 3) zd) zj)))))) zl) zl) (zh (zu (zbF zcO zep Z.z_tuple z9 (zc (zfa (zc (zp (zA (zc zd (zc (zef zd) (zc (zk zO 2) (zc zd zj))))) (zo (C 19 _ rfl) hr zbC Z.F19.m Z.F19.F.kp Z.F19.b (zc (zk zO 0) (zc zd zj)))) (zc (zp (zk zO 3) zd) (zc (zp (zk zO 3) zd) (zc (zp (zk zO 3) zd) zj))))) zj))) zl))))))
theorem zet (Z:Facts w K mg cl fa fdd)(C:Fns P w K mg base cl fa fdd k):FnOk P w K mg base (CX1 P w) (k+1) (fa 35) (fdd 35) ["_law_state"] (spI K cl (callT T (k+1)) 35) :=
 zV (fn:=f_qsome_telling_row) rfl Z.F35.F sc_qsome_telling_row rfl rfl fun _ _ _ _ _ _ hr=>have nd:=sc_qsome_telling_row.nd;have hu1:=zaR hr;(zh (zH (i:=1) nd rfl (lcF (i:=1) zE rfl) (zcw zj)) (zh (zct own1 rfl (zaQ zcL Z.z_range (zt zaB zd (zo (C 19 _ rfl) hr zcM Z.F19.m Z.F19.F.kp Z.F19.b (zc (zk zE 0) (zc zd zj))))) (zaj (i:=2) nd rfl (lcF (i:=2) zE rfl)) (zh (zH (i:=3) nd rfl (lcF (i:=3) zE rfl) (zA (zc (zo (C 30 _ rfl) hr zbY Z.F30.m Z.F30.F.kp Z.F30.b (zc (zk zE 0) zj)) (zc (zo (C 34 _ rfl) hr zb1 Z.F34.m Z.F34.F.kp Z.F34.b (zc (zk zE 0) zj)) zj)))) (zh (zL (zlM hr.units (zk zE 3) (zk zE 1) (by with_unfolding_all rfl)) (zh (zbq (zbI (zk zE 1) (zk zE 3))) zl) zl) zl))) (zh (zL (zB (za0 hr.units) (zF zag zdb Z.z_len zae (zc (zk zE 1) zj)) zd (nomark _)) (zh (zbq (zbI (zk zE 1) (zA (zc (zp (zp (zk zE 1) zd) zd) (zc (zA (zc (zt zaB (zt ze5 (zp (zp (zp (zk zE 1) zd) zd) zd) zd) zd) (zc zd (zc zd (zc zd zj))))) zj))))) zl) zl) (zh (zu (zo (C 31 _ rfl) hr zch Z.F31.m Z.F31.F.kp Z.F31.b (zc (zk zE 0) (zc (zk zE 1) zj)))) zl))))
theorem zfC (Z:Facts w K mg cl fa fdd)(C:Fns P w K mg base cl fa fdd k):FnOk P w K mg base (CX1 P w) (k+1) (fa 36) (fdd 36) ["_law_state"] (spI K cl (callT T (k+1)) 36) :=
 zV (fn:=f_qsome_sentence) rfl Z.F36.F sc_qsome_sentence rfl rfl fun _ _ _ _ _ _ hr=>have nd:=sc_qsome_sentence.nd;have hu1:=zaR hr;(zh (zH (i:=1) nd rfl (lcF (i:=1) zq rfl) (zcw zj)) (zh (zct own1 rfl (zaQ zbe Z.z_range (zF (zmd rfl) zec Z.z_max zmo (zc zd (zc (zt zco (zo (C 19 _ rfl) hr zK Z.F19.m Z.F19.F.kp Z.F19.b (zc (zk zq 0) (zc zd zj))) zd) zj)))) (zaj (i:=2) nd rfl (lcF (i:=2) zq rfl)) (zh (zH (i:=3) nd rfl (lcF (i:=3) zq rfl) (zcw zj)) (zh (zct own1 rfl (zaQ zbe Z.z_range (zo (C 19 _ rfl) hr zK Z.F19.m Z.F19.F.kp Z.F19.b (zc (zk zq 0) (zc zd zj)))) (zaj (i:=4) nd rfl (lcF (i:=4) zq rfl)) (zh (zH (i:=5) nd rfl (lcF (i:=5) zq rfl) (zA (zc zC zj))) (zh (zL (zB ziN (zo (C 19 _ rfl) hr zK Z.F19.m Z.F19.F.kp Z.F19.b (zc (zk zq 0) (zc zd zj))) zd (nomark _)) (zh (zH (i:=5) nd rfl (lcF (i:=5) zq rfl) (zA (zc zC (zc (zo (C 30 _ rfl) hr zcj Z.F30.m Z.F30.F.kp Z.F30.b (zc (zk zq 0) zj)) (zc (zo (C 34 _ rfl) hr zbg Z.F34.m Z.F34.F.kp Z.F34.b (zc (zk zq 0) zj)) (zc (zo (C 34 _ rfl) hr zbg Z.F34.m Z.F34.F.kp Z.F34.b (zc (zk zq 0) zj)) zj)))))) zl) zl) (zh (zbq (zbI (zk zq 3) (zk zq 5))) zl)))) (zh (zH (i:=6) nd rfl (lcF (i:=6) zq rfl) (zt zb2 (zo (C 19 _ rfl) hr zK Z.F19.m Z.F19.F.kp Z.F19.b (zc (zk zq 0) (zc (zt zhO zd zd) zj))) (zt zco zd (zt zb2 zd (zo (C 19 _ rfl) hr zK Z.F19.m Z.F19.F.kp Z.F19.b (zc (zk zq 0) (zc zd zj))))))) (zh (zH (i:=7) nd rfl (lcF (i:=7) zq rfl) (zp (zA (zc (zt zco (zo (C 19 _ rfl) hr zK Z.F19.m Z.F19.F.kp Z.F19.b (zc (zk zq 0) (zc zd zj))) zd) (zc (zk zq 6) zj))) (zo (C 19 _ rfl) hr zK Z.F19.m Z.F19.F.kp Z.F19.b (zc (zk zq 0) (zc zd zj))))) (zh (zg5 (i:=8) nd rfl (lcF (i:=8) zq rfl) rfl (compOk (NC:=["_law_j","_law_state"]) (slots:=[none,some 0]) ["_law_state","_law_terms","_law_k","_law_things","_law_j","_law_thing_here","_law_far","_law_factor","_law_numbers"] (defScope zQ) rfl rfl rfl (by decide +kernel) (by decide +kernel) (by decide +kernel) (by decide +kernel) rfl) (by decide) (zaQ zbe Z.z_range zd) (fun j=>za4 rfl (zaj (i:=0) (show (["_law_j","_law_state"]:List Str).Nodup by decide +kernel) rfl (by first|exact Or.inl rfl|exact Or.inr rfl))) (fun j=>zaH) (fun j=>zaU rfl (zt zco (zo (C 19 _ rfl) hr rfl Z.F19.m Z.F19.F.kp Z.F19.b (zc (sv_k 1) (zc zd zj))) zd))) (zh (zdy (zp (zA (zc zd (zc zd (zc zd (zc (zef zd) zj))))) (zo (C 19 _ rfl) hr zK Z.F19.m Z.F19.F.kp Z.F19.b (zc (zk zq 0) (zc zd zj)))) (zk zq 8) (zo (C 19 _ rfl) hr zK Z.F19.m Z.F19.F.kp Z.F19.b (zc (zk zq 0) (zc zd zj))) (hg:=zbQ (zk zq 8) (zo (C 19 _ rfl) hr zK Z.F19.m Z.F19.F.kp Z.F19.b (zc (zk zq 0) (zc zd zj))) zbG)) (zh (zbq (zbI (zk zq 1) (zA (zc (zk zq 7) (zc (zbF zcO za8 Z.z_tuple z9 (zc (zk zq 8) zj)) (zc (zbF zcO za8 Z.z_tuple z9 (zc (zk zq 3) zj)) zj)))))) zl)))))))) (zh (zu (zbF zcO za8 Z.z_tuple z9 (zc (zk zq 1) zj))) zl)))
theorem zg1 (Z:Facts w K mg cl fa fdd)(C:Fns P w K mg base cl fa fdd k):FnOk P w K mg base (CX1 P w) (k+1) (fa 37) (fdd 37) ["_law_state","_law_w","_law_n"] (spI K cl (callT T (k+1)) 37) :=
 zV (fn:=f_qsome_count) rfl Z.F37.F sc_qsome_count rfl rfl fun _ _ _ _ _ _ hr=>have nd:=sc_qsome_count.nd;have hu1:=zaR hr;(zh (zH (i:=3) nd rfl (lcF (i:=3) zI rfl) (zbF zoq zfe Z.z_int zkR (zc (zN (zab zgG (zt zb2 (zk zI 1) (zk zI 2)) zd (nomark _)) (zaa (zab (za0 hr.units) (zo (C 19 _ rfl) hr z6 Z.F19.m Z.F19.F.kp Z.F19.b (zc (zk zI 0) (zc zd zj))) zd (nomark _)))) zj))) (zh (zH (i:=4) nd rfl (lcF (i:=4) zI rfl) (zA (zc (zt zb2 (zo (C 19 _ rfl) hr z6 Z.F19.m Z.F19.F.kp Z.F19.b (zc (zk zI 0) (zc zd zj))) (zt zco zd (zk zI 3))) (zc (zt zb2 (zo (C 19 _ rfl) hr z6 Z.F19.m Z.F19.F.kp Z.F19.b (zc (zk zI 0) (zc zd zj))) (zt zco zd (zk zI 3))) (zc (zk zI 3) zj))))) (zh (zH (i:=5) nd rfl (lcF (i:=5) zI rfl) (zo (C 19 _ rfl) hr z6 Z.F19.m Z.F19.F.kp Z.F19.b (zc (zk zI 0) (zc zd zj)))) (zh (zL (zB (za0 hr.units) (zk zI 5) zd (nomark _)) (zh (zH (i:=4) nd rfl (lcF (i:=4) zI rfl) (zA (zc (zt zco zd (zo (C 19 _ rfl) hr z6 Z.F19.m Z.F19.F.kp Z.F19.b (zc (zk zI 0) (zc zd zj)))) (zc zd (zc zd zj))))) zl) zl) (zh (zL (zB (za0 hr.units) (zk zI 5) zd (nomark _)) (zh (zH (i:=4) nd rfl (lcF (i:=4) zI rfl) (zA (zc (zt zco zd (zo (C 19 _ rfl) hr z6 Z.F19.m Z.F19.F.kp Z.F19.b (zc (zk zI 0) (zc zd zj)))) (zc zd (zc zd zj))))) zl) zl) (zh (zL (zB (za0 hr.units) (zk zI 5) zd (nomark _)) (zh (zH (i:=4) nd rfl (lcF (i:=4) zI rfl) (zA (zc (zt zaB zd (zo (C 19 _ rfl) hr z6 Z.F19.m Z.F19.F.kp Z.F19.b (zc (zk zI 0) (zc zd zj)))) (zc (zt zco (zef zd) (zo (C 19 _ rfl) hr z6 Z.F19.m Z.F19.F.kp Z.F19.b (zc (zk zI 0) (zc zd zj)))) (zc zd zj))))) zl) zl) (zh (zu (zk zI 4)) zl)))))))
theorem zfV (Z:Facts w K mg cl fa fdd)(C:Fns P w K mg base cl fa fdd k):FnOk P w K mg base (CX1 P w) (k+1) (fa 38) (fdd 38) ["_law_state","_law_w","_law_n"] (spI K cl (callT T (k+1)) 38) :=
 zV (fn:=f_qsome_telling) rfl Z.F38.F sc_qsome_telling rfl rfl fun _ _ _ _ _ _ hr=>have nd:=sc_qsome_telling.nd;have hu1:=zaR hr;(zh (zH (i:=3) nd rfl (lcF (i:=3) zx rfl) (zcw zj)) (zh (zct own1 rfl (zaQ zbl Z.z_range (zo (C 19 _ rfl) hr zas Z.F19.m Z.F19.F.kp Z.F19.b (zc (zk zx 0) (zc zd zj)))) (zaj (i:=4) nd rfl (lcF (i:=4) zx rfl)) (zh (zL (zB (za0 hr.units) (zo (C 19 _ rfl) hr zas Z.F19.m Z.F19.F.kp Z.F19.b (zc (zk zx 0) (zc zd zj))) zd (nomark _)) (zh (zbq (zbI (zk zx 3) (zA (zc zC (zc (zo (C 35 _ rfl) hr zbM Z.F35.m Z.F35.F.kp Z.F35.b (zc (zk zx 0) zj)) zj))))) zl) (zh (zH (i:=5) nd rfl (lcF (i:=5) zx rfl) (zcw zj)) (zh (zct own1 rfl (zaQ zbl Z.z_range (zo (C 19 _ rfl) hr zas Z.F19.m Z.F19.F.kp Z.F19.b (zc (zk zx 0) (zc zd zj)))) (zaj (i:=6) nd rfl (lcF (i:=6) zx rfl)) (zh (zh9 (i:=7) nd rfl (lcF (i:=7) zx rfl) rfl (compOk (NC:=["_law_i","_law_state"]) (slots:=[none,some 0]) ["_law_state","_law_w","_law_n","_law_parts","_law_k","_law_inner","_law_j","_law_deep"] (defScope zT) rfl rfl rfl (by decide +kernel) (by decide +kernel) (by decide +kernel) (by decide +kernel) rfl) (by decide) (zaQ zbl Z.z_range (zo (C 19 _ rfl) hr zas Z.F19.m Z.F19.F.kp Z.F19.b (zc (zk zx 0) (zc zd zj)))) (fun j=>za4 rfl (zaj (i:=0) (show (["_law_i","_law_state"]:List Str).Nodup by decide +kernel) rfl (by first|exact Or.inl rfl|exact Or.inr rfl))) (fun j=>zaH) (fun j=>zaU rfl (zA (zc zC (zc (zo (C 35 _ rfl) hr rfl Z.F35.m Z.F35.F.kp Z.F35.b (zc (sv_k 1) zj)) zj))))) (zh (zL (zB (za0 hr.units) (zo (C 19 _ rfl) hr zas Z.F19.m Z.F19.F.kp Z.F19.b (zc (zk zx 0) (zc zd zj))) zd (nomark _)) (zh (zH (i:=5) nd rfl (lcF (i:=5) zx rfl) (zkW (zlV (zk zx 5)) (zbp (zk zx 7) zaL (zaM zd)))) zl) (zh (zbq (zbI (zk zx 5) (zA (zc zC (zc (zo (C 37 _ rfl) hr zbo Z.F37.m Z.F37.F.kp Z.F37.b (zc (zk zx 0) (zc (zk zx 1) (zc (zk zx 2) zj)))) (zc (zo (C 36 _ rfl) hr zaT Z.F36.m Z.F36.F.kp Z.F36.b (zc (zk zx 0) zj)) (zc (zbF zcO zbn Z.z_tuple z9 (zc (zk zx 7) zj)) zj))))))) zl)) zl))) (zh (zbq (zbI (zk zx 3) (zA (zc zC (zc (zo (C 37 _ rfl) hr zbo Z.F37.m Z.F37.F.kp Z.F37.b (zc (zk zx 0) (zc (zk zx 1) (zc (zk zx 2) zj)))) (zc (zo (C 36 _ rfl) hr zaT Z.F36.m Z.F36.F.kp Z.F36.b (zc (zk zx 0) zj)) (zc (zbF zcO zbn Z.z_tuple z9 (zc (zk zx 5) zj)) zj))))))) zl)))) zl)) (zh (zu (zbF zcO zbn Z.z_tuple z9 (zc (zk zx 3) zj))) zl)))
theorem zfx (Z:Facts w K mg cl fa fdd)(C:Fns P w K mg base cl fa fdd k):FnOk P w K mg base (CX1 P w) (k+1) (fa 39) (fdd 39) ["_law_state","_law_told","_law_deep"] (spI K cl (callT T (k+1)) 39) :=
 zV (fn:=f_qspoilt_within) rfl Z.F39.F sc_qspoilt_within rfl rfl fun _ _ _ _ _ _ hr=>have nd:=sc_qspoilt_within.nd;have hu1:=zaR hr;(zh (zH (i:=3) nd rfl (lcF (i:=3) zG rfl) (zo (C 19 _ rfl) hr zbP Z.F19.m Z.F19.F.kp Z.F19.b (zc (zk zG 0) (zc (zF (zmd rfl) zd9 Z.z_max zmo (zc zd (zc (zF zag zci Z.z_len zae (zc (zk zG 1) zj)) zj))) zj)))) (zh (zL (zaz (zeg (zB zgG (zk zG 2) zd (nomark _)) (zeg (zB ziN (zo (C 19 _ rfl) hr zbP Z.F19.m Z.F19.F.kp Z.F19.b (zc (zk zG 0) (zc zd zj))) zd (nomark _)) (zeg (zB zgG (zk zG 3) (zF zag zci Z.z_len zae (zc (zk zG 1) zj)) (nomark _)) (zfk (z7 (z5 (t:=.tuple) Z.k_tuple rfl zcr Z.z_isinstance zdp Z.z_tuple z9 (zp (zk zG 1) (zk zG 3))))))))) (zh (zu (zt zaB (zt zaB (zbp (zk zG 1) zaL (zaM (zk zG 3))) (zA (zc (zo (C 39 _ rfl) hr zb0 Z.F39.m Z.F39.F.kp Z.F39.b (zc (zk zG 0) (zc (zp (zk zG 1) (zk zG 3)) (zc (zt zaB (zk zG 2) zd) zj)))) zj))) (zbp (zk zG 1) (zaM (zt zaB (zk zG 3) zd)) zaL))) zl) zl) (zh (zu (zo (C 33 _ rfl) hr zca Z.F33.m Z.F33.F.kp Z.F33.b (zc (zk zG 0) (zc (zk zG 1) zj)))) zl)))
theorem zoL (Z:Facts w K mg cl fa fdd)(C:Fns P w K mg base cl fa fdd k):FnOk P w K mg base (CX1 P w) (k+1) (fa 40) (fdd 40) ["_law_script"] (spI K cl (callT T (k+1)) 40) :=
 zV (fn:=f_law) rfl Z.F40.F sc_law rfl rfl fun _ _ _ _ _ _ hr=>have nd:=sc_law.nd;have hu1:=zaR hr;(zh (zH (i:=1) nd rfl (lcF (i:=1) zaD rfl) (zo (C 16 _ rfl) hr zhF Z.F16.m Z.F16.F.kp Z.F16.b (zc (zk zaD 0) zj))) (zh (zhV (zo (C 20 _ rfl) hr zhu Z.F20.m Z.F20.F.kp Z.F20.b (zc (zk zaD 1) (zc zd zj))) (zgb rfl (zbA (i:=2) nd rfl (lcF (i:=2) zaD rfl) (zbA (i:=3) nd rfl (lcF (i:=3) zaD rfl) zff)))) (zh (zH (i:=4) nd rfl (lcF (i:=4) zaD rfl) (zo (C 38 _ rfl) hr zeu Z.F38.m Z.F38.F.kp Z.F38.b (zc (zk zaD 1) (zc (zk zaD 2) (zc (zk zaD 3) zj))))) (zh (zL (zB zhq (zo (C 13 _ rfl) hr zaG Z.F13.m Z.F13.F.kp Z.F13.b (zc (zk zaD 4) zj)) zan (nomark _)) (zh zgE zl) zl) (zh (zct own1 rfl (zaQ zia Z.z_range zd) (zaj (i:=5) nd rfl (lcF (i:=5) zaD rfl)) (zh (zH (i:=6) nd rfl (lcF (i:=6) zaD rfl) (zo (C 39 _ rfl) hr zdR Z.F39.m Z.F39.F.kp Z.F39.b (zc (zk zaD 1) (zc (zk zaD 4) (zc zd zj))))) (zh (zH (i:=7) nd rfl (lcF (i:=7) zaD rfl) (zo (C 13 _ rfl) hr zaG Z.F13.m Z.F13.F.kp Z.F13.b (zc (zk zaD 6) zj))) (zh (zL (zaz (zai (zak (z7 (z5 (t:=.bool) Z.k_bool rfl zdf Z.z_isinstance zgq Z.z_bool zhw (zk zaD 7)))) (zar (zB (zdw hr.units) (zk zaD 7) (zo (C 29 _ rfl) hr ze7 Z.F29.m Z.F29.F.kp Z.F29.b (zc (zk zaD 6) zj)) (nomark _))))) (zh zgE zl) zl) zl)))) (zh (zH (i:=8) nd rfl (lcF (i:=8) zaD rfl) (zA (zc zC (zc (zA (zc zd (zc zd (zc zd zj)))) (zc (zA zj) (zc (zA (zc (zA (zc zC (zc (zA (zc zC (zc zd zj))) zj))) zj)) zj)))))) (zh (zH (i:=9) nd rfl (lcF (i:=9) zaD rfl) (zA (zc zC (zc (zA (zc zd (zc zd (zc zd zj)))) (zc (zA zj) (zc (zA (zc (zk zaD 8) zj)) zj)))))) (zh (zL (zaz (zai (zB zhq (zo (C 13 _ rfl) hr zaG Z.F13.m Z.F13.F.kp Z.F13.b (zc (zA (zc (zk zaD 9) zj)) zj)) zan (nomark _)) (zar (zB zhq (zo (C 13 _ rfl) hr zaG Z.F13.m Z.F13.F.kp Z.F13.b (zc (zA (zc (zA (zc zC (zc (zA (zc zd (zc zd (zc zd zj)))) (zc (zA zj) (zc (zA (zc (zk zaD 9) zj)) zj))))) zj)) zj)) zan (nomark _))))) (zh zgE zl) zl) (zh (zH (i:=10) nd rfl (lcF (i:=10) zaD rfl) (zo (C 32 _ rfl) hr zgt Z.F32.m Z.F32.F.kp Z.F32.b (zc (zk zaD 1) zj))) (zh (zH (i:=7) nd rfl (lcF (i:=7) zaD rfl) (zo (C 13 _ rfl) hr zaG Z.F13.m Z.F13.F.kp Z.F13.b (zc (zk zaD 10) zj))) (zh (zu (zN (zab zo6 (zo (C 13 _ rfl) hr zaG Z.F13.m Z.F13.F.kp Z.F13.b (zc (zbF zm5 ziW Z.z_list zld (zc (zk zaD 4) zj)) zj)) zan (nomark _)) (zN (z5 (t:=.bool) Z.k_bool rfl zdf Z.z_isinstance zgq Z.z_bool zhw (zk zaD 7)) (zaa (zab (za0 hr.units) (zk zaD 7) (zab (za0 hr.units) (zk zaD 10) (zA zj) (nomark _)) (nomark _)))))) zl)))))))))))
end
end WK
namespace IC
open PySem
noncomputable def forB (call:Cl)(t:Tg)(b:Css)(xs:List PV)(ρ:Env)(st:Store):Fl:=forL t (fun ρ2 st2=>exs call ρ2 st2 b) xs ρ st
noncomputable def whileB (call:Cl)(c:Ce)(b:Css)(n:Nat)(ρ:Env)(st:Store):Fl:=whileL (fun ρ2 st2=>ev call ρ2 st2 c) (fun ρ2 st2=>exs call ρ2 st2 b) n ρ st
noncomputable def oneB (call:Cl)(ρ0:Env)(t:Tg)(c e:Ce)(x:PV)(st2:Store):R (Option PV):=match bindT t x ρ0 with
 |none=>.bad
 |some ρ1=>(ev call ρ1 st2 c).bind fun b st3=>onO (truV st3 b) fun k=>cond k ((ev call ρ1 st3 e).bind fun y st4=>.ok (some y) st4) (.ok none st3)
noncomputable def compB (call:Cl)(ρ0:Env)(t:Tg)(c e:Ce)(xs:List PV)(st:Store):R (List PV):=compL (oneB call ρ0 t c e) xs st
noncomputable def thenF (f:Fl)(k:Env->Store->Fl):Fl :=
 match f with
 | .nx ρ st=>k ρ st
 |f=>f
noncomputable def nxO (o:Option Env)(st:Store):Fl :=
 match o with
 |some ρ=>.nx ρ st
 |none=>.bad
noncomputable def stO (ρ:Env)(o:Option Store):Fl :=
 match o with
 |some st=>.nx ρ st
 |none=>.bad
section
variable {call:Cl}{ρ:Env}{st:Store}
theorem x_for {t:Tg}{it:Cit}{b:Css}:ex call ρ st (.for t it b)=(evi call ρ st it).fl ρ fun xs st1=>forB call t b xs ρ st1:=by rw [ex];rfl
theorem zmH {c:Ce}{b:Css}:ex call ρ st (.while c b)=whileB call c b 100000 ρ st:=by rw [ex];rfl
theorem v_comp {sl:List (Option Nat)}{t:Tg}{it:Cit}{c e:Ce}:ev call ρ st (.comp sl t it c e)=(evi call ρ st it).bind fun xs st1=>lstR (compB call (sl.map fun o=>o.bind fun j=>(ρ[j]?).join) t c e xs st1):=by rw [ev];rfl
theorem zce {t:Tg}{b:Css}:forB call t b [] ρ st=.nx ρ st:=by rw [forB,forL]
theorem zbD {t:Tg}{b:Css}{x:PV}{xs:List PV}{ρ1:Env}(h:bindT t x ρ=some ρ1):forB call t b (x::xs) ρ st=againF (exs call ρ1 st b) fun ρ2 st2=>forB call t b xs ρ2 st2:=by
 rw [forB,forL,h];rfl
theorem zi3 {t:Tg}{b:Css}(P:Nat->Env->Store->Prop):∀(xs:List PV) (i:Nat) (ρ:Env) (st:Store),P i ρ st ->
  (∀(j:Nat) (x:PV) (ρ:Env) (st:Store),xs[j]?=some x->P (i+j) ρ st->∃ρ1 ρ2 st2,bindT t x ρ=some ρ1/\exs call ρ1 st b=.nx ρ2 st2/\P (i+j+1) ρ2 st2) ->
  ∃ρ' st',forB call t b xs ρ st=.nx ρ' st'/\P (i+xs.length) ρ' st'
 | [],i,ρ,st,h,_=>⟨ρ,st,zce,h⟩
 |x::xs,i,ρ,st,h,k=>by
  obtain ⟨ρ1,ρ2,st2,e1,e2,h2⟩:=k 0 x ρ st rfl h
  obtain ⟨ρ',st',e3,h3⟩:=zi3 P xs (i+1) ρ2 st2 h2 fun j y ρ st hy hp=>by
   have:=k (j+1) y ρ st (by simpa using hy) (by rw [show i+(j+1)=i+1+j by omega];exact hp)
   rw [show i+(j+1)+1=i+1+j+1 by omega] at this
   exact this
  refine ⟨ρ',st',?_,by rw [List.length_cons,show i+(xs.length+1)=i+1+xs.length by omega];exact h3⟩
  rw [zbD e1,e2]
  exact e3
theorem zk5 {c:Ce}{b:Css}{n:Nat}{x:PV}{st1 st2:Store}{ρ2:Env}(h:ev call ρ st c=.ok x st1)(ht:truV st1 x=some true)(hb:exs call ρ st1 b=.nx ρ2 st2):whileB call c b (n+1) ρ st=whileB call c b n ρ2 st2:=by
 rw [whileB,whileL,h]
 simp only [R.fl,ht,onF,cond_true,hb,againF]
 rfl
theorem zix {c:Ce}{b:Css}{n:Nat}{x:PV}{st1:Store}(h:ev call ρ st c=.ok x st1)(ht:truV st1 x=some false):whileB call c b (n+1) ρ st=.nx ρ st1:=by
 rw [whileB,whileL,h]
 simp only [R.fl,ht,onF,cond_false]
theorem zdT {ρ0:Env}{t:Tg}{c e:Ce}:compB call ρ0 t c e [] st=.ok [] st:=by rw [compB,compL]
theorem zdg {ρ0:Env}{t:Tg}{c e:Ce}{x:PV}{xs:List PV}:compB call ρ0 t c e (x::xs) st=(oneB call ρ0 t c e x st).bind fun o st1=>(compB call ρ0 t c e xs st1).bind fun ys st2=>.ok (consO o ys) st2:=by
 rw [compB,compL];rfl
theorem zbE {ρ0:Env}{t:Tg}{c e:Ce}{f:PV->PV}:∀(xs:List PV),(∀x∈xs,oneB call ρ0 t c e x st=.ok (some (f x)) st)->compB call ρ0 t c e xs st=.ok (xs.map f) st
 | [],_=>zdT
 |x::xs,h=>by
  rw [zdg,h x List.mem_cons_self]
  simp only [R.bind]
  rw [zbE xs fun y hy=>h y (List.mem_cons_of_mem _ hy)]
  rfl
theorem xs_nil:exs call ρ st .nil=.nx ρ st:=by rw [exs]
theorem xs_cons {s:Cs}{ss:Css}:exs call ρ st (.cons s ss)=thenF (ex call ρ st s) fun ρ1 st1=>exs call ρ1 st1 ss:=by
 rw [exs]
 cases ex call ρ st s <;> rfl
theorem x_asg {t:Tg}{e:Ce}:ex call ρ st (.asg t e)=(ev call ρ st e).fl ρ fun v st1=>nxO (bindT t v ρ) st1:=by
 rw [ex]
 refine congrArg _ (funext fun v=>funext fun st1=>?_)
 cases bindT t v ρ <;> rfl
theorem x_expr {e:Ce}:ex call ρ st (.expr e)=(ev call ρ st e).fl ρ fun _ st1=>.nx ρ st1:=by rw [ex]
theorem x_ret {e:Ce}:ex call ρ st (.ret e)=(ev call ρ st e).fl ρ fun v st1=>.rt v st1:=by rw [ex]
theorem x_ite {c:Ce}{a b:Css}:ex call ρ st (.ite c a b)=(ev call ρ st c).fl ρ fun x st1=>onF (truV st1 x) fun k=>cond k (exs call ρ st1 a) (exs call ρ st1 b):=by rw [ex]
theorem x_raise {c:Nat}{e:Ce}:ex call ρ st (.raise c e)=(ev call ρ st e).fl ρ fun _ st1=>.exc c ρ st1:=by rw [ex]
noncomputable def endF (i:Nat)(f:Fl):Fl :=
 match f with
 | .nx ρ2 st2=>.nx (ρ2.set i none) st2
 | .rt v st2=>.rt v st2
 |_=>.bad
noncomputable def tryF (cs:List Nat)(i:Nat)(f:Fl)(k:Env->Store->Nat->Fl):Fl :=
 match f with
 | .exc d ρ1 st1=>if cs.contains d then endF i (k ρ1 st1 d) else .bad
 |f=>f
theorem x_try {b h:Css}{cs:List Nat}{i:Nat}:ex call ρ st (.try b cs i h)=tryF cs i (exs call ρ st b) fun ρ1 st1 d=>exs call (ρ1.set i (some (.exn d))) st1 h:=by
 rw [ex]
 cases exs call ρ st b <;> rfl
theorem x_six {o i e:Ce}:ex call ρ st (.six o i e)=(ev call ρ st e).fl ρ fun v st1=>(ev call ρ st1 o).fl ρ fun x st2=>(ev call ρ st2 i).fl ρ fun y st3=>stO ρ (sixV st3 x y v):=by
 rw [ex]
 refine congrArg _ (funext fun v=>funext fun st1=>congrArg _ (funext fun x=>funext fun st2=>congrArg _ (funext fun y=>funext fun st3=>?_)))
 cases sixV st3 x y v <;> rfl
theorem znU {o i e:Ce}:ex call ρ st (.dput o i e)=(ev call ρ st e).fl ρ fun v st1=>(ev call ρ st1 o).fl ρ fun x st2=>(ev call ρ st2 i).fl ρ fun y st3=>stO ρ (dputV st3 x y v):=by
 rw [ex]
 refine congrArg _ (funext fun v=>funext fun st1=>congrArg _ (funext fun x=>funext fun st2=>congrArg _ (funext fun y=>funext fun st3=>?_)))
 cases dputV st3 x y v <;> rfl
theorem zoP {i:Nat}{o:BOp}{e:Ce}{x:PV}(h:ρ[i]?=some (some x)):ex call ρ st (.aug i o e)=(ev call ρ st e).fl ρ fun y st1=>nxO ((augV o x y).map fun z=>ρ.set i (some z)) st1:=by
 rw [ex,h]
 show (ev call ρ st e).fl ρ _=_
 refine congrArg _ (funext fun y=>funext fun st1=>?_)
 cases augV o x y <;> rfl
end
end IC
namespace WK
open IC PySem
noncomputable def chS (c:Nat):Str:=⟨#[c]⟩
noncomputable def cellV (c:Nat)(i:Int):PV:=.tup [.str (chS c),.int i]
noncomputable abbrev Mem:=Nat->Int->Int
noncomputable def upd (M:Mem)(c:Nat)(i v:Int):Mem:=fun d j=>if d=c/\j=i then v else M d j
def Rel (kvs:List (PV×PV))(M:Mem):Prop:=∀c i,(look (cellV c i) kvs).getD (.int 0)=.int (M c i)
noncomputable abbrev Cel:=Nat×Int
inductive Rw where
 | mark (d:Int)|ask (x:Cel)|set (t:Cel) (d:Int)|move (t x:Cel)|bare (t x:Cel)|twice (t x:Cel)|half (t x:Cel)
 | sum (t x y:Cel)|less (t x y:Cel)|both (t x y:Cel)|any (t x y:Cel)|odd (t x y:Cel)
theorem zl9 {st:Store}{n:Nat}{o:Ob}(h:st[n]?=some o):st=st.set n o:=by
 refine List.ext_getElem? fun i=>?_
 rw [List.getElem?_set]
 split
 ·rename_i e
  subst e
  split
  ·exact h
  ·rename_i z
   rw [List.getElem?_eq_none (by omega)] at h
   cases h
 ·rfl
theorem zgp (i:Int):shp (.int i)=true:=rfl
section
variable {st:Store}{k:Bool}{a b c d e:PV}{r:List PV}{i j:Int}
theorem ix0:idxV st (.tp k (a::r)) (.int 0)=some a:=by simp [idxV,idxI,at?,ixI]
theorem ix1:idxV st (.tp k (a::b::r)) (.int 1)=some b:=by
 have:(1:Int)<(r.length:Int)+1+1:=by omega
 simp [idxV,idxI,at?,ixI,this]
theorem ix2:idxV st (.tp k (a::b::c::r)) (.int 2)=some c:=by
 have:(2:Int)<(r.length:Int)+1+1+1:=by omega
 simp [idxV,idxI,at?,ixI,this]
theorem ix3:idxV st (.tp k (a::b::c::d::r)) (.int 3)=some d:=by
 have:(3:Int)<(r.length:Int)+1+1+1+1:=by omega
 simp [idxV,idxI,at?,ixI,this]
theorem b_add:binV .add (.int i) (.int j)=some (.int (i+j)):=rfl
theorem b_sub:binV .sub (.int i) (.int j)=some (.int (i - j)):=rfl
theorem znl (h:i.natAbs<18446744073709551616 \/ j.natAbs<18446744073709551616):binV .mul (.int i) (.int j)=some (.int (i*j)):=by
 have:CMulB i j=true:=by simpa [CMulB] using h
 simp [binV,binI,this]
theorem zkQ (h:i.natAbs<18446744073709551616):binV .mul (.int i) (.int j)=some (.int (i*j)):=znl (.inl h)
theorem zhe (h:j.natAbs<18446744073709551616):binV .mul (.int i) (.int j)=some (.int (i*j)):=znl (.inr h)
theorem b_mul2:binV .mul (.int 2) (.int j)=some (.int (2*j)):=znl (.inl (by decide))
theorem b_div2:binV .fdiv (.int i) (.int 2)=some (.int (i / 2)):=rfl
theorem znC (h:0<j):binV .mod (.int i) (.int j)=some (.int (i % j)):=by simp [binV,binI,h]
theorem toR_some {v:PV}:toR (some v) st=.ok v st:=rfl
theorem c_ne:cmpV .ne (.int i) (.int j)=some (.bl (!(i == j))):=by simp [cmpV,zgp,peq]
theorem c_eq:cmpV .eq (.int i) (.int j)=some (.bl (i == j)):=by simp [cmpV,zgp,peq]
theorem c_lt:cmpV .lt (.int i) (.int j)=some (.bl (decide (i<j))):=rfl
theorem c_le:cmpV .le (.int i) (.int j)=some (.bl (decide (i<=j))):=rfl
theorem c_gt:cmpV .gt (.int i) (.int j)=some (.bl (decide (j<i))):=rfl
theorem c_ge:cmpV .ge (.int i) (.int j)=some (.bl (decide (j<=i))):=rfl
theorem t_bl {b:Bool}:truV st (.bl b)=some b:=rfl
theorem on_t {f:Bool->Fl}{b:Bool}:onF (some b) f=f b:=rfl
theorem ono {α:Type}{f:Bool->R α}{b:Bool}:onO (some b) f=f b:=rfl
theorem zhj {ρ:IC.Env}:stO ρ (some st)=.nx ρ st:=rfl
theorem nxO_some {ρ:IC.Env}:nxO (some ρ) st=.nx ρ st:=rfl
theorem fl_ok {α:Type}{a:α}{ρ:IC.Env}{k:α->Store->Fl}:(R.ok a st).fl ρ k=k a st:=rfl
theorem bd_ok {α β:Type}{a:α}{k:α->Store->R β}:(R.ok a st).bind k=k a st:=rfl
theorem th_nx {ρ:IC.Env}{k:IC.Env->Store->Fl}:thenF (.nx ρ st) k=k ρ st:=rfl
theorem th_rt {v:PV}{k:IC.Env->Store->Fl}:thenF (.rt v st) k=.rt v st:=rfl
theorem fl_exc {α:Type}{c:Nat}{ρ:IC.Env}{k:α->Store->Fl}:(R.exc c st:R α).fl ρ k=.exc c ρ st:=rfl
theorem bd_exc {α β:Type}{c:Nat}{k:α->Store->R β}:(R.exc c st:R α).bind k=.exc c st:=rfl
theorem th_exc {c:Nat}{ρ:IC.Env}{k:IC.Env->Store->Fl}:thenF (.exc c ρ st) k=.exc c ρ st:=rfl
theorem noLocs_ints:∀(l:List Int),noLocs (l.map PV.int)=true
 | []=>rfl
 |_::l=>by simp [noLocs,noLoc,noLocs_ints l]
theorem bT_n {i:Nat}{v:PV}{ρ:IC.Env}:bindT (.n i) v ρ=some (ρ.set i (some v)):=rfl
theorem mget {o k d:PV}:mthV .get st o [k,d]=getV st o k d:=rfl
end
end WK
local macro_rules | `(tactic| dsimp! [$xs,*])=>`(tactic| simp only [IC.CMulB,IC.R.bind,IC.R.fl,IC.at?,IC.binI,IC.binV,IC.cmpI,IC.cmpV,IC.ev.eq_1,IC.ev.eq_16,IC.ev.eq_18,IC.ev.eq_2,IC.ev.eq_3,IC.ev.eq_8,IC.evs,IC.idxI,IC.idxV,IC.ixI,IC.nxO,IC.onBl,IC.onF,IC.thenF,IC.toR,IC.truV,IC.x_ite,IC.x_six,IC.xs_cons,IC.xs_nil,List.getElem?_cons_succ,List.getElem?_cons_zero,List.set_cons_succ,List.set_cons_zero,$xs,*])
local macro_rules | `(tactic| simp_all! [$xs,*])=>`(tactic| simp only [IC.CMulB,IC.R.bind,IC.at?,IC.binI,IC.binV,IC.cmpI,IC.cmpV,IC.ev.eq_1,IC.ev.eq_16,IC.ev.eq_2,IC.ev.eq_3,IC.ev.eq_6,IC.ev.eq_7,IC.ev.eq_8,IC.idxI,IC.idxV,IC.ixI,IC.onBl,IC.toR,List.getElem?_cons_succ,List.getElem?_cons_zero,$xs,*])
local macro_rules | `(tactic| simp? [$xs,*])=>`(tactic| simp only [IC.R.fl,IC.thenF,IC.x_ret,IC.xs_cons,IC.xs_nil,List.cons_append,List.getElem?_cons_zero,List.length_cons,List.length_nil,List.map_cons,List.map_nil,List.nil_append,List.replicate,Nat.reduceSub,if_true,$xs,*])
namespace WK
open IC PySem
mutual
noncomputable def tam (d m:Nat):PV->Bool
 | .non=>true
 | .bl _=>true
 | .int _=>true
 | .str s=>s.cps.toList.all (· < 128) && decide (s.cps.toList.length<=m)
 | .tp _ xs=>decide (0<d) && (decide (xs.length<=m) && tams (d - 1) m xs)
 | .lst xs=>decide (0<d) && (decide (xs.length<=m) && tams (d - 1) m xs)
 |_=>false
noncomputable def tams (d m:Nat):List PV->Bool
 | []=>true
 |x::xs=>tam d m x && tams d m xs
end
theorem zfg (d m:Nat):∀xs:List PV,tams d m xs=true ↔ ∀x∈xs,tam d m x=true
 | []=>by simp [tams]
 |x::xs=>by simp [tams,zfg d m xs]
mutual
theorem zU (d m:Nat):∀v:PV,tam d m v=true->noLoc v=true
 | .non,_=>rfl
 | .bl _,_=>rfl
 | .int _,_=>rfl
 | .str _,_=>rfl
 | .tp _ xs,h=>by simp only [tam,Bool.and_eq_true] at h;simp only [noLoc];exact zfu (d - 1) m xs h.2.2
 | .lst xs,h=>by simp only [tam,Bool.and_eq_true] at h;simp only [noLoc];exact zfu (d - 1) m xs h.2.2
 | .loc _,h=>by simp [tam] at h
 | .exn _,h=>by simp [tam] at h
 | .scr _,h=>by simp [tam] at h
theorem zfu (d m:Nat):∀v:List PV,tams d m v=true->noLocs v=true
 | [],_=>rfl
 |x::xs,h=>by
  simp only [tams,Bool.and_eq_true] at h
  simp only [noLocs,Bool.and_eq_true]
  exact ⟨zU d m x h.1,zfu d m xs h.2⟩
end
theorem lt128 {s:Str}(h:s.cps.toList.all (· < 128)=true):s.cps.all (· < 0x110000)=true:=by
 rw [<- Array.all_toList]
 rw [List.all_eq_true] at h ⊢
 intro x hx
 have:=h x hx
 simp only [decide_eq_true_eq] at this ⊢
 omega
mutual
theorem zjO (d m:Nat):∀(v:PV) (n:Nat),tam d m v=true->d<=n->shd n v=true
 | .non,n,_,_=>rfl
 | .bl _,n,_,_=>rfl
 | .int _,n,_,_=>rfl
 | .str s,n,h,_=>by simp only [tam,Bool.and_eq_true] at h;exact lt128 h.1
 | .tp _ xs,n,h,l=>by
  simp only [tam,Bool.and_eq_true,decide_eq_true_eq] at h
  simp only [shd,Bool.and_eq_true,decide_eq_true_eq]
  exact ⟨by omega,zf9 (d - 1) m xs (n - 1) h.2.2 (by omega)⟩
 | .lst xs,n,h,l=>by
  simp only [tam,Bool.and_eq_true,decide_eq_true_eq] at h
  simp only [shd,Bool.and_eq_true,decide_eq_true_eq]
  exact ⟨by omega,zf9 (d - 1) m xs (n - 1) h.2.2 (by omega)⟩
 | .loc _,n,h,_=>by simp [tam] at h
 | .exn _,n,h,_=>by simp [tam] at h
 | .scr _,n,h,_=>by simp [tam] at h
theorem zf9 (d m:Nat):∀(v:List PV) (n:Nat),tams d m v=true->d<=n->shds n v=true
 | [],n,_,_=>rfl
 |x::xs,n,h,l=>by
  simp only [tams,Bool.and_eq_true] at h
  simp only [shds,Bool.and_eq_true]
  exact ⟨zjO d m x n h.1 l,zf9 d m xs n h.2 l⟩
end
mutual
theorem zbL {d m d' m':Nat}(hd:d<=d')(hm:m<=m'):∀v:PV,tam d m v=true->tam d' m' v=true
 | .non,_=>rfl
 | .bl _,_=>rfl
 | .int _,_=>rfl
 | .str s,h=>by simp only [tam,Bool.and_eq_true,decide_eq_true_eq] at h ⊢;exact ⟨h.1,by omega⟩
 | .tp _ xs,h=>by
  simp only [tam,Bool.and_eq_true,decide_eq_true_eq] at h ⊢
  exact ⟨by omega,by omega,ziS (by omega) hm xs h.2.2⟩
 | .lst xs,h=>by
  simp only [tam,Bool.and_eq_true,decide_eq_true_eq] at h ⊢
  exact ⟨by omega,by omega,ziS (by omega) hm xs h.2.2⟩
 | .loc _,h=>by simp [tam] at h
 | .exn _,h=>by simp [tam] at h
 | .scr _,h=>by simp [tam] at h
theorem ziS {d m d' m':Nat}(hd:d<=d')(hm:m<=m'):∀v:List PV,tams d m v=true->tams d' m' v=true
 | [],_=>rfl
 |x::xs,h=>by
  simp only [tams,Bool.and_eq_true] at h ⊢
  exact ⟨zbL hd hm x h.1,ziS hd hm xs h.2⟩
end
theorem zap {d m:Nat}{k:Bool}{xs:List PV}:tam d m (.tp k xs)=true ↔ 0<d/\xs.length<=m/\∀x∈xs,tam (d - 1) m x=true:=by
 simp only [tam,Bool.and_eq_true,decide_eq_true_eq,zfg]
theorem znq {d m:Nat}{xs:List PV}:tam d m (.lst xs)=true ↔ 0<d/\xs.length<=m/\∀x∈xs,tam (d - 1) m x=true:=by
 simp only [tam,Bool.and_eq_true,decide_eq_true_eq,zfg]
theorem zdv {d m:Nat}{v:PV}(h:tam d m v=true)(hd:d<=60):shp v=true:=zjO d m v 60 h hd
theorem zjd (f:PV->Bool):∀xs:List PV,allB (xs.map fun x=>.bl (f x))=some (xs.all f)
 | []=>rfl
 |x::xs=>by simp [allB,zjd f xs]
theorem zcc (ys:List PV)(h:ys.length<=1000000)(st:Store):lstR (.ok ys st)=.ok (.lst ys) st:=by simp [lstR,h]
theorem zdr (f:PV->Bool)(xs:List PV)(st:Store):bltV .all st [.lst (xs.map fun x=>.bl (f x))]=some (.bl (xs.all f)):=by
 simp [bltV,lstOf,zjd]
theorem zek (n:Nat)(h:n<1000):rng1 (.int (n:Int))=some (rangeL n 0 1):=by
 simp [rng1];omega
theorem zfD {z:Int}(h:0<=z):∃n:Nat,z=n:=⟨z.toNat,by omega⟩
noncomputable def outP (st:Store)(f:Fl):R PV :=
 match f with
 | .rt v _=>if noLoc v then .ok v st else .bad
 | .nx _ _=>.ok .non st
 | .exc c _ _=>.exc c st
 |_=>.bad
theorem zY {T:Nat->Option IC.Fn}{k f:Nat}{fn:IC.Fn}{args:List PV}{st:Store}(hT:T f=some fn)(hp:fn.pure=true)(hl:args.length=fn.np)(hn:noLocs args=true) :
  callT T (k+1) f args st=outP st (exs (callT T k) (args.map some++List.replicate (fn.ns - fn.np) none) [] fn.body):=by
 rw [callT,hT]
 dsimp only
 rw [if_pos hl,if_pos hp,if_pos hn]
 rfl
noncomputable def outI (f:Fl):R PV :=
 match f with
 | .rt v st1=>.ok v st1
 | .nx _ st1=>.ok .non st1
 | .exc c _ st1=>.exc c st1
 |_=>.bad
theorem zaC {T:Nat->Option IC.Fn}{k f:Nat}{fn:IC.Fn}{args:List PV}{st:Store}(hT:T f=some fn)(hp:fn.pure=false)(hl:args.length=fn.np) :
  callT T (k+1) f args st=outI (exs (callT T k) (args.map some++List.replicate (fn.ns - fn.np) none) st fn.body):=by
 rw [callT,hT]
 dsimp only
 rw [if_pos hl,hp,if_neg (by simp)]
 rfl
theorem zbR {st:Store}{v:PV}:outI (.rt v st)=.ok v st:=rfl
theorem zr {st s:Store}{b:Bool}:outP st (.rt (.bl b) s)=.ok (.bl b) st:=rfl
theorem zky {α:Type}{xs:List α}{lo hi:Option Int}{x:α}(h:x∈cut xs lo hi):x∈xs:=List.mem_of_mem_drop (List.mem_of_mem_take h)
theorem zj7 {α:Type}(xs:List α)(lo hi:Option Int):(cut xs lo hi).length<=xs.length:=by
 unfold cut
 rw [List.length_take,List.length_drop]
 omega
theorem zjb {k:Bool}{xs:List PV}(a b:Option Int):∃j ys,slcO (.tp k xs) a b=some (.tp j ys)/\ys.length<=xs.length/\∀y∈ys,y∈xs:=by
 simp only [slcO]
 split
 ·exact ⟨k,xs,rfl,Nat.le_refl _,fun _ h=>h⟩
 ·exact ⟨false,_,rfl,zj7 xs a b,fun _ h=>zky h⟩
theorem zjS {k j:Bool}{a b:List PV}(h:a.length+b.length<=sizeMax):∃i ys,binV .add (.tp k a) (.tp j b)=some (.tp i ys)/\ys.length=a.length+b.length/\∀y∈ys,y∈a \/ y∈b:=by
 simp only [binV,if_pos h,catT]
 cases a with
 |nil=>exact ⟨j,b,rfl,by simp,fun y h=>.inr h⟩
 |cons x a =>
  cases b with
  |nil=>exact ⟨k,x::a,rfl,by simp,fun y h=>.inl h⟩
  |cons z b=>exact ⟨false,_,rfl,by rw [List.length_append],fun y h=>List.mem_append.1 h⟩
noncomputable def primes:PV:=.tup [.int 2147483647,.int 2147483629,.int 2147483587,.int 2147483579,.int 2147483563]
noncomputable def mixB:Css:=match f_qmixed.body with
 | .cons _ (.cons _ (.cons (.for _ _ b) _))=>b
 |_=>.nil
theorem zgH {c:Cl}{s num g p:Int}{i:Nat}{u5 u6 u7:Option PV}(hg:∀st,idxV st (.tup [.int 11,.int 101,.int 1009,.int 10007,.int 100003]) (.int i)=some (.int g))(hi:i<5)(hp:0<p)(hp2:p<18446744073709551616) :
  ∃num' v5 v6 v7,exs c [some (.int s),some primes,some (.int num),some (.int i),some (.int p),u5,u6,u7] [] mixB=.nx [some (.int s),some primes,some (.int num'),some (.int i),some (.int p),v5,v6,v7] []:=by
 have h1:∀z:Int,binV .mul (.int z) (.int (48271+2*(i:Int)))=some (.int (z*(48271+2*(i:Int)))):=fun z=>zhe (by omega)
 have h2:∀z y:Int,binV .mul (.int z) (.int (y % p))=some (.int (z*(y % p))):=fun z y=>zhe (by
  have a:=Int.emod_nonneg y (show p≠0 by omega)
  have b:=Int.emod_lt_of_pos y hp
  omega)
 have h3:∀z:Int,binV .mul (.int z) (.int p)=some (.int (z*p)):=fun z=>zhe (by omega)
 simp only [mixB,f_qmixed,List.length_cons,List.length_nil,Nat.zero_add,Nat.reduceAdd,if_true,xs_cons,xs_nil,x_asg,ev.eq_1,ev.eq_2,ev.eq_3,ev.eq_11,ev.eq_16,evs,List.getElem?_cons_zero,List.getElem?_cons_succ,bd_ok,fl_ok,toR_some,bT_n,nxO_some,th_nx,List.set_cons_zero,List.set_cons_succ,sizeMax,Nat.reduceLeDiff,b_add,b_mul2,hg,h1,h2,h3,znC hp]
 exact ⟨_,_,_,_,rfl⟩
theorem zlK {c:Cl}{s num:Int}{u5 u6 u7:Option PV}(i:Nat)(p:Int)(h:(i,p)∈[(0,(2147483647:Int)),(1,2147483629),(2,2147483587),(3,2147483579),(4,2147483563)]) :
  ∃num' v5 v6 v7,exs c [some (.int s),some primes,some (.int num),some (.int i),some (.int p),u5,u6,u7] [] mixB=.nx [some (.int s),some primes,some (.int num'),some (.int i),some (.int p),v5,v6,v7] []:=by
 simp only [List.mem_cons,Prod.mk.injEq,List.not_mem_nil,or_false] at h
 rcases h with ⟨rfl,rfl⟩|⟨rfl,rfl⟩|⟨rfl,rfl⟩|⟨rfl,rfl⟩|⟨rfl,rfl⟩
 ·exact zgH (fun _=>rfl) (by decide) (by decide) (by decide)
 ·exact zgH (fun _=>rfl) (by decide) (by decide) (by decide)
 ·exact zgH (fun _=>rfl) (by decide) (by decide) (by decide)
 ·exact zgH (fun _=>rfl) (by decide) (by decide) (by decide)
 ·exact zgH (fun _=>rfl) (by decide) (by decide) (by decide)
noncomputable def mixL:List PV:=[.tup [.int 0,.int 2147483647],.tup [.int 1,.int 2147483629],.tup [.int 2,.int 2147483587],.tup [.int 3,.int 2147483579],.tup [.int 4,.int 2147483563]]
theorem mixed (k:Nat)(s:Int)(st:Store):∃num,callT T (k+1) zi0 [.int s] st=.ok (.int num) st:=by
 obtain ⟨ρ',st',h,num,a,b,c,d,e,e1,e2⟩:=zi3 (call:=callT T k) (t:=.t [3,4]) (b:=mixB) (fun _ ρ st=>∃num a b c d e,ρ=[some (.int s),some primes,some (.int num),a,b,c,d,e]/\st=[]) mixL 0 [some (.int s),some primes,some (.int 0),none,none,none,none,none] [] ⟨_,_,_,_,_,_,rfl,rfl⟩ (by
  rintro j x ρ st hx ⟨num,a,b,c,d,e,rfl,rfl⟩
  have hx:=List.mem_of_getElem? hx
  have hx:∃i p,x=.tup [.int ((i:Nat):Int),.int p]/\(i,p)∈[(0,(2147483647:Int)),(1,2147483629),(2,2147483587),(3,2147483579),(4,2147483563)]:=by
   simp only [mixL,List.mem_cons,List.not_mem_nil,or_false] at hx
   rcases hx with rfl|rfl|rfl|rfl|rfl
   ·exact ⟨0,_,rfl,by simp⟩
   ·exact ⟨1,_,rfl,by simp⟩
   ·exact ⟨2,_,rfl,by simp⟩
   ·exact ⟨3,_,rfl,by simp⟩
   ·exact ⟨4,_,rfl,by simp⟩
  obtain ⟨i,p,rfl,hm⟩:=hx
  obtain ⟨num',v5,v6,v7,hh⟩:=zlK (c:=callT T k) (s:=s) (num:=num) (u5:=c) (u6:=d) (u7:=e) i p hm
  exact ⟨_,_,_,rfl,hh,_,_,_,_,_,_,rfl,rfl⟩)
 subst e1 e2
 refine ⟨num,?_⟩
 rw [callT]
 have hb:f_qmixed.body=.cons (.asg (.n 1) (.tup (.cons (.cst (.int 2147483647)) (.cons (.cst (.int 2147483629)) (.cons (.cst (.int 2147483587)) (.cons (.cst (.int 2147483579)) (.cons (.cst (.int 2147483563)) .nil))))))) (.cons (.asg (.n 2) (.cst (.int 0))) (.cons (.for (.t [3,4]) (.enum (.var 1)) mixB) (.cons (.ret (.var 2)) .nil))):=rfl
 have hT:T zi0=some ⟨1,8,true,f_qmixed.body⟩:=rfl
 have hp:PV.tup [.int 2147483647,.int 2147483629,.int 2147483587,.int 2147483579,.int 2147483563]=primes:=rfl
 rw [hT,hb]
 have h5:ev (callT T k) [some (.int s),none,none,none,none,none,none,none] [] (.tup (.cons (.cst (.int 2147483647)) (.cons (.cst (.int 2147483629)) (.cons (.cst (.int 2147483587)) (.cons (.cst (.int 2147483579)) (.cons (.cst (.int 2147483563)) .nil))))))=.ok primes []:=by
  simp [ev.eq_1,ev.eq_11,evs,R.bind,sizeMax,primes]
 have he:evi (callT T k) [some (.int s),some primes,some (.int 0),none,none,none,none,none] [] (.enum (.var 1))=.ok mixL []:=by
  simp [evi,ev.eq_2,R.bind,primes,pairsUp,mixL]
 simp? [noLocs,noLoc,Bool.and_self,x_asg,x_for,h5,bindT,nxO,List.set_cons_zero,List.set_cons_succ,ev.eq_1,he,h,ev.eq_2,List.getElem?_cons_succ]
theorem rdS {st:Store}{n:Nat}{o x:Ob}(h:st[n]?=some o):(st.set n x)[n]?=some x:=by
 have:n<st.length:=by
  rcases Nat.lt_or_ge n st.length with h1|h1
  ·exact h1
  ·rw [List.getElem?_eq_none h1] at h;cases h
 rw [List.getElem?_set_self this]
theorem fill (k n:Nat)(ns:List Int)(hns:ns.length<=1000)(a p:Int)(ha:0<=a)(f:Bool)(st:Store)(h:st[n]?=some (.lst [.lst (ns.map .int),.int a,.int p,.bl f])) :
  ∃p' f',callT T (k+2) zj9 [.loc n] st=.ok .non (st.set n (.lst [.lst (ns.map .int),.int (a+1),.int p',.bl f'])):=by
 rw [callT,show T zj9=some zeM from rfl]
 by_cases hn:ns=[]
 ·subst hn
  obtain ⟨q,hq⟩:=mixed k (31*a+7) (st.set n (.lst [.lst [],.int (a+1),.int p,.bl true]))
  have h':st[n]?=some (.lst [.lst [],.int a,.int p,.bl f]):=h
  refine ⟨q,true,?_⟩
  dsimp! [zeM,List.length_cons,List.length_nil,if_true,List.map_cons,List.map_nil,Nat.reduceSub,List.replicate,List.cons_append,List.nil_append,x_asg,stO,ev.eq_7,ev.eq_11,ev.eq_19,bindT,h,rdS h,sizeMax,sixV,bltV,lenV,seqOf,ha,decide_true,cond_true]
  simp [ha,h',rdS h',hq]
 ·have h0:0<ns.length:=List.length_pos_iff.2 hn
  have h1:=Int.emod_nonneg a (show (ns.length:Int)≠0 by omega)
  have h2:=Int.emod_lt_of_pos a (show (0:Int)<ns.length by omega)
  have h3:(a % (ns.length:Int)).toNat<ns.length:=by omega
  obtain ⟨v,hv⟩:∃v,ns[(a % (ns.length:Int)).toNat]?=some v:=⟨_,List.getElem?_eq_getElem h3⟩
  have hw:ns[(a % (ns.length:Int)).toNat]'h3=v:=by rw [List.getElem?_eq_getElem h3] at hv;exact Option.some.inj hv
  have h4:(ns.length:Int)<10000000000000000000000000000000000000000000000000000000000000000000000:=by omega
  have h5:(0:Int)<ns.length:=by omega
  by_cases hf:(ns.length:Int)<=a \/ 104729*(a / (ns.length:Int))+v<1000000000000000000
  ·obtain ⟨q,hq⟩:=mixed k (104729*(a / (ns.length:Int))+v) (st.set n (.lst [.lst (ns.map .int),.int (a+1),.int p,.bl true]))
   refine ⟨q,true,?_⟩
   rcases Classical.em ((ns.length:Int)<=a) with hg|hg
   ·dsimp! [zeM,List.length_cons,List.length_nil,if_true,List.map_cons,List.map_nil,Nat.reduceSub,List.replicate,List.cons_append,List.nil_append,x_asg,stO,ev.eq_7,ev.eq_11,ev.eq_19,bindT,h,rdS h,sizeMax,sixV,bltV,lenV,seqOf,List.length_map,h5,h1,h2,h4,hg,and_self,decide_true,cond_true,List.getElem?_map,hv,Option.bind_some,Option.map_some]
    simp [h,rdS h,hq,h0,h1,h2,h4,hv,hw,hg]
   ·have hf:=hf.resolve_left hg
    dsimp! [zeM,List.length_cons,List.length_nil,if_true,List.map_cons,List.map_nil,Nat.reduceSub,List.replicate,List.cons_append,List.nil_append,x_asg,stO,ev.eq_7,ev.eq_11,ev.eq_19,bindT,h,rdS h,sizeMax,sixV,bltV,lenV,seqOf,List.length_map,h5,h1,h2,h4,hg,hf,and_self,decide_true,cond_true,List.getElem?_map,hv,Option.bind_some,Option.map_some]
    simp [h,rdS h,hq,h0,h1,h2,h4,hv,hw,hg,hf]
  ·have hg:¬(ns.length:Int)<=a:=fun z=>hf (.inl z)
   have hf:¬104729*(a / (ns.length:Int))+v<1000000000000000000:=fun z=>hf (.inr z)
   refine ⟨104729*(a / (ns.length:Int))+v - 1000000000000000000,false,?_⟩
   dsimp! [zeM,List.length_cons,List.length_nil,if_true,List.map_cons,List.map_nil,Nat.reduceSub,List.replicate,List.cons_append,List.nil_append,x_asg,stO,ev.eq_7,ev.eq_11,ev.eq_19,bindT,h,rdS h,sizeMax,sixV,bltV,lenV,seqOf,List.length_map,h5,h1,h2,h4,hg,hf,and_self,decide_true,cond_true,List.getElem?_map,hv,Option.bind_some,Option.map_some]
   simp [h,rdS h,h0,h1,h2,h4,hv,hw,hg,hf]
noncomputable def takeC:Ce:=match f_qtake.body with
 | .cons _ (.cons (.while c _) _)=>c
 |_=>.nope
noncomputable def takeB:Css:=match f_qtake.body with
 | .cons _ (.cons (.while _ b) _)=>b
 |_=>.nil
theorem zk0 {c:Cl}{n:Nat}{ns:List Int}{a p m t:Int}{f:Bool}{u:Option PV}{st:Store}(h:st[n]?=some (.lst [.lst (ns.map .int),.int a,.int p,.bl f])) :
  ∃B,ev c [some (.loc n),some (.int m),some (.int t),u] st takeC=.ok (.bl B) st/\(B=true->t<64):=by
 by_cases h1:t<64
 ·by_cases h2:p=0
  ·refine ⟨true,?_,fun _=>h1⟩
   simp_all! [takeC,f_qtake,h]
   simp [h1,h2,zgp,peq]
  ·have h2:(p == 0)=false:=by simp [h2]
   cases f
   ·refine ⟨false,?_,fun _=>h1⟩
    simp_all! [takeC,f_qtake,h]
    simp [h,h1,h2,zgp,peq]
   ·refine ⟨decide (p<m*4096),?_,fun _=>h1⟩
    simp_all! [takeC,f_qtake,h]
    simp [h,h1,h2,zgp,peq]
 ·refine ⟨false,?_,fun z=>by cases z⟩
  simp_all! [takeC,f_qtake,h]
  simp [h1]
theorem zkq (k:Nat){n:Nat}{ns:List Int}(hns:ns.length<=1000){a p m t:Int}(ha:0<=a){f:Bool}{u:Option PV}{st:Store}(h:st[n]?=some (.lst [.lst (ns.map .int),.int a,.int p,.bl f])) :
  ∃p' f',exs (callT T (k+2)) [some (.loc n),some (.int m),some (.int t),u] st takeB=.nx [some (.loc n),some (.int m),some (.int (t+1)),u] (st.set n (.lst [.lst (ns.map .int),.int (a+1),.int p',.bl f'])):=by
 obtain ⟨q,g,hq⟩:=fill k n ns hns a p ha f st h
 have hm:(1+q % 4093).natAbs<18446744073709551616:=by omega
 have hau:∀st,ex (callT T (k+2)) [some (.loc n),some (.int m),some (.int t),u] st (.aug 2 .add (.cst (.int 1)))=.nx [some (.loc n),some (.int m),some (.int (t+1)),u] st:=fun st=>by
  rw [zoP (x:=.int t) rfl]
  simp [ev.eq_1,R.fl,augV,binV,binI,nxO]
 cases g
 ·refine ⟨q,false,?_⟩
  dsimp! [takeB,f_qtake,x_expr,hau,ev.eq_6,hq,augV,Option.map_some,rdS h]
  simp [rdS h]
 ·by_cases hl:q<m*4096
  ·refine ⟨q+m*4096*(1+q % 4093),true,?_⟩
   dsimp! [takeB,f_qtake,x_expr,hau,ev.eq_6,hq,augV,Option.map_some,rdS h,stO,sixV]
   simp [rdS h,hl,hm]
  ·refine ⟨q,true,?_⟩
   dsimp! [takeB,f_qtake,x_expr,hau,ev.eq_6,hq,augV,Option.map_some,rdS h]
   simp [rdS h,hl]
theorem zim (k:Nat){n:Nat}{ns:List Int}(hns:ns.length<=1000){m:Int}{u:Option PV}:∀(r N:Nat) (t a p:Int) (f:Bool) (st:Store),r<=N->64 - t<=r->0<=a->st[n]?=some (.lst [.lst (ns.map .int),.int a,.int p,.bl f]) ->
  ∃t' a' p' f',0<=a'/\whileB (callT T (k+2)) takeC takeB (N+1) [some (.loc n),some (.int m),some (.int t),u] st=.nx [some (.loc n),some (.int m),some (.int t'),u] (st.set n (.lst [.lst (ns.map .int),.int a',.int p',.bl f']))
 |r,N,t,a,p,f,st,hN,ht,ha,h=>by
  obtain ⟨B,hB,hb⟩:=zk0 (c:=callT T (k+2)) (m:=m) (t:=t) (u:=u) h
  have hs:st.set n (.lst [.lst (ns.map .int),.int a,.int p,.bl f])=st:=by
   refine List.ext_getElem? fun i=>?_
   rw [List.getElem?_set]
   split
   ·rename_i e
    subst e
    split
    ·exact h.symm
    ·rename_i z
     rw [List.getElem?_eq_none (by omega)] at h
     cases h
   ·rfl
  cases B with
  |false=>exact ⟨t,a,p,f,ha,by rw [zix hB rfl,hs]⟩
  |true =>
   have h64:=hb rfl
   match r,N with
   |0,_=>exact absurd ht (by omega)
   |r+1,N+1 =>
    obtain ⟨p1,f1,hx⟩:=zkq k hns (m:=m) (t:=t) ha (u:=u) h
    obtain ⟨t',a',p',f',h0,h2⟩:=zim k hns (m:=m) (u:=u) r N (t+1) (a+1) p1 f1 _ (by omega) (by omega) (by omega) (rdS h)
    refine ⟨t',a',p',f',h0,?_⟩
    rw [zk5 hB rfl hx,h2,List.set_set]
theorem take (k n:Nat)(ns:List Int)(hns:ns.length<=1000)(a p m:Int)(ha:0<=a)(hm:0<m)(hm2:m<10000000000000000000000000000000000000000000000000000000000000000000000)(f:Bool)(st:Store)(h:st[n]?=some (.lst [.lst (ns.map .int),.int a,.int p,.bl f])) :
  ∃d a' p' f',0<=d/\d<m/\0<=a'/\callT T (k+3) zaf [.loc n,.int m] st=.ok (.int d) (st.set n (.lst [.lst (ns.map .int),.int a',.int p',.bl f'])):=by
 obtain ⟨t',a',p',f',h0,h2⟩:=zim k hns (m:=m) (u:=none) 64 99999 0 a p f st (by omega) (by omega) ha h
 refine ⟨p' % m,a',p' / m,f',Int.emod_nonneg _ (by omega),Int.emod_lt_of_pos _ hm,h0,?_⟩
 have hb:f_qtake.body=.cons (.asg (.n 2) (.cst (.int 0))) (.cons (.while takeC takeB) (.cons (.asg (.n 3) (.bin .mod (.idx (.var 0) (.cst (.int 2))) (.var 1))) (.cons (.six (.var 0) (.cst (.int 2)) (.bin .fdiv (.idx (.var 0) (.cst (.int 2))) (.var 1))) (.cons (.ret (.var 3)) .nil)))):=rfl
 have hT:T zaf=some ⟨2,4,false,f_qtake.body⟩:=rfl
 rw [callT,hT,hb]
 simp? [x_asg,zmH,x_six,nxO,stO,ev.eq_1,ev.eq_2,ev.eq_3,ev.eq_16,R.bind,bindT,List.set_cons_zero,List.set_cons_succ,List.getElem?_cons_succ,h2,rdS h,idxV,idxI,at?,ixI,binV,binI,hm,hm2,and_self,toR,sixV]
 simp [rdS h,hm,hm2]
def Drw (ns:List Int)(n:Nat)(st:Store):Prop:=∃a p f,0<=a/\st[n]?=some (.lst [.lst (ns.map .int),.int a,.int p,.bl f])
def Onl (ns:List Int)(n:Nat)(st st':Store):Prop:=∃a p f,0<=a/\st'=st.set n (.lst [.lst (ns.map .int),.int a,.int p,.bl f])
theorem Onl.drw {ns:List Int}{n:Nat}{st st':Store}(h:Drw ns n st)(o:Onl ns n st st'):Drw ns n st':=by
 obtain ⟨a,p,f,ha,h⟩:=h
 obtain ⟨b,q,g,hb,rfl⟩:=o
 exact ⟨b,q,g,hb,rdS h⟩
theorem Onl.trans {ns:List Int}{n:Nat}{st st1 st2:Store}(o:Onl ns n st st1)(o2:Onl ns n st1 st2):Onl ns n st st2:=by
 obtain ⟨b,q,g,hb,rfl⟩:=o
 obtain ⟨c,r,j,hc,rfl⟩:=o2
 exact ⟨c,r,j,hc,by rw [List.set_set]⟩
theorem takeD (k:Nat){n:Nat}{ns:List Int}(hns:ns.length<=1000){m:Int}(hm:0<m)(hm2:m<10000000000000000000000000000000000000000000000000000000000000000000000){st:Store}(h:Drw ns n st) :
  ∃d st',0<=d/\d<m/\Onl ns n st st'/\callT T (k+3) zaf [.loc n,.int m] st=.ok (.int d) st':=by
 obtain ⟨a,p,f,ha,h⟩:=h
 obtain ⟨d,a',p',f',h1,h2,h3,h4⟩:=take k n ns hns a p m ha hm hm2 f st h
 exact ⟨d,_,h1,h2,⟨_,_,_,h3,rfl⟩,h4⟩
theorem fresh (k:Nat)(ns:List Int)(h:ns.length<=63)(st:Store):∃v,callT T (k+1) zhl [.scr (ns.map .int)] st=.ok (.loc st.length) (st++[v])/\v=.lst [.lst (ns.map .int),.int 0,.int 0,.bl false]:=by
 have hT:T zhl=some zf5:=rfl
 refine ⟨_,?_,rfl⟩
 rw [callT,hT]
 simp? [zf5,ev,evs,R.bind,toR]
 have hc:slcV (.scr (ns.map PV.int)) none (.int 63)=some (.lst (ns.map .int)):=by
  have hk:clampI ns.length 63=ns.length:=by
   show min 63 ns.length=ns.length
   omega
  simp [slcV,optI,slcO,cut,loOf,hiOf,hk]
  try rw [<- List.length_map (f:=PV.int),List.take_length]
 simp [optI,onP,hc,sizeMax]
theorem Drw.refl {ns:List Int}{n:Nat}{st:Store}(h:Drw ns n st):Onl ns n st st:=by
 obtain ⟨a,p,f,ha,h⟩:=h
 exact ⟨a,p,f,ha,zl9 h⟩
theorem Drw.pos {ns:List Int}{st:Store}(h:Drw ns 0 st):0<st.length:=by
 obtain ⟨a,p,f,ha,h⟩:=h
 rcases Nat.lt_or_ge 0 st.length with z|z
 ·exact z
 ·rw [List.getElem?_eq_none z] at h;cases h
theorem Drw.app {ns:List Int}{st:Store}(h:Drw ns 0 st)(o:Ob):Drw ns 0 (st++[o]):=by
 have hl:=h.pos
 obtain ⟨a,p,f,ha,h⟩:=h
 exact ⟨a,p,f,ha,by rw [List.getElem?_append_left hl];exact h⟩
theorem Drw.put {ns:List Int}{st:Store}(h:Drw ns 0 st){L:Nat}(hL:L≠0)(o:Ob):Drw ns 0 (st.set L o):=by
 obtain ⟨a,p,f,ha,h⟩:=h
 exact ⟨a,p,f,ha,by rw [List.getElem?_set_ne hL];exact h⟩
theorem Onl.get {ns:List Int}{st st':Store}(o:Onl ns 0 st st'){L:Nat}(hL:L≠0):st'[L]?=st[L]?:=by
 obtain ⟨a,p,f,ha,rfl⟩:=o
 rw [List.getElem?_set_ne (Ne.symm hL)]
theorem zjr (l:List Int):noLocs [PV.scr (l.map .int)]=true:=by simp [noLocs,noLoc,noLocs_ints]
theorem Onl.len {ns:List Int}{n:Nat}{st st':Store}(o:Onl ns n st st'):st'.length=st.length:=by
 obtain ⟨a,p,f,ha,rfl⟩:=o
 rw [List.length_set]
local macro_rules | `(tactic| simp! [$xs,*])=>`(tactic| simp only [IC.xs_cons,IC.xs_nil,IC.x_asg,IC.x_ite,IC.x_ret,IC.x_expr,IC.x_for,IC.x_six,IC.x_try,IC.x_raise,IC.evs,IC.evi,IC.ev.eq_1,IC.ev.eq_2,IC.ev.eq_3,IC.ev.eq_4,IC.ev.eq_5,IC.ev.eq_6,IC.ev.eq_7,IC.ev.eq_8,IC.ev.eq_9,IC.ev.eq_10,IC.ev.eq_11,IC.ev.eq_12,IC.ev.eq_13,IC.ev.eq_14,IC.ev.eq_15,IC.ev.eq_16,IC.ev.eq_17,IC.ev.eq_18,IC.ev.eq_19,IC.ev.eq_20,IC.ev.eq_21,IC.ev.eq_22,IC.ev.eq_24,IC.ev.eq_25,IC.ev.eq_26,IC.v_comp,List.getElem?_cons_zero,List.getElem?_cons_succ,WK.bd_ok,WK.fl_ok,WK.bd_exc,WK.fl_exc,WK.toR_some,IC.toL,WK.bT_n,WK.nxO_some,WK.th_nx,WK.th_rt,WK.th_exc,List.set_cons_zero,List.set_cons_succ,WK.on_t,WK.t_bl,WK.ono,IC.onBl,cond_true,cond_false,List.length_cons,List.length_nil,Nat.zero_add,Nat.reduceAdd,Nat.reduceSub,Nat.reduceLeDiff,if_true,IC.noLoc,IC.noLocs,WK.noLocs_ints,Bool.and_self,Bool.not_true,Bool.not_false,List.map_cons,List.map_nil,List.replicate,List.cons_append,List.nil_append,List.append_nil,Option.bind_none,Option.bind_some,Option.join_some,WK.b_add,WK.b_sub,WK.b_mul2,WK.b_div2,WK.c_lt,WK.c_le,WK.c_gt,WK.c_ge,WK.c_eq,WK.c_ne,IC.PV.tup,IC.sizeMax,$xs,*])
noncomputable def wh (lo hi:Int):PV->Bool
 | .int i=>decide (lo<=i) && decide (i<=hi)
 |_=>false
noncomputable def ltr:PV->Bool
 | .str s=>match s.cps.toList with
  | [c]=>decide (97<=c) && decide (c<=122)
  |_=>false
 |_=>false
noncomputable def told (n:Nat):PV->Bool
 | .tp _ xs=>decide (xs.length=n) && xs.all (wh (-200) 200)
 |_=>false
theorem zeL (k:Nat){d m:Nat}{v:PV}(hv:tam d m v=true)(lo hi:Int)(st:Store):callT T (k+1) zfz [v,.int lo,.int hi] st=.ok (.bl (wh lo hi v)) st:=by
 have hT:T zfz=some zbj:=rfl
 have hn:=zU d m v hv
 rw [zY hT rfl rfl (by simp [noLocs,noLoc,hn])]
 cases v with
 |int i =>
  by_cases h:lo<=i
  ·simp! [zbj,zr,isiV,isTy,isBl,blO,decide_eq_true h,wh,Bool.true_and]
  ·simp! [zbj,zr,isiV,isTy,isBl,blO,decide_eq_false h,wh,Bool.false_and]
 |bl b=>simp! [zbj,zr,isiV,isTy,isBl,wh]
 |non=>simp! [zbj,zr,isiV,isTy,isBl,wh]
 |str s=>simp! [zbj,zr,isiV,isTy,isBl,wh]
 |tp b xs=>simp! [zbj,zr,isiV,isTy,isBl,wh]
 |lst xs=>simp! [zbj,zr,isiV,isTy,isBl,wh]
 |loc _=>simp [tam] at hv
 |exn _=>simp [tam] at hv
 |scr _=>simp [tam] at hv
theorem zmr (c d:Nat):decide ([c] < [d])=decide (c<d):=by
 have:[c] < [d] ↔ c<d:=by
  rw [List.cons_lt_cons_iff]
  simp
 exact decide_eq_decide.mpr this
theorem zoK:(Str.ofString "a").cps.toList=[97]:=by decide +kernel
theorem zn5:(Str.ofString "z").cps.toList=[122]:=by decide +kernel
theorem zmn {s:Str}{st:Store}(h:s.cps.toList.length<=1000000):bltV .len st [.str s]=some (.int s.cps.toList.length):=by
 have:s.length=s.cps.toList.length:=by simp [Str.length]
 simp only [bltV,lenV,this]
 rw [if_pos (by simp only [sizeMax];omega)]
theorem zfT (k:Nat){d m:Nat}{v:PV}(hv:tam d m v=true)(hm:m<=1000)(st:Store):callT T (k+1) zgw [v] st=.ok (.bl (ltr v)) st:=by
 have hT:T zgw=some zaA:=rfl
 have hn:=zU d m v hv
 rw [zY hT rfl rfl (by simp [noLocs,noLoc,hn])]
 cases v with
 |str s =>
  simp only [tam,Bool.and_eq_true,decide_eq_true_eq] at hv
  have hl:=zmn (s:=s) (st:=[]) (by omega)
  cases hs:s.cps.toList with
  |nil =>
   rw [hs] at hl
   simp! [zaA,zr,isiV,isTy,isBl,hl,ltr,hs]
   rfl
  |cons c r =>
   cases r with
   |nil =>
    rw [hs] at hl
    have h1:cmpV .le (.str "a") (.str s)=some (.bl (decide (97<=c))):=by
     simp only [cmpV,cmpS,hs,zoK,zmr]
     by_cases q:c<97
     ·rw [decide_eq_true q,decide_eq_false (by omega)];rfl
     ·rw [decide_eq_false q,decide_eq_true (by omega)];rfl
    have h2:cmpV .le (.str s) (.str "z")=some (.bl (decide (c<=122))):=by
     simp only [cmpV,cmpS,hs,zn5,zmr]
     by_cases q:122<c
     ·rw [decide_eq_true q,decide_eq_false (by omega)];rfl
     ·rw [decide_eq_false q,decide_eq_true (by omega)];rfl
    have h0:(((1:Nat):Int) == 1)=true:=rfl
    by_cases q:97<=c
    ·simp! [zaA,zr,isiV,isTy,isBl,hl,h0,ltr,hs,h1,h2,blO,decide_eq_true q,Bool.true_and]
    ·simp! [zaA,zr,isiV,isTy,isBl,hl,h0,ltr,hs,h1,h2,blO,decide_eq_false q,Bool.false_and]
   |cons e r =>
    rw [hs] at hl
    have h0:((((c::e::r:List Nat).length:Nat):Int) == 1)=false:=by
     rw [beq_eq_false_iff_ne]
     simp only [List.length_cons]
     omega
    simp only [List.length_cons] at hl h0
    simp! [zaA,zr,isiV,isTy,isBl,hl,h0,ltr,hs]
 |int i=>simp! [zaA,zr,isiV,isTy,isBl,ltr]
 |bl b=>simp! [zaA,zr,isiV,isTy,isBl,ltr]
 |non=>simp! [zaA,zr,isiV,isTy,isBl,ltr]
 |tp b xs=>simp! [zaA,zr,isiV,isTy,isBl,ltr]
 |lst xs=>simp! [zaA,zr,isiV,isTy,isBl,ltr]
 |loc _=>simp [tam] at hv
 |exn _=>simp [tam] at hv
 |scr _=>simp [tam] at hv
theorem zdO (a b:Nat):cmpV .ne (.int a) (.int b)=some (.bl (!decide (a=b))):=by
 rw [c_ne]
 by_cases h:a=b
 ·subst h;simp
 ·rw [decide_eq_false h,show ((a:Int) == b)=false by rw [beq_eq_false_iff_ne];omega]
theorem zy {k:Bool}{xs:List PV}{st:Store}:bltV .len st [.tp k xs]=some (.int xs.length):=rfl
theorem zcz (k:Nat){d m:Nat}{v:PV}(hv:tam d m v=true)(hm:m<=1000)(n:Nat)(st:Store):callT T (k+2) zcb [v,.int n] st=.ok (.bl (told n v)) st:=by
 have hT:T zcb=some zbk:=rfl
 have hn:=zU d m v hv
 rw [zY hT rfl rfl (by simp [noLocs,noLoc,hn])]
 cases v with
 |tp b xs =>
  obtain ⟨h0,h1,h2⟩:=zap.1 hv
  have hc:compB (callT T (k+1)) [none] (.n 0) (.cst (.bl true)) (.call zfz (.cons (.var 0) (.cons (.neg (.cst zcD)) (.cons (.cst zcD) .nil)))) xs []=.ok (xs.map fun x=>.bl (wh (-200) 200 x)) []:=by
   refine zbE _ fun p hp=>?_
   have:=zeL k (h2 p hp) (-200) 200 []
   have hv:zcD=.int 200:=rfl
   simp! [oneB,hv,this]
  have hne:=zdO xs.length n
  by_cases h:xs.length=n
  ·rw [decide_eq_true h] at hne
   simp! [zbk,zr,isiV,isTy,isBl,zy,hne,hc]
   rw [zcc _ (by rw [List.length_map];omega)]
   simp! [zdr,zr,told,decide_eq_true h,Bool.true_and]
  ·rw [decide_eq_false h] at hne
   simp! [zbk,zr,isiV,isTy,isBl,zy,hne,told,decide_eq_false h,Bool.false_and]
 |int i=>simp! [zbk,zr,isiV,isTy,isBl,told]
 |bl b=>simp! [zbk,zr,isiV,isTy,isBl,told]
 |non=>simp! [zbk,zr,isiV,isTy,isBl,told]
 |str s=>simp! [zbk,zr,isiV,isTy,isBl,told]
 |lst xs=>simp! [zbk,zr,isiV,isTy,isBl,told]
 |loc _=>simp [tam] at hv
 |exn _=>simp [tam] at hv
 |scr _=>simp [tam] at hv
noncomputable abbrev sMark:Str:=Str.ofString "mark"
noncomputable abbrev sSlice:Str:=Str.ofString "slice"
noncomputable def thg:PV->Bool
 | .tp _ (x::r)=>if peq x (.str sMark) then r.isEmpty else if peq x (.str sSlice) then (match r with
  | [l,a,b]=>ltr l && (told 4 a && told 4 b)
  |_=>false) else false
 |_=>false
noncomputable def ths:PV->Bool
 | .tp _ xs=>decide (xs.length<=2) && xs.all thg
 |_=>false
noncomputable def trm:PV->Bool
 | .tp _ [f,e,t]=>wh (1 - 10 ^ 40) (10 ^ 40 - 1) f && (told 6 e && ths t)
 |_=>false
noncomputable def sen:PV->Bool
 | .tp _ xs=>decide (xs.length<=20) && xs.all trm
 |_=>false
theorem eq_s {d m:Nat}{v:PV}(hv:tam d m v=true)(hd:d<=60)(s:Str)(hs:s.cps.all (· < 0x110000)=true):cmpV .eq v (.str s)=some (.bl (peq v (.str s))):=by
 have h1:shp v=true:=zdv hv hd
 have h2:shp (.str s)=true:=hs
 simp only [cmpV]
 rw [if_pos (by rw [h1,h2];rfl)]
theorem ne_s {d m:Nat}{v:PV}(hv:tam d m v=true)(hd:d<=60)(s:Str)(hs:s.cps.all (· < 0x110000)=true):cmpV .ne v (.str s)=some (.bl (!peq v (.str s))):=by
 have h1:shp v=true:=zdv hv hd
 have h2:shp (.str s)=true:=hs
 simp only [cmpV]
 rw [if_pos (by rw [h1,h2];rfl)]
theorem zoR:sMark.cps.all (· < 0x110000)=true:=by decide +kernel
theorem znG:sSlice.cps.all (· < 0x110000)=true:=by decide +kernel
theorem zd3 (a b:Nat):cmpV .eq (.int a) (.int b)=some (.bl (decide (a=b))):=by
 rw [c_eq]
 by_cases h:a=b
 ·subst h;simp
 ·rw [decide_eq_false h,show ((a:Int) == b)=false by rw [beq_eq_false_iff_ne];omega]
theorem ziB (k:Nat){d m:Nat}{v:PV}(hv:tam d m v=true)(hd:d<=60)(hm:m<=1000)(st:Store):callT T (k+3) zfL [v] st=.ok (.bl (thg v)) st:=by
 have hT:T zfL=some zau:=rfl
 have hn:=zU d m v hv
 rw [zY hT rfl rfl (by simp [noLocs,noLoc,hn])]
 cases v with
 |tp b xs =>
  obtain ⟨h0,h1,h2⟩:=zap.1 hv
  cases xs with
  |nil =>
   have hl0:cmpV .eq (.int (([]:List PV).length:Int)) (.int 0)=some (.bl true):=rfl
   simp! [zau,zr,isiV,isTy,isBl,zy,hl0,thg]
   rfl
  |cons x r =>
   have hx:=h2 x List.mem_cons_self
   have hl0:cmpV .eq (.int ((r.length+1:Nat):Int)) (.int 0)=some (.bl false):=by
    have:=zd3 (r.length+1) 0
    rw [decide_eq_false (by omega)] at this
    exact this
   have hem:=eq_s hx (by omega) sMark zoR
   have hes:=ne_s hx (by omega) sSlice znG
   have hi0:∀st,idxV st (.tp b (x::r)) (.int 0)=some x:=fun st=>ix0
   by_cases q:peq x (.str sMark)=true
   ·have hl1:cmpV .eq (.int ((r.length+1:Nat):Int)) (.int 1)=some (.bl r.isEmpty):=by
     have:=zd3 (r.length+1) 1
     have e:decide (r.length+1=1)=r.isEmpty:=by cases r <;> simp
     rw [e] at this
     exact this
    rw [q] at hem
    have ht:thg (.tp b (x::r))=r.isEmpty:=by simp only [thg,q,if_true]
    rw [ht]
    simp! [zau,zr,isiV,isTy,isBl,zy,hl0,hi0,hem,hl1]
   ·have q:peq x (.str sMark)=false:=by simpa using q
    rw [q] at hem
    by_cases q2:peq x (.str sSlice)=true
    ·rw [q2] at hes
     by_cases h4:r.length=3
     ·obtain ⟨l,a,c,rfl⟩:∃l a c,r=[l,a,c]:=by
       match r,h4 with
       | [l,a,c],_=>exact ⟨l,a,c,rfl⟩
      have hl4:cmpV .ne (.int ((([l,a,c]:List PV).length+1:Nat):Int)) (.int 4)=some (.bl false):=rfl
      have hL:=zfT (k+1) (h2 l (by simp)) hm []
      have hA:=(show callT T (k+2) zcb [a,.int 4] []=_ from zcz k (h2 a (by simp)) hm 4 [])
      have hC:=(show callT T (k+2) zcb [c,.int 4] []=_ from zcz k (h2 c (by simp)) hm 4 [])
      have ht:thg (.tp b [x,l,a,c])=(ltr l && (told 4 a && told 4 c)):=by simp only [thg,q,q2,if_true,Bool.false_eq_true,if_false]
      rw [ht]
      simp only [List.length_cons,List.length_nil,Nat.zero_add,Nat.reduceAdd] at hl0 hl4
      cases e1:ltr l with
      |false =>
       rw [e1] at hL
       simp! [zau,zr,isiV,isTy,isBl,zy,hl0,hi0,hem,hes,hl4,ix1,hL,Bool.false_and]
      |true =>
       rw [e1] at hL
       cases e2:told 4 a with
       |false =>
        rw [e2] at hA
        simp! [zau,zr,isiV,isTy,isBl,zy,hl0,hi0,hem,hes,hl4,ix1,ix2,ix3,hL,Bool.true_and,Bool.false_and,hA]
       |true =>
        rw [e2] at hA
        simp! [zau,zr,isiV,isTy,isBl,zy,hl0,hi0,hem,hes,hl4,ix1,ix2,ix3,hL,Bool.true_and,hA,hC]
     ·have hl4:cmpV .ne (.int ((r.length+1:Nat):Int)) (.int 4)=some (.bl true):=by
       have:=zdO (r.length+1) 4
       rw [decide_eq_false (by omega)] at this
       exact this
      have ht:thg (.tp b (x::r))=false:=by
       simp only [thg,q,q2,if_true,Bool.false_eq_true,if_false]
       split
       ·simp at h4
       ·rfl
      rw [ht]
      simp! [zau,zr,isiV,isTy,isBl,zy,hl0,hi0,hem,hes,hl4]
    ·have q2:peq x (.str sSlice)=false:=by simpa using q2
     rw [q2] at hes
     have ht:thg (.tp b (x::r))=false:=by simp only [thg,q,q2,Bool.false_eq_true,if_false]
     rw [ht]
     simp! [zau,zr,isiV,isTy,isBl,zy,hl0,hi0,hem,hes]
 |int i=>simp! [zau,zr,isiV,isTy,isBl,thg]
 |bl b=>simp! [zau,zr,isiV,isTy,isBl,thg]
 |non=>simp! [zau,zr,isiV,isTy,isBl,thg]
 |str s=>simp! [zau,zr,isiV,isTy,isBl,thg]
 |lst xs=>simp! [zau,zr,isiV,isTy,isBl,thg]
 |loc _=>simp [tam] at hv
 |exn _=>simp [tam] at hv
 |scr _=>simp [tam] at hv
theorem zms (a b:Nat):cmpV .le (.int a) (.int b)=some (.bl (decide (a<=b))):=by
 rw [c_le]
 by_cases h:a<=b
 ·rw [decide_eq_true h,decide_eq_true (by omega)]
 ·rw [decide_eq_false h,decide_eq_false (by omega)]
theorem zhG (k:Nat){d m:Nat}{v:PV}(hv:tam d m v=true)(hd:d<=60)(hm:m<=1000)(st:Store):callT T (k+4) zfS [v] st=.ok (.bl (ths v)) st:=by
 have hT:T zfS=some zaF:=rfl
 have hn:=zU d m v hv
 have hM:zfr=.int ((2:Nat):Int):=rfl
 rw [zY hT rfl rfl (by simp [noLocs,noLoc,hn])]
 cases v with
 |tp b xs =>
  obtain ⟨h0,h1,h2⟩:=zap.1 hv
  have hc:compB (callT T (k+3)) [none] (.n 0) (.cst (.bl true)) (.call zfL (.cons (.var 0) .nil)) xs []=.ok (xs.map fun x=>.bl (thg x)) []:=by
   refine zbE _ fun p hp=>?_
   have:=ziB k (h2 p hp) (by omega) hm []
   simp! [oneB,this]
  have hle:=zms xs.length 2
  by_cases h:xs.length<=2
  ·rw [decide_eq_true h] at hle
   simp! [zaF,zr,isiV,isTy,isBl,zy,hM,hle,hc]
   rw [zcc _ (by rw [List.length_map];omega)]
   simp! [zdr,zr,ths,decide_eq_true h,Bool.true_and]
  ·rw [decide_eq_false h] at hle
   simp! [zaF,zr,isiV,isTy,isBl,zy,hM,hle,ths,decide_eq_false h,Bool.false_and]
 |int i=>simp! [zaF,zr,isiV,isTy,isBl,ths]
 |bl b=>simp! [zaF,zr,isiV,isTy,isBl,ths]
 |non=>simp! [zaF,zr,isiV,isTy,isBl,ths]
 |str s=>simp! [zaF,zr,isiV,isTy,isBl,ths]
 |lst xs=>simp! [zaF,zr,isiV,isTy,isBl,ths]
 |loc _=>simp [tam] at hv
 |exn _=>simp [tam] at hv
 |scr _=>simp [tam] at hv
theorem zjN (k:Nat){d m:Nat}{v:PV}(hv:tam d m v=true)(hd:d<=60)(hm:m<=1000)(st:Store):callT T (k+5) zgc [v] st=.ok (.bl (trm v)) st:=by
 have hT:T zgc=some zbh:=rfl
 have hn:=zU d m v hv
 have hF:zc4=.int (10 ^ 40):=rfl
 rw [zY hT rfl rfl (by simp [noLocs,noLoc,hn])]
 cases v with
 |tp b xs =>
  obtain ⟨h0,h1,h2⟩:=zap.1 hv
  by_cases h3:xs.length=3
  ·obtain ⟨f,e,t,rfl⟩:∃f e t,xs=[f,e,t]:=by
    match xs,h3 with
    | [f,e,t],_=>exact ⟨f,e,t,rfl⟩
   have h3:cmpV .ne (.int ((3:Nat):Int)) (.int 3)=some (.bl false):=rfl
   have hW:=zeL (k+3) (h2 f (by simp)) (1 - 10 ^ 40) (10 ^ 40 - 1) []
   have hE:=(show callT T (k+4) zcb [e,.int 6] []=_ from zcz (k+2) (h2 e (by simp)) hm 6 [])
   have hH:=zhG k (h2 t (by simp)) (by omega) hm []
   have hb:bindT (.t [1,2,3]) (.tp b [f,e,t]) [some (.tp b [f,e,t]),none,none,none]=some [some (.tp b [f,e,t]),some f,some e,some t]:=rfl
   have ht:trm (.tp b [f,e,t])=(wh (1 - 10 ^ 40) (10 ^ 40 - 1) f && (told 6 e && ths t)):=rfl
   rw [ht]
   cases e1:wh (1 - 10 ^ 40) (10 ^ 40 - 1) f with
   |false =>
    rw [e1] at hW
    simp! [zbh,zr,isiV,isTy,isBl,zy,h3,hb,hF,hW,Bool.false_and]
   |true =>
    rw [e1] at hW
    cases e2:told 6 e with
    |false =>
     rw [e2] at hE
     simp! [zbh,zr,isiV,isTy,isBl,zy,h3,hb,hF,hW,hE,Bool.true_and,Bool.false_and]
    |true =>
     rw [e2] at hE
     simp! [zbh,zr,isiV,isTy,isBl,zy,h3,hb,hF,hW,hE,hH,Bool.true_and]
  ·have hl3:cmpV .ne (.int (xs.length:Int)) (.int 3)=some (.bl true):=by
    have:=zdO xs.length 3
    rw [decide_eq_false h3] at this
    exact this
   have ht:trm (.tp b xs)=false:=by
    unfold trm
    split
    ·rename_i e
     cases e
     simp at h3
    ·rfl
   rw [ht]
   simp! [zbh,zr,isiV,isTy,isBl,zy,hl3]
 |int i=>simp! [zbh,zr,isiV,isTy,isBl,trm]
 |bl b=>simp! [zbh,zr,isiV,isTy,isBl,trm]
 |non=>simp! [zbh,zr,isiV,isTy,isBl,trm]
 |str s=>simp! [zbh,zr,isiV,isTy,isBl,trm]
 |lst xs=>simp! [zbh,zr,isiV,isTy,isBl,trm]
 |loc _=>simp [tam] at hv
 |exn _=>simp [tam] at hv
 |scr _=>simp [tam] at hv
theorem zgO (k:Nat){d m:Nat}{v:PV}(hv:tam d m v=true)(hd:d<=60)(hm:m<=1000)(st:Store):callT T (k+6) ze6 [v] st=.ok (.bl (sen v)) st:=by
 have hT:T ze6=some zav:=rfl
 have hn:=zU d m v hv
 have hM:zfO=.int ((20:Nat):Int):=rfl
 rw [zY hT rfl rfl (by simp [noLocs,noLoc,hn])]
 cases v with
 |tp b xs =>
  obtain ⟨h0,h1,h2⟩:=zap.1 hv
  have hc:compB (callT T (k+5)) [none] (.n 0) (.cst (.bl true)) (.call zgc (.cons (.var 0) .nil)) xs []=.ok (xs.map fun x=>.bl (trm x)) []:=by
   refine zbE _ fun p hp=>?_
   have:=zjN k (h2 p hp) (by omega) hm []
   simp! [oneB,this]
  have hle:=zms xs.length 20
  by_cases h:xs.length<=20
  ·rw [decide_eq_true h] at hle
   simp! [zav,zr,isiV,isTy,isBl,zy,hM,hle,hc]
   rw [zcc _ (by rw [List.length_map];omega)]
   simp! [zdr,zr,sen,decide_eq_true h,Bool.true_and]
  ·rw [decide_eq_false h] at hle
   simp! [zav,zr,isiV,isTy,isBl,zy,hM,hle,sen,decide_eq_false h,Bool.false_and]
 |int i=>simp! [zav,zr,isiV,isTy,isBl,sen]
 |bl b=>simp! [zav,zr,isiV,isTy,isBl,sen]
 |non=>simp! [zav,zr,isiV,isTy,isBl,sen]
 |str s=>simp! [zav,zr,isiV,isTy,isBl,sen]
 |lst xs=>simp! [zav,zr,isiV,isTy,isBl,sen]
 |loc _=>simp [tam] at hv
 |exn _=>simp [tam] at hv
 |scr _=>simp [tam] at hv
noncomputable def isI:PV->Bool
 | .int _=>true
 |_=>false
theorem zcQ (k:Nat){d m:Nat}{v:PV}(hv:tam d m v=true)(st:Store):callT T (k+1) ze4 [v] st=.ok (.bl (isI v)) st:=by
 have hT:T ze4=some zf6:=rfl
 have hn:=zU d m v hv
 rw [zY hT rfl rfl (by simp [noLocs,noLoc,hn])]
 cases v with
 |loc _=>simp [tam] at hv
 |exn _=>simp [tam] at hv
 |scr _=>simp [tam] at hv
 |_=>simp! [zf6,zr,isiV,isTy,isBl,isI]
theorem zbU (k:Nat){d m:Nat}{v:PV}(hv:tam d m v=true)(hm:m<=1000)(n:Nat)(st:Store):callT T (k+2) zcB [v,.int n,.int 200] st=.ok (.bl (told n v)) st:=by
 have hT:T zcB=some zc7:=rfl
 have hn:=zU d m v hv
 rw [zY hT rfl rfl (by simp [noLocs,noLoc,hn])]
 cases v with
 |tp b xs =>
  obtain ⟨h0,h1,h2⟩:=zap.1 hv
  have hc:compB (callT T (k+1)) [none,some (.int 200)] (.n 0) (.cst (.bl true)) (.and (.call ze4 (.cons (.var 0) .nil)) (.chain .le .le (.bin .sub (.cst (.int 0)) (.var 1)) (.var 0) (.var 1))) xs []=.ok (xs.map fun x=>.bl (wh (-200) 200 x)) []:=by
   refine zbE _ fun p hp=>?_
   have hp:=h2 p hp
   have hw:=zcQ k hp []
   have h00:(0:Int) - 200=-200:=rfl
   cases p with
   |int i =>
    have hw:callT T (k+1) ze4 [.int i] []=.ok (.bl true) []:=hw
    by_cases q:-200<=i
    ·simp! [oneB,hw,h00,blO,decide_eq_true q,wh,Bool.true_and]
    ·simp! [oneB,hw,h00,blO,decide_eq_false q,wh,Bool.false_and]
   |loc _=>simp [tam] at hp
   |exn _=>simp [tam] at hp
   |scr _=>simp [tam] at hp
   |_=>simp only [isI] at hw;simp! [oneB,hw,wh]
  have hne:=zdO xs.length n
  by_cases h:xs.length=n
  ·rw [decide_eq_true h] at hne
   simp! [zc7,zr,isiV,isTy,isBl,zy,hne,hc]
   rw [zcc _ (by rw [List.length_map];omega)]
   simp! [zdr,zr,told,decide_eq_true h,Bool.true_and]
  ·rw [decide_eq_false h] at hne
   simp! [zc7,zr,isiV,isTy,isBl,zy,hne,told,decide_eq_false h,Bool.false_and]
 |loc _=>simp [tam] at hv
 |exn _=>simp [tam] at hv
 |scr _=>simp [tam] at hv
 |_=>simp! [zc7,zr,isiV,isTy,isBl,told]
noncomputable abbrev sAbc:Str:=Str.ofString "abcdefghijklmnopqrstuvwxyz"
theorem znh:(List.range 128).all (fun c=>inS ⟨#[c]⟩ sAbc == (decide (97<=c) && decide (c<=122)))=true:=by decide +kernel
theorem zmU {c:Nat}(h:c<128):inS ⟨#[c]⟩ sAbc=(decide (97<=c) && decide (c<=122)):=by
 have:=List.all_eq_true.mp znh c (by simpa using h)
 exact eq_of_beq this
theorem zmO (s:Str){l:List Nat}(h:s.cps.toList=l):s=⟨l.toArray⟩:=by
 obtain ⟨⟨c⟩⟩:=s
 simp at h
 rw [h]
theorem zfc (k:Nat){d m:Nat}{v:PV}(hv:tam d m v=true)(hm:m<=1000)(st:Store):callT T (k+1) zif [v] st=.ok (.bl (ltr v)) st:=by
 have hT:T zif=some zdc:=rfl
 have hn:=zU d m v hv
 rw [zY hT rfl rfl (by simp [noLocs,noLoc,hn])]
 cases v with
 |str s =>
  simp only [tam,Bool.and_eq_true,decide_eq_true_eq] at hv
  have hl:=zmn (s:=s) (st:=[]) (by omega)
  by_cases h1:s.cps.toList.length=1
  ·obtain ⟨c,hs⟩:∃c,s.cps.toList=[c]:=by
    match h:s.cps.toList,h1 with
    | [c],_=>exact ⟨c,rfl⟩
   have hc:c<128:=by
    have:=List.all_eq_true.1 hv.1 c (by rw [hs];simp)
    simpa using this
   have hin:cmpV .isin (.str s) (.str sAbc)=some (.bl (decide (97<=c) && decide (c<=122))):=by
    rw [zmO s hs]
    exact congrArg (fun b=>some (PV.bl b)) (zmU hc)
   rw [hs] at hl
   have h0:(((1:Nat):Int) == 1)=true:=rfl
   simp! [zdc,zr,isiV,isTy,isBl,hl,h0,hin,ltr,hs]
  ·have h0:(((s.cps.toList.length:Nat):Int) == 1)=false:=by
    rw [beq_eq_false_iff_ne]
    omega
   have ht:ltr (.str s)=false:=by
    unfold ltr
    dsimp only
    split
    ·rename_i e;rw [e] at h1;simp at h1
    ·rfl
   rw [ht]
   simp! [zdc,zr,isiV,isTy,isBl,hl,h0]
 |loc _=>simp [tam] at hv
 |exn _=>simp [tam] at hv
 |scr _=>simp [tam] at hv
 |_=>simp! [zdc,zr,isiV,isTy,isBl,ltr]
theorem zhK (k:Nat){d m:Nat}{v:PV}(hv:tam d m v=true)(hd:d<=60)(hm:m<=1000)(st:Store):callT T (k+3) zhI [v] st=.ok (.bl (thg v)) st:=by
 have hT:T zhI=some zbS:=rfl
 have hn:=zU d m v hv
 have heq:cmpV .eq v (.tp false [.str sMark])=some (.bl (peq v (.tp false [.str sMark]))):=by
  have h1:shp v=true:=zdv hv hd
  have h2:shp (.tp false [.str sMark])=true:=by decide +kernel
  simp only [cmpV]
  rw [if_pos (by rw [h1,h2];rfl)]
 rw [zY hT rfl rfl (by simp [noLocs,noLoc,hn])]
 cases v with
 |tp b xs =>
  obtain ⟨h0,h1,h2⟩:=zap.1 hv
  cases xs with
  |nil =>
   have heq:cmpV .eq (.tp b []) (.tp false [.str sMark])=some (.bl false):=heq
   have hl4:(((0:Nat):Int) == 4)=false:=rfl
   simp! [zbS,zr,isiV,isTy,isBl,zy,heq,hl4,thg]
  |cons x r =>
   have hx:=h2 x List.mem_cons_self
   have hes:=ne_s hx (by omega) sSlice znG
   have hi0:∀st,idxV st (.tp b (x::r)) (.int 0)=some x:=fun st=>ix0
   have hpq:peq (.tp b (x::r)) (.tp false [.str sMark])=(peq x (.str sMark) && r.isEmpty):=by
    cases r <;> simp [peq,peqs]
   rw [hpq] at heq
   by_cases q:(peq x (.str sMark) && r.isEmpty)=true
   ·rw [q] at heq
    simp only [Bool.and_eq_true] at q
    have ht:thg (.tp b (x::r))=true:=by simp only [thg,q.1,if_true,q.2]
    rw [ht]
    simp! [zbS,zr,isiV,isTy,isBl,heq]
   ·have q:(peq x (.str sMark) && r.isEmpty)=false:=by simpa using q
    rw [q] at heq
    by_cases h4:r.length=3
    ·obtain ⟨l,a,c,rfl⟩:∃l a c,r=[l,a,c]:=by
      match r,h4 with
      | [l,a,c],_=>exact ⟨l,a,c,rfl⟩
     have hl4:cmpV .ne (.int ((4:Nat):Int)) (.int 4)=some (.bl false):=rfl
     have hL:=zfc (k+1) (h2 l (by simp)) hm []
     have hA:callT T (k+2) zcB [a,.int 4,.int 200] []=_:=zbU k (h2 a (by simp)) hm 4 []
     have hC:callT T (k+2) zcB [c,.int 4,.int 200] []=_:=zbU k (h2 c (by simp)) hm 4 []
     by_cases q2:peq x (.str sSlice)=true
     ·have q3:peq x (.str sMark)=false:=by
       cases x with
       |str s =>
        simp only [peq] at q2 ⊢
        rw [eq_of_beq q2]
        decide +kernel
       |_=>simp [peq] at q2
      have ht:thg (.tp b [x,l,a,c])=(ltr l && (told 4 a && told 4 c)):=by simp only [thg,q3,q2,if_true,Bool.false_eq_true,if_false]
      rw [ht]
      rw [q2] at hes
      cases e1:ltr l with
      |false =>
       rw [e1] at hL
       simp! [zbS,zr,isiV,isTy,isBl,zy,hi0,heq,hes,hl4,ix1,hL,Bool.false_and]
      |true =>
       rw [e1] at hL
       cases e2:told 4 a with
       |false =>
        rw [e2] at hA
        simp! [zbS,zr,isiV,isTy,isBl,zy,hi0,heq,hes,hl4,ix1,ix2,ix3,hL,Bool.true_and,Bool.false_and,hA]
       |true =>
        rw [e2] at hA
        simp! [zbS,zr,isiV,isTy,isBl,zy,hi0,heq,hes,hl4,ix1,ix2,ix3,hL,Bool.true_and,hA,hC]
     ·have q2:peq x (.str sSlice)=false:=by simpa using q2
      have ht:thg (.tp b [x,l,a,c])=false:=by
       simp only [thg,q2,Bool.false_eq_true,if_false,List.isEmpty_cons]
       split <;> rfl
      rw [ht]
      rw [q2] at hes
      simp! [zbS,zr,isiV,isTy,isBl,zy,hi0,heq,hes,hl4]
    ·have hl4:cmpV .ne (.int ((r.length+1:Nat):Int)) (.int 4)=some (.bl true):=by
      have:=zdO (r.length+1) 4
      rw [decide_eq_false (by omega)] at this
      exact this
     have ht:thg (.tp b (x::r))=false:=by
      simp only [thg]
      split
      ·rename_i e
       rw [e,Bool.true_and] at q
       exact q
      ·split
       ·split
        ·simp at h4
        ·rfl
       ·rfl
     rw [ht]
     simp! [zbS,zr,isiV,isTy,isBl,zy,heq,hl4]
 |loc _=>simp [tam] at hv
 |exn _=>simp [tam] at hv
 |scr _=>simp [tam] at hv
 |_=>simp only [peq] at heq;simp! [zbS,zr,isiV,isTy,isBl,heq,thg]
noncomputable def senB:Css:=match f_qis_sentence.body with
 | .cons _ (.cons (.for _ _ b) _)=>b
 |_=>.nil
theorem zkl (a b:Nat):cmpV .gt (.int a) (.int b)=some (.bl (decide (b<a))):=by
 rw [c_gt]
 by_cases h:b<a
 ·rw [decide_eq_true h,decide_eq_true (by omega)]
 ·rw [decide_eq_false h,decide_eq_false (by omega)]
theorem zlG (k:Nat){d m:Nat}{v p0:PV}(hv:tam d m v=true)(hd:d<=60)(hm:m<=1000):exs (callT T (k+3)) [some p0,some v] [] senB=if trm v then .nx [some p0,some v] [] else .rt (.bl false) []:=by
 cases v with
 |tp b xs =>
  obtain ⟨h0,h1,h2⟩:=zap.1 hv
  by_cases h3:xs.length=3
  ·obtain ⟨f,e,t,rfl⟩:∃f e t,xs=[f,e,t]:=by
    match xs,h3 with
    | [f,e,t],_=>exact ⟨f,e,t,rfl⟩
   have hl3:cmpV .ne (.int ((3:Nat):Int)) (.int 3)=some (.bl false):=rfl
   have hE:callT T (k+3) zcB [e,.int 6,.int 200] []=_:=zbU (k+1) (h2 e (by simp)) hm 6 []
   have hF:=zcQ (k+2) (h2 f (by simp)) []
   have hpw:binV .pow (.int 10) (.int 40)=some (.int (10 ^ 40)):=rfl
   have ht:trm (.tp b [f,e,t])=(wh (1 - 10 ^ 40) (10 ^ 40 - 1) f && (told 6 e && ths t)):=rfl
   rw [ht]
   cases e2:told 6 e with
   |false =>
    rw [e2] at hE
    have:(if (wh (1 - 10 ^ 40) (10 ^ 40 - 1) f && (false && ths t))=true then Fl.nx [some p0,some (.tp b [f,e,t])] [] else .rt (.bl false) [])=.rt (.bl false) []:=by simp
    rw [this]
    simp! [senB,f_qis_sentence,isiV,isTy,isBl,zy,hl3,ix1,hE]
   |true =>
    rw [e2] at hE
    have hFx:∀i,f=.int i->bltV .abs [] [f]=some (.int (if i<0 then -i else i)):=fun i e=>by rw [e];rfl
    cases f with
    |int i =>
     have hF:callT T (k+3) ze4 [.int i] []=.ok (.bl true) []:=hF
     have hab:bltV .abs [] [.int i]=some (.int (if i<0 then -i else i)):=rfl
     by_cases q:(10 ^ 40:Int)<=(if i<0 then -i else i)
     ·have hw:wh (1 - 10 ^ 40) (10 ^ 40 - 1) (.int i)=false:=by
       simp only [wh]
       split at q
       ·rw [decide_eq_false (by omega),Bool.false_and]
       ·rw [decide_eq_false (show ¬i<=10 ^ 40 - 1 by omega),Bool.and_false]
      rw [hw]
      simp! [senB,f_qis_sentence,isiV,isTy,isBl,zy,hl3,ix1,hE,ix0,hF,hab,hpw,decide_eq_true q,Bool.false_and,Bool.false_eq_true,if_false]
     ·have hw:wh (1 - 10 ^ 40) (10 ^ 40 - 1) (.int i)=true:=by
       simp only [wh]
       split at q
       ·rw [decide_eq_true (by omega),decide_eq_true (by omega)];rfl
       ·rw [decide_eq_true (by omega),decide_eq_true (by omega)];rfl
      rw [hw]
      have hts:=h2 t (by simp)
      cases t with
      |tp b2 ys =>
       obtain ⟨g0,g1,g2⟩:=zap.1 hts
       have hc:compB (callT T (k+3)) [none] (.n 0) (.cst (.bl true)) (.call zhI (.cons (.var 0) .nil)) ys []=.ok (ys.map fun x=>.bl (thg x)) []:=by
        refine zbE _ fun p hp=>?_
        have:=zhK k (g2 p hp) (by omega) hm []
        simp! [oneB,this]
       have hgt:=zkl ys.length 2
       have hgt:cmpV .gt (.int (ys.length:Int)) (.int 2)=some (.bl (decide (2<ys.length))):=hgt
       by_cases h:ys.length<=2
       ·rw [decide_eq_false (by omega)] at hgt
        have:ths (.tp b2 ys)=ys.all thg:=by simp [ths,h]
        rw [this]
        simp! [senB,f_qis_sentence,isiV,isTy,isBl,zy,hl3,ix1,hE,ix0,hF,hab,hpw,decide_eq_false q,ix2,hgt,hc]
        rw [zcc _ (by rw [List.length_map];omega)]
        simp! [zdr,Bool.true_and]
        cases ys.all thg <;> rfl
       ·rw [decide_eq_true (by omega)] at hgt
        have:ths (.tp b2 ys)=false:=by simp [ths,h]
        rw [this]
        simp! [senB,f_qis_sentence,isiV,isTy,isBl,zy,hl3,ix1,hE,ix0,hF,hab,hpw,decide_eq_false q,ix2,hgt,Bool.and_false,Bool.false_eq_true,if_false]
      |loc _=>simp [tam] at hts
      |exn _=>simp [tam] at hts
      |scr _=>simp [tam] at hts
      |_=>simp! [senB,f_qis_sentence,isiV,isTy,isBl,zy,hl3,ix1,hE,ix0,hF,hab,hpw,decide_eq_false q,ix2,ths,Bool.and_false,Bool.false_eq_true,if_false]
    |loc z=>have:=h2 (.loc z) (by simp);simp [tam] at this
    |exn z=>have:=h2 (.exn z) (by simp);simp [tam] at this
    |scr z=>have:=h2 (.scr z) (by simp);simp [tam] at this
    |_=>simp only [isI] at hF;simp! [senB,f_qis_sentence,isiV,isTy,isBl,zy,hl3,ix1,hE,ix0,hF,wh,Bool.false_and,Bool.false_eq_true,if_false]
  ·have hl3:cmpV .ne (.int (xs.length:Int)) (.int 3)=some (.bl true):=by
    have:=zdO xs.length 3
    rw [decide_eq_false h3] at this
    exact this
   have ht:trm (.tp b xs)=false:=by
    unfold trm
    split
    ·rename_i e
     cases e
     simp at h3
    ·rfl
   rw [ht]
   simp! [senB,f_qis_sentence,isiV,isTy,isBl,zy,hl3,Bool.false_eq_true,if_false]
 |loc _=>simp [tam] at hv
 |exn _=>simp [tam] at hv
 |scr _=>simp [tam] at hv
 |_=>simp! [senB,f_qis_sentence,isiV,isTy,isBl,trm,Bool.false_eq_true,if_false]
theorem zi6 (k:Nat){d m:Nat}{p0:PV}(hd:d<=60)(hm:m<=1000):∀(xs:List PV) (u:Option PV),(∀x∈xs,tam d m x=true) ->
  ∃u',forB (callT T (k+3)) (.n 1) senB xs [some p0,u] []=if xs.all trm then .nx [some p0,u'] [] else .rt (.bl false) []
 | [],u,_=>⟨u,by rw [zce];rfl⟩
 |x::xs,u,h=>by
  obtain ⟨u',e⟩:=zi6 k hd hm xs (some x) fun y hy=>h y (List.mem_cons_of_mem _ hy)
  refine ⟨u',?_⟩
  rw [zbD (ρ1:=[some p0,some x]) rfl,zlG k (h x List.mem_cons_self) hd hm]
  cases q:trm x with
  |true =>
   simp only [if_true,againF,List.all_cons,q,Bool.true_and]
   exact e
  |false =>
   simp only [Bool.false_eq_true,if_false,againF,List.all_cons,q,Bool.false_and]
theorem zjt (k:Nat){d m:Nat}{v:PV}(hv:tam d m v=true)(hd:d<=60)(hm:m<=1000)(st:Store):callT T (k+4) zeE [v] st=.ok (.bl (sen v)) st:=by
 have hT:T zeE=some ⟨1,2,true,f_qis_sentence.body⟩:=rfl
 have hn:=zU d m v hv
 have hb:f_qis_sentence.body=(match f_qis_sentence.body with
  | .cons a (.cons (.for t i _) r)=>.cons a (.cons (.for t i senB) r)
  |_=>.nil):=rfl
 rw [zY hT rfl rfl (by simp [noLocs,noLoc,hn])]
 dsimp only
 rw [hb]
 cases v with
 |tp b xs =>
  obtain ⟨h0,h1,h2⟩:=zap.1 hv
  have hgt:cmpV .gt (.int (xs.length:Int)) (.int 20)=some (.bl (decide (20<xs.length))):=zkl xs.length 20
  by_cases h:xs.length<=20
  ·rw [decide_eq_false (by omega)] at hgt
   obtain ⟨u',e⟩:=zi6 k (p0:=.tp b xs) (d:=d - 1) (by omega) hm xs none h2
   have hs:sen (.tp b xs)=xs.all trm:=by simp [sen,h]
   rw [hs]
   simp! [f_qis_sentence,isiV,isTy,isBl,zy,hgt,e]
   cases xs.all trm <;> rfl
  ·rw [decide_eq_true (by omega)] at hgt
   have hs:sen (.tp b xs)=false:=by simp [sen,h]
   rw [hs]
   simp! [f_qis_sentence,zr,isiV,isTy,isBl,zy,hgt]
 |loc _=>simp [tam] at hv
 |exn _=>simp [tam] at hv
 |scr _=>simp [tam] at hv
 |_=>simp! [f_qis_sentence,zr,isiV,isTy,isBl,sen]
theorem zcm {α:Type}{i:Int}{k:Option Int->R α}:onP (optI (.int i)) k=k (some i):=rfl
theorem zeO {α:Type}{k:Option Int->R α}:onP (optI .non) k=k none:=rfl
theorem zjn {n:Nat}{i:Int}(h0:0<=i)(h1:i<n):ixI n i=some i.toNat:=by simp [ixI,h0,h1]
theorem ziG {st:Store}{xs:List PV}{i:Int}(h0:0<=i)(h1:i<xs.length):∃x,x∈xs/\idxV st (.lst xs) (.int i)=some x:=by
 have hi:i.toNat<xs.length:=by omega
 refine ⟨xs[i.toNat],List.getElem_mem hi,?_⟩
 simp only [idxV,idxI,at?,zjn h0 h1,Option.bind_some]
 exact List.getElem?_eq_getElem hi
theorem zg8 {k:Bool}{xs:List PV}{i:Int}(h0:0<=i)(h1:i<xs.length):∃x,x∈xs/\∀st,idxV st (.tp k xs) (.int i)=some x:=by
 have hi:i.toNat<xs.length:=by omega
 refine ⟨xs[i.toNat],List.getElem_mem hi,fun st=>?_⟩
 simp only [idxV,idxI,at?,zjn h0 h1,Option.bind_some]
 exact List.getElem?_eq_getElem hi
theorem zkS {c d m:Nat}(h:c<128)(hm:1<=m):tam d m (.str ⟨#[c]⟩)=true:=by
 simp [tam,h];omega
theorem zmY:sAbc.cps.toList.length=26:=by decide +kernel
theorem zgD {x:PV}{o:Option Int}{i:Int}:slcV x o (.int i)=slcO x o (some i):=rfl
theorem zhh {x:PV}{o:Option Int}:slcV x o .non=slcO x o none:=rfl
end WK
namespace WK
open IC PySem
local macro_rules | `(tactic| simp! [$xs,*])=>`(tactic| simp only [IC.xs_cons,IC.xs_nil,IC.x_asg,IC.x_ite,IC.x_ret,IC.x_expr,IC.x_for,IC.x_six,IC.x_try,IC.x_raise,IC.evs,IC.evi,IC.ev.eq_1,IC.ev.eq_2,IC.ev.eq_3,IC.ev.eq_4,IC.ev.eq_5,IC.ev.eq_6,IC.ev.eq_7,IC.ev.eq_8,IC.ev.eq_9,IC.ev.eq_10,IC.ev.eq_11,IC.ev.eq_12,IC.ev.eq_13,IC.ev.eq_14,IC.ev.eq_15,IC.ev.eq_16,IC.ev.eq_17,IC.ev.eq_18,IC.ev.eq_19,IC.ev.eq_20,IC.ev.eq_21,IC.ev.eq_22,IC.ev.eq_24,IC.ev.eq_25,IC.ev.eq_26,IC.ev.eq_28, IC.v_comp,List.getElem?_cons_zero,List.getElem?_cons_succ,WK.bd_ok,WK.fl_ok,WK.bd_exc,WK.fl_exc,WK.toR_some,IC.toL,WK.bT_n,WK.nxO_some,WK.th_nx,WK.th_rt,WK.th_exc,List.set_cons_zero,List.set_cons_succ,WK.on_t,WK.t_bl,WK.ono,IC.onBl,cond_true,cond_false,List.length_cons,List.length_nil,Nat.zero_add,Nat.reduceAdd,Nat.reduceSub,Nat.reduceLeDiff,if_true,IC.noLoc,IC.noLocs,WK.noLocs_ints,Bool.and_self,Bool.not_true,Bool.not_false,List.map_cons,List.map_nil,List.replicate,List.cons_append,List.nil_append,List.append_nil,Option.bind_none,Option.bind_some,Option.join_some,WK.b_add,WK.b_sub,WK.b_mul2,WK.b_div2,WK.c_lt,WK.c_le,WK.c_gt,WK.c_ge,WK.c_eq,WK.c_ne,IC.PV.tup,IC.sizeMax,$xs,*])
noncomputable abbrev sFig:Str:=Str.ofString "figure"
noncomputable abbrev sTimes:Str:=Str.ofString "times"
noncomputable def celS:PV->Bool
 | .tp _ [l,a]=>ltr l && told 4 a
 |_=>false
noncomputable def letS:PV->Bool
 | .tp _ [l,_]=>ltr l
 |_=>false
noncomputable def namS:PV->Bool
 | .tp _ (.str s::_)=>(dlook s d_ROWS).isSome
 |_=>false
noncomputable def opS (k x:PV):Bool:=if peq k (.str sFig) then wh 0 1 x else celS x
noncomputable def prS:PV->Bool
 | .tp _ [k,x]=>opS k x
 |_=>false
noncomputable def unl:List PV->Bool
 |a::b::_=>!peq a b
 |_=>true
noncomputable def rowS:PV->Bool
 | .tp _ (.str s::r)=>match dlook s d_ROWS with
  |some (.tp _ ks)=>decide (r.length=ks.length) && ((zipUp ks r).all prS && (!decide (s=sTimes) || unl r))
  |_=>false
 |_=>false
theorem ziC (k:Nat){d m:Nat}{v:PV}(hv:tam d m v=true)(hm:m<=1000)(st:Store):callT T (k+2) ze3 [v] st=.ok (.bl (letS v)) st:=by
 have hT:T ze3=some zby:=rfl
 have hn:=zU d m v hv
 rw [zY hT rfl rfl (by simp [noLocs,noLoc,hn])]
 cases v with
 |tp b xs =>
  obtain ⟨h0,h1,h2⟩:=zap.1 hv
  by_cases h:xs.length=2
  ·obtain ⟨l,a,rfl⟩:∃l a,xs=[l,a]:=by
    match xs,h with
    | [l,a],_=>exact ⟨l,a,rfl⟩
   have hl:cmpV .eq (.int ((2:Nat):Int)) (.int 2)=some (.bl true):=rfl
   have hL:=zfT k (h2 l (by simp)) hm []
   simp! [zby,zr,isiV,isTy,isBl,zy,hl,ix0,hL,letS]
  ·have hl:cmpV .eq (.int (xs.length:Int)) (.int 2)=some (.bl false):=by
    have:=zd3 xs.length 2
    rw [decide_eq_false h] at this
    exact this
   have ht:letS (.tp b xs)=false:=by
    unfold letS
    split
    ·rename_i e;cases e;simp at h
    ·rfl
   rw [ht]
   simp! [zby,zr,isiV,isTy,isBl,zy,hl]
 |loc _=>simp [tam] at hv
 |exn _=>simp [tam] at hv
 |scr _=>simp [tam] at hv
 |_=>simp! [zby,zr,isiV,isTy,isBl,letS]
theorem zgz (k:Nat){d m:Nat}{v:PV}(hv:tam d m v=true)(hm:m<=1000)(st:Store):callT T (k+3) zeG [v] st=.ok (.bl (celS v)) st:=by
 have hT:T zeG=some zbi:=rfl
 have hn:=zU d m v hv
 have hL:=ziC k hv hm []
 rw [zY hT rfl rfl (by simp [noLocs,noLoc,hn])]
 by_cases hx:∃b l a,v=.tp b [l,a]
 ·obtain ⟨b,l,a,rfl⟩:=hx
  obtain ⟨h0,h1,h2⟩:=zap.1 hv
  have hW:callT T (k+2) zcb [a,.int 4] []=.ok (.bl (told 4 a)) []:=zcz k (h2 a (by simp)) hm 4 []
  have hc:celS (.tp b [l,a])=(ltr l && told 4 a):=rfl
  rw [hc]
  have hl0:letS (.tp b [l,a])=ltr l:=rfl
  rw [hl0] at hL
  cases e:ltr l with
  |false =>
   rw [e] at hL
   simp! [zbi,zr,hL,Bool.false_and]
  |true =>
   rw [e] at hL
   simp! [zbi,zr,hL,ix1,hW,Bool.true_and]
 ·have h1:letS v=false:=by
   unfold letS
   split
   ·rename_i b l a;exact absurd ⟨b,l,a,rfl⟩ hx
   ·rfl
  have h2:celS v=false:=by
   unfold celS
   split
   ·rename_i b l a;exact absurd ⟨b,l,a,rfl⟩ hx
   ·rfl
  rw [h1] at hL
  rw [h2]
  simp! [zbi,zr,hL]
theorem znP:sFig.cps.all (· < 0x110000)=true:=by decide +kernel
theorem zjh:sTimes.cps.all (· < 0x110000)=true:=by decide +kernel
theorem zhA (k:Nat){d m d' m':Nat}{v kd:PV}(hv:tam d m v=true)(hm:m<=1000)(hk:tam d' m' kd=true)(hd:d'<=60)(st:Store):callT T (k+4) zfN [kd,v,.bl true] st=.ok (.bl (opS kd v)) st:=by
 have hT:T zfN=some zck:=rfl
 have hn:=zU d m v hv
 have hn2:=zU d' m' kd hk
 have he:=eq_s hk hd sFig znP
 have hW:=zeL (k+2) hv 0 1 []
 have hC:=zgz k hv hm []
 rw [zY hT rfl rfl (by simp [noLocs,noLoc,hn,hn2])]
 unfold opS
 cases e:peq kd (.str sFig) with
 |true =>
  rw [e] at he
  simp! [zck,zr,he,hW]
 |false =>
  rw [e] at he
  simp! [zck,zr,he,hC,Bool.false_eq_true,if_false]
theorem zlz:∀p∈d_ROWS,∃ks,p.2=.tp true ks/\ks.length<=4/\1<=ks.length/\∀x∈ks,tam 1 10 x=true:=by
 intro p hp
 simp only [d_ROWS,List.mem_cons,List.not_mem_nil,or_false] at hp
 rcases hp with rfl|rfl|rfl|rfl|rfl|rfl|rfl|rfl|rfl|rfl|rfl|rfl|rfl <;> refine ⟨_,rfl,by simp,by simp,fun x hx=>?_⟩ <;> simp only [List.mem_cons,List.not_mem_nil,or_false] at hx <;> (repeat' rcases hx with rfl|hx) <;> first|(subst hx;decide +kernel)|decide +kernel
theorem zhY {s:Str}{v:PV}:∀{D:List (Str×PV)},dlook s D=some v->(s,v)∈D
 | [],h=>by cases h
 | (a,b)::r,h=>by
  rw [dlook] at h
  by_cases e:a=s
  ·rw [if_pos (by simpa using e)] at h
   cases h
   rw [e]
   exact List.mem_cons_self
  ·rw [if_neg (by simpa using e)] at h
   exact List.mem_cons_of_mem _ (zhY h)
theorem zi8 {s:Str}{v:PV}(h:dlook s d_ROWS=some v):∃ks,v=.tp true ks/\ks.length<=4/\1<=ks.length/\∀x∈ks,tam 1 10 x=true:=zlz _ (zhY h)
theorem ziM (k:Nat){d m:Nat}{v:PV}(hv:tam d m v=true)(st:Store):callT T (k+1) zeo [v] st=.ok (.bl (namS v)) st:=by
 have hT:T zeo=some zb8:=rfl
 have hn:=zU d m v hv
 rw [zY hT rfl rfl (by simp [noLocs,noLoc,hn])]
 cases v with
 |tp b xs =>
  cases xs with
  |nil =>
   have h0:cmpV .gt (.int (([]:List PV).length:Int)) (.int 0)=some (.bl false):=rfl
   simp! [zb8,zr,isiV,isTy,isBl,zy,h0,namS]
   rfl
  |cons x r =>
   obtain ⟨_,_,h2⟩:=zap.1 hv
   have hx:=h2 x (by simp)
   have h0:decide ((0:Int)<((r.length+1:Nat):Int))=true:=decide_eq_true (by omega)
   cases x with
   |str s=>simp! [zb8,zr,isiV,isTy,isBl,zy,h0,ix0,ev.eq_29,dinV,namS]
   |loc _=>simp [tam] at hx
   |exn _=>simp [tam] at hx
   |scr _=>simp [tam] at hx
   |_=>simp! [zb8,zr,isiV,isTy,isBl,zy,h0,ix0,namS]
 |loc _=>simp [tam] at hv
 |exn _=>simp [tam] at hv
 |scr _=>simp [tam] at hv
 |_=>simp! [zb8,zr,isiV,isTy,isBl,namS]
noncomputable def frmB:Css:=match f_has_form.body with
 | .cons _ (.cons (.for _ _ b) _)=>b
 |_=>.nil
theorem zjj (k:Nat){d m:Nat}{p0:Option PV}(hm:m<=1000):∀(ks r:List PV) (u w:Option PV),(∀x∈ks,tam 1 10 x=true)->(∀x∈r,tam d m x=true) ->
  ∃u' w',forB (callT T (k+4)) (.t [2,3]) frmB (zipUp ks r) [p0,some (.bl true),u,w] []=if (zipUp ks r).all prS then .nx [p0,some (.bl true),u',w'] [] else .rt (.bl false) []
 | [],r,u,w,_,_=>⟨u,w,by simp only [zipUp,List.all_nil,if_true];rw [zce]⟩
 |k0::ks,[],u,w,_,_=>⟨u,w,by simp only [zipUp,List.all_nil,if_true];rw [zce]⟩
 |k0::ks,x::r,u,w,hk,hr=>by
  obtain ⟨u',w',e⟩:=zjj k (p0:=p0) hm ks r (some k0) (some x) (fun y hy=>hk y (List.mem_cons_of_mem _ hy)) fun y hy=>hr y (List.mem_cons_of_mem _ hy)
  refine ⟨u',w',?_⟩
  have ho:=zhA k (hr x List.mem_cons_self) hm (hk k0 List.mem_cons_self) (by omega) []
  have hp:prS (.tup [k0,x])=opS k0 x:=rfl
  have hst:exs (callT T (k+4)) [p0,some (.bl true),some k0,some x] [] frmB=if opS k0 x then .nx [p0,some (.bl true),some k0,some x] [] else .rt (.bl false) []:=by
   cases q:opS k0 x with
   |true=>rw [q] at ho;simp! [frmB,f_has_form,ho]
   |false=>rw [q] at ho;simp! [frmB,f_has_form,ho,Bool.false_eq_true,if_false]
  rw [zipUp,zbD (ρ1:=[p0,some (.bl true),some k0,some x]) rfl,hst,List.all_cons,hp]
  cases q:opS k0 x with
  |true=>simp only [if_true,againF,Bool.true_and];exact e
  |false=>simp only [Bool.false_eq_true,if_false,againF,Bool.false_and]
theorem cut1 {b:Bool}{x:PV}{r:List PV}:slcV (.tp b (x::r)) (some 1) .non=some (.tp false r):=by
 have h:clampI (r.length+1) 1=1:=by
  show min 1 (r.length+1)=1
  omega
 simp only [slcV,optI,slcO,loOf,hiOf,List.length_cons,h]
 rw [if_neg (by omega)]
 simp [cut,loOf,hiOf,h]
theorem znI {d m d' m':Nat}{v w:PV}(hv:tam d m v=true)(hd:d<=60)(hw:tam d' m' w=true)(hd':d'<=60):cmpV .ne v w=some (.bl (!peq v w)):=by
 have h1:shp v=true:=zdv hv hd
 have h2:shp w=true:=zdv hw hd'
 simp only [cmpV]
 rw [if_pos (by rw [h1,h2];rfl)]
theorem zb9 (a b:Str):peq (.str a) (.str b)=decide (a=b):=by
 simp only [peq]
 rw [Bool.eq_iff_iff]
 simp
theorem zj4:dlook sTimes d_ROWS=some (.tp true [.str "cell",.str "cell",.str "cell",.str "cell"]):=by with_unfolding_all rfl
theorem ziL (k:Nat){d m:Nat}{v:PV}(hv:tam d m v=true)(hd:d<=60)(hm:m<=1000)(st:Store):callT T (k+5) zg7 [v,.bl true] st=.ok (.bl (rowS v)) st:=by
 have hT:T zg7=some ⟨2,4,true,f_has_form.body⟩:=rfl
 have hn:=zU d m v hv
 have hN:=ziM (k+3) hv []
 have hb:f_has_form.body=(match f_has_form.body with
  | .cons a (.cons (.for t i _) r)=>.cons a (.cons (.for t i frmB) r)
  |_=>.nil):=rfl
 rw [zY hT rfl rfl (by simp [noLocs,noLoc,hn])]
 dsimp only
 rw [hb]
 by_cases hx:∃b s r,v=.tp b (.str s::r)/\(dlook s d_ROWS).isSome=true
 ·obtain ⟨b,s,r,rfl,hs⟩:=hx
  obtain ⟨h0,h1,h2⟩:=zap.1 hv
  obtain ⟨kv,hkv⟩:=Option.isSome_iff_exists.1 hs
  obtain ⟨ks,rfl,hk4,hk1,hkt⟩:=zi8 hkv
  have hN:callT T (k+4) zeo [.tp b (.str s::r)] []=.ok (.bl true) []:=by
   rw [hN]
   simp only [namS,hs]
  have hrow:rowS (.tp b (.str s::r))=(decide (r.length=ks.length) && ((zipUp ks r).all prS && (!decide (s=sTimes) || unl r))):=by
   simp only [rowS,hkv]
  rw [hrow]
  have hdx:∀st,toR (dixV d_ROWS (.str s)) st=.ok (.tp true ks) st:=fun st=>by simp only [dixV,hkv,toR]
  have hne:cmpV .ne (.int ((r.length+1:Nat):Int)) (.int ((ks.length:Int)+1))=some (.bl (!decide (r.length=ks.length))):=by
   have:=zdO (r.length+1) (ks.length+1)
   rw [show decide (r.length+1=ks.length+1)=decide (r.length=ks.length) from decide_eq_decide.mpr (by omega)] at this
   exact this
  by_cases hl:r.length=ks.length
  ·rw [decide_eq_true hl] at hne ⊢
   obtain ⟨u',w',e⟩:=zjj k (p0:=some (.tp b (.str s::r))) (d:=d - 1) hm ks r none none hkt (fun x hx=>h2 x (List.mem_cons_of_mem _ hx))
   have hz:zipV (.tp true ks) (.tp false r)=some (zipUp ks r):=by simp only [zipV];rw [if_pos (by omega)]
   have ht:=ne_s (h2 (.str s) List.mem_cons_self) (by omega) sTimes zjh
   rw [zb9] at ht
   cases hall:(zipUp ks r).all prS with
   |false =>
    rw [hall] at e
    simp! [f_has_form,hN,zy,ix0,ev.eq_28,hdx,hne,zcm,cut1,hz,e,Bool.false_eq_true,if_false,Bool.true_and,Bool.false_and,zr]
   |true =>
    rw [hall] at e
    by_cases hst:s=sTimes
    ·subst hst
     have hk:ks.length=4:=by rw [zj4] at hkv;cases hkv;rfl
     obtain ⟨a,c,hi1,hi2,hu,ha,hc⟩:∃a c,(∀st,idxV st (.tp b (.str sTimes::r)) (.int 1)=some a)/\(∀st,idxV st (.tp b (.str sTimes::r)) (.int 2)=some c)/\unl r=!peq a c/\a∈r/\c∈r:=by
      rw [hk] at hl
      match r,hl with
      |a::c::r',_=>exact ⟨a,c,fun st=>ix1,fun st=>ix2,rfl,by simp,by simp⟩
     have hac:=znI (h2 a (List.mem_cons_of_mem _ ha)) (by omega) (h2 c (List.mem_cons_of_mem _ hc)) (by omega)
     rw [decide_eq_true rfl] at ht
     simp! [f_has_form,hN,zy,ix0,hi1,hi2,ev.eq_28,hdx,hne,zcm,cut1,hz,e,Bool.true_and,zr,ht,hac,hu,decide_true,Bool.false_or]
    ·rw [decide_eq_false hst] at ht
     simp! [f_has_form,hN,zy,ix0,ev.eq_28,hdx,hne,zcm,cut1,hz,e,Bool.true_and,zr,ht,decide_eq_false hst,Bool.true_or]
  ·rw [decide_eq_false hl] at hne ⊢
   simp! [f_has_form,hN,zy,ix0,ev.eq_28,hdx,hne,Bool.false_and,zr]
 ·have h1:namS v=false:=by
   unfold namS
   split
   ·rename_i b s r
    cases q:(dlook s d_ROWS).isSome with
    |false=>rfl
    |true=>exact absurd ⟨b,s,r,rfl,q⟩ hx
   ·rfl
  have h2:rowS v=false:=by
   unfold rowS
   split
   ·rename_i b s r
    split
    ·rename_i ks q
     exact absurd ⟨b,s,r,rfl,by rw [q];rfl⟩ hx
    ·rfl
   ·rfl
  have hN:callT T (k+4) zeo [v] []=.ok (.bl false) []:=by rw [hN,h1]
  rw [h2]
  simp! [f_has_form,hN,zr]
theorem zgP (k:Nat){d m:Nat}{v:PV}(hv:tam d m v=true)(hd:d<=60)(hm:m<=1000)(st:Store):callT T (k+6) zfn [v] st=.ok (.bl (rowS v)) st:=by
 have hT:T zfn=some zcu:=rfl
 have hn:=zU d m v hv
 have hF:=ziL k hv hd hm []
 rw [zY hT rfl rfl (by simp [noLocs,noLoc,hn])]
 simp! [zcu,hF,zr]
theorem zgI (k:Nat){d m:Nat}{v:PV}(hv:tam d m v=true)(hm:m<=1000)(st:Store):callT T (k+3) zdo [v] st=.ok (.bl (celS v)) st:=by
 have hT:T zdo=some zbd:=rfl
 have hn:=zU d m v hv
 rw [zY hT rfl rfl (by simp [noLocs,noLoc,hn])]
 cases v with
 |tp b xs =>
  obtain ⟨h0,h1,h2⟩:=zap.1 hv
  by_cases h:xs.length=2
  ·obtain ⟨l,a,rfl⟩:∃l a,xs=[l,a]:=by
    match xs,h with
    | [l,a],_=>exact ⟨l,a,rfl⟩
   have hl:cmpV .eq (.int ((2:Nat):Int)) (.int 2)=some (.bl true):=rfl
   have hL:=zfc (k+1) (h2 l (by simp)) hm []
   have hW:callT T (k+2) zcB [a,.int 4,.int 200] []=.ok (.bl (told 4 a)) []:=zbU k (h2 a (by simp)) hm 4 []
   have hc:celS (.tp b [l,a])=(ltr l && told 4 a):=rfl
   rw [hc]
   cases e:ltr l with
   |false =>
    rw [e] at hL
    simp! [zbd,zr,isiV,isTy,isBl,zy,hl,ix0,hL,Bool.false_and]
   |true =>
    rw [e] at hL
    simp! [zbd,zr,isiV,isTy,isBl,zy,hl,ix0,ix1,hL,hW,Bool.true_and]
  ·have hl:cmpV .eq (.int (xs.length:Int)) (.int 2)=some (.bl false):=by
    have:=zd3 xs.length 2
    rw [decide_eq_false h] at this
    exact this
   have ht:celS (.tp b xs)=false:=by
    unfold celS
    split
    ·rename_i e;cases e;simp at h
    ·rfl
   rw [ht]
   simp! [zbd,zr,isiV,isTy,isBl,zy,hl]
 |loc _=>simp [tam] at hv
 |exn _=>simp [tam] at hv
 |scr _=>simp [tam] at hv
 |_=>simp! [zbd,zr,isiV,isTy,isBl,celS]
noncomputable def lawD0:List (PV×PV):=[(.str "move",.int 3),(.str "bare",.int 3),(.str "twice",.int 3),(.str "half",.int 3),(.str "sum",.int 4),(.str "less",.int 4),(.str "both",.int 4),(.str "any",.int 4),(.str "odd",.int 4)]
noncomputable def lawD:List (PV×PV):=lawD0++[(.str "times",.int 5)]
noncomputable def newE:Ce:=match f_qtelling_row.body with
 | .cons _ (.cons _ (.cons _ (.cons _ (.cons (.asg _ e) _))))=>e
 |_=>.nope
theorem znR {call:Cl}{ρ:IC.Env}:ev call ρ [] newE=.ok (.loc 0) [.dct false lawD0]:=by with_unfolding_all rfl
theorem zoo:dputV [.dct false lawD0] (.loc 0) (.str "times") (.int 5)=some [.dct false lawD]:=by with_unfolding_all rfl
noncomputable def lenD (s:Str):Int:=match look (.str s) lawD with
 |some (.int i)=>i
 |_=>0
theorem zlF:∀p∈lawD,∃i,p.2=.int i:=by
 intro p hp
 simp only [lawD,lawD0,List.cons_append,List.nil_append,List.mem_cons,List.not_mem_nil,or_false] at hp
 rcases hp with rfl|rfl|rfl|rfl|rfl|rfl|rfl|rfl|rfl|rfl <;> exact ⟨_,rfl⟩
theorem zi7 {k v:PV}:∀{D:List (PV×PV)},look k D=some v->∃p∈D,p.2=v
 | [],h=>by cases h
 | (a,b)::r,h=>by
  rw [look] at h
  by_cases e:peq a k=true
  ·rw [if_pos e] at h
   exact ⟨(a,b),List.mem_cons_self,Option.some.inj h⟩
  ·rw [if_neg e] at h
   obtain ⟨p,hp,q⟩:=zi7 h
   exact ⟨p,List.mem_cons_of_mem _ hp,q⟩
theorem zjk (s:Str):getV [.dct false lawD] (.loc 0) (.str s) (.int 0)=.ok (.int (lenD s)) [.dct false lawD]:=by
 have hk:isKey false (.str s)=true:=rfl
 have hd:dctOf [.dct false lawD] (.loc 0)=some (false,lawD):=rfl
 simp only [getV,hd,hk,if_true,lenD]
 cases q:look (.str s) lawD with
 |none=>rfl
 |some v =>
  obtain ⟨p,hp,e⟩:=zi7 q
  obtain ⟨i,hi⟩:=zlF p hp
  rw [hi] at e
  subst e
  rfl
noncomputable abbrev pCell:PV:=.str "cell"
theorem cls (s:Str)(h1:s≠Str.ofString "mark")(h2:s≠Str.ofString "ask")(h3:s≠Str.ofString "set") :
  (dlook s d_ROWS=none/\lenD s=0) \/ ∃n,2<=n/\n<=4/\dlook s d_ROWS=some (.tp true (List.replicate n pCell))/\lenD s=((n+1:Nat):Int):=by
 by_cases a1:s=Str.ofString "move"
 ·subst a1;exact .inr ⟨2,by omega,by omega,by with_unfolding_all rfl,by with_unfolding_all rfl⟩
 by_cases a2:s=Str.ofString "bare"
 ·subst a2;exact .inr ⟨2,by omega,by omega,by with_unfolding_all rfl,by with_unfolding_all rfl⟩
 by_cases a3:s=Str.ofString "twice"
 ·subst a3;exact .inr ⟨2,by omega,by omega,by with_unfolding_all rfl,by with_unfolding_all rfl⟩
 by_cases a4:s=Str.ofString "half"
 ·subst a4;exact .inr ⟨2,by omega,by omega,by with_unfolding_all rfl,by with_unfolding_all rfl⟩
 by_cases a5:s=Str.ofString "times"
 ·subst a5;exact .inr ⟨4,by omega,by omega,by with_unfolding_all rfl,by with_unfolding_all rfl⟩
 by_cases a6:s=Str.ofString "sum"
 ·subst a6;exact .inr ⟨3,by omega,by omega,by with_unfolding_all rfl,by with_unfolding_all rfl⟩
 by_cases a7:s=Str.ofString "less"
 ·subst a7;exact .inr ⟨3,by omega,by omega,by with_unfolding_all rfl,by with_unfolding_all rfl⟩
 by_cases a8:s=Str.ofString "both"
 ·subst a8;exact .inr ⟨3,by omega,by omega,by with_unfolding_all rfl,by with_unfolding_all rfl⟩
 by_cases a9:s=Str.ofString "any"
 ·subst a9;exact .inr ⟨3,by omega,by omega,by with_unfolding_all rfl,by with_unfolding_all rfl⟩
 by_cases a0:s=Str.ofString "odd"
 ·subst a0;exact .inr ⟨3,by omega,by omega,by with_unfolding_all rfl,by with_unfolding_all rfl⟩
 have c:∀{x:Str},¬s=x->¬x=s:=fun h e=>h e.symm
 refine .inl ⟨?_,?_⟩
 ·simp only [d_ROWS,dlook,decide_eq_true_eq,c h1,c h2,c h3,c a1,c a2,c a3,c a4,c a5,c a6,c a7,c a8,c a9,c a0,if_false]
 ·simp only [lenD,lawD,lawD0,List.cons_append,List.nil_append,look,zb9,decide_eq_true_eq,c a1,c a2,c a3,c a4,c a5,c a6,c a7,c a8,c a9,c a0,if_false]
theorem zgi:∀(n:Nat) (r:List PV),r.length=n->(zipUp (List.replicate n pCell) r).all prS=r.all celS
 |0,[],_=>rfl
 |n+1,x::r,h=>by
  have hp:prS (.tup [pCell,x])=celS x:=by
   have:peq pCell (.str sFig)=false:=by rw [zb9];decide +kernel
   simp only [prS,opS,this,Bool.false_eq_true,if_false]
  rw [List.replicate_succ,zipUp,List.all_cons,List.all_cons,hp,zgi n r (by simpa using h)]
 |0,_::_,h=>by simp at h
 |n+1,[],h=>by simp at h
theorem in01 {d m:Nat}{v:PV}(hv:tam d m v=true):(isI v=true->cmpV .isin v (.tp false [.int 0,.int 1])=some (.bl (wh 0 1 v)))/\(isI v=false->wh 0 1 v=false):=by
 cases v with
 |int i =>
  refine ⟨fun _=>?_,fun z=>(by cases z)⟩
  show some (PV.bl (inL (.int i) [.int 0,.int 1]))=_
  congr 2
  simp only [inL,peq,wh,Bool.or_false]
  rw [Bool.eq_iff_iff]
  simp
  omega
 |_=>exact ⟨fun z=>(by cases z),fun _=>rfl⟩
theorem zk9 (a b:Nat):cmpV .lt (.int a) (.int b)=some (.bl (decide (a<b))):=by
 rw [c_lt]
 by_cases h:a<b
 ·rw [decide_eq_true h,decide_eq_true (by omega)]
 ·rw [decide_eq_false h,decide_eq_false (by omega)]
noncomputable def rwT1:Css:=match f_qtelling_row.body with | .cons _ r=>r|x=>x
noncomputable def rwT2:Css:=match rwT1 with | .cons _ r=>r|x=>x
noncomputable def rwT3:Css:=match rwT2 with | .cons _ r=>r|x=>x
noncomputable def rwT4:Css:=match rwT3 with | .cons _ r=>r|x=>x
noncomputable def rwT5:Css:=match rwT4 with | .cons _ (.cons _ r)=>r|x=>x
noncomputable def rwT6:Css:=match rwT5 with | .cons _ r=>r|x=>x
theorem rwS0:f_qtelling_row.body=(match f_qtelling_row.body with | .cons a _=>.cons a rwT1|x=>x):=rfl
theorem rwS1:rwT1=(match f_qtelling_row.body with | .cons _ (.cons a _)=>.cons a rwT2|x=>x):=rfl
theorem rwS2:rwT2=(match f_qtelling_row.body with | .cons _ (.cons _ (.cons a _))=>.cons a rwT3|x=>x):=rfl
theorem rwS3:rwT3=(match f_qtelling_row.body with | .cons _ (.cons _ (.cons _ (.cons a _)))=>.cons a rwT4|x=>x):=rfl
theorem rwS4:rwT4=(match f_qtelling_row.body with | .cons _ (.cons _ (.cons _ (.cons _ (.cons (.asg t _) (.cons b _)))))=>.cons (.asg t newE) (.cons b rwT5)|x=>x):=rfl
theorem rwS5:rwT5=(match f_qtelling_row.body with | .cons _ (.cons _ (.cons _ (.cons _ (.cons _ (.cons _ (.cons a _))))))=>.cons a rwT6|x=>x):=rfl
theorem rwS6:rwT6=(match f_qtelling_row.body with | .cons _ (.cons _ (.cons _ (.cons _ (.cons _ (.cons _ (.cons _ a))))))=>a|x=>x):=rfl
theorem zjL (k:Nat){d m:Nat}{v:PV}(hv:tam d m v=true)(hd:d<=60)(hm:m<=1000)(st:Store):callT T (k+4) zeD [v] st=.ok (.bl (rowS v)) st:=by
 have hT:T zeD=some ⟨1,2,true,f_qtelling_row.body⟩:=rfl
 have hn:=zU d m v hv
 rw [zY hT rfl rfl (by simp [noLocs,noLoc,hn])]
 dsimp only
 have hE:List.map some [v]++List.replicate (2 - 1) none=[some v,none]:=rfl
 rw [hE]
 by_cases hx:∃b s x r,v=.tp b (.str s::x::r)
 ·obtain ⟨b,s,x,r,rfl⟩:=hx
  obtain ⟨h0,h1,h2⟩:=zap.1 hv
  have hlt:cmpV .lt (.int ((r.length+1+1:Nat):Int)) (.int 2)=some (.bl false):=by
   have:=zk9 (r.length+1+1) 2
   rw [decide_eq_false (by omega)] at this
   exact this
  have em:=eq_s (h2 (.str s) List.mem_cons_self) (by omega) (Str.ofString "mark") (by decide +kernel)
  have ea:=eq_s (h2 (.str s) List.mem_cons_self) (by omega) (Str.ofString "ask") (by decide +kernel)
  have es:=eq_s (h2 (.str s) List.mem_cons_self) (by omega) (Str.ofString "set") (by decide +kernel)
  rw [zb9] at em ea es
  have hx1:=h2 x (by simp)
  have hC:=zgI k hx1 hm []
  have hW:=zcQ (k+2) hx1 []
  have g0:exs (callT T (k+3)) [some (.tp b (.str s::x::r)),none] [] f_qtelling_row.body=exs (callT T (k+3)) [some (.tp b (.str s::x::r)),none] [] rwT1:=by
   rw [rwS0]
   simp! [f_qtelling_row,isiV,isTy,isBl,zy,hlt,ix0]
  rw [g0,rwS1]
  by_cases c1:s=Str.ofString "mark"
  ·have hrow:rowS (.tp b (.str s::x::r))=(decide (r.length=0) && wh 0 1 x):=by
    subst c1
    have hk:dlook (Str.ofString "mark") d_ROWS=some (.tp true [.str sFig]):=by with_unfolding_all rfl
    have ht:decide (Str.ofString "mark"=sTimes)=false:=by decide +kernel
    have hp:prS (.tup [.str sFig,x])=wh 0 1 x:=by
     have:peq (.str sFig) (.str sFig)=true:=by rw [zb9];simp
     simp only [prS,opS,this,if_true]
    cases r with
    |nil=>simp [rowS,hk,zipUp,hp,ht]
    |cons y r=>simp [rowS,hk]
   rw [hrow]
   rw [decide_eq_true c1] at em
   have hl:=zd3 (r.length+1+1) 2
   rw [show decide (r.length+1+1=2)=decide (r.length=0) from decide_eq_decide.mpr (by omega)] at hl
   have hl:cmpV .eq (.int ((r.length+1+1:Nat):Int)) (.int 2)=some (.bl (decide (r.length=0))):=hl
   obtain ⟨i1,i2⟩:=in01 hx1
   cases q:decide (r.length=0) with
   |false =>
    rw [q] at hl
    simp! [f_qtelling_row,zr,zy,ix0,em,hl,Bool.false_and]
   |true =>
    rw [q] at hl
    cases w:isI x with
    |false =>
     rw [w] at hW
     rw [i2 w]
     simp! [f_qtelling_row,zr,zy,ix0,ix1,em,hl,hW,Bool.true_and]
    |true =>
     rw [w] at hW
     have i1:=i1 w
     simp! [f_qtelling_row,zr,zy,ix0,ix1,em,hl,hW,i1,Bool.true_and]
  ·rw [decide_eq_false c1] at em
   have g1:exs (callT T (k+3)) [some (.tp b (.str s::x::r)),none] [] (match f_qtelling_row.body with | .cons _ (.cons a _)=>.cons a rwT2|x=>x)=exs (callT T (k+3)) [some (.tp b (.str s::x::r)),none] [] rwT2:=by
    simp! [f_qtelling_row,ix0,em]
   rw [g1,rwS2]
   by_cases c2:s=Str.ofString "ask"
   ·have hrow:rowS (.tp b (.str s::x::r))=(decide (r.length=0) && celS x):=by
     subst c2
     have hk:dlook (Str.ofString "ask") d_ROWS=some (.tp true [pCell]):=by with_unfolding_all rfl
     have ht:decide (Str.ofString "ask"=sTimes)=false:=by decide +kernel
     have hp:prS (.tup [pCell,x])=celS x:=by
      have:peq pCell (.str sFig)=false:=by rw [zb9];decide +kernel
      simp only [prS,opS,this,Bool.false_eq_true,if_false]
     cases r with
     |nil=>simp [rowS,hk,zipUp,hp,ht]
     |cons y r=>simp [rowS,hk]
    rw [hrow]
    rw [decide_eq_true c2] at ea
    have hl:=zd3 (r.length+1+1) 2
    rw [show decide (r.length+1+1=2)=decide (r.length=0) from decide_eq_decide.mpr (by omega)] at hl
    have hl:cmpV .eq (.int ((r.length+1+1:Nat):Int)) (.int 2)=some (.bl (decide (r.length=0))):=hl
    cases q:decide (r.length=0) with
    |false =>
     rw [q] at hl
     simp! [f_qtelling_row,zr,zy,ix0,ea,hl,Bool.false_and]
    |true =>
     rw [q] at hl
     simp! [f_qtelling_row,zr,zy,ix0,ix1,ea,hl,hC,Bool.true_and]
   ·rw [decide_eq_false c2] at ea
    have g2:exs (callT T (k+3)) [some (.tp b (.str s::x::r)),none] [] (match f_qtelling_row.body with | .cons _ (.cons _ (.cons a _))=>.cons a rwT3|x=>x)=exs (callT T (k+3)) [some (.tp b (.str s::x::r)),none] [] rwT3:=by
     simp! [f_qtelling_row,ix0,ea]
    rw [g2,rwS3]
    by_cases c3:s=Str.ofString "set"
    ·have hp:prS (.tup [pCell,x])=celS x:=by
      have:peq pCell (.str sFig)=false:=by rw [zb9];decide +kernel
      simp only [prS,opS,this,Bool.false_eq_true,if_false]
     have hk:dlook s d_ROWS=some (.tp true [pCell,.str sFig]):=by subst c3;with_unfolding_all rfl
     have ht:decide (s=sTimes)=false:=by subst c3;decide +kernel
     rw [decide_eq_true c3] at es
     have hl:=zd3 (r.length+1+1) 3
     rw [show decide (r.length+1+1=3)=decide (r.length=1) from decide_eq_decide.mpr (by omega)] at hl
     have hl:cmpV .eq (.int ((r.length+1+1:Nat):Int)) (.int 3)=some (.bl (decide (r.length=1))):=hl
     by_cases q:r.length=1
     ·obtain ⟨y,rfl⟩:∃y,r=[y]:=by
       match r,q with
       | [y],_=>exact ⟨y,rfl⟩
      have hy:=h2 y (by simp)
      have hW2:=zcQ (k+2) hy []
      obtain ⟨i1,i2⟩:=in01 hy
      have hp2:prS (.tup [.str sFig,y])=wh 0 1 y:=by
       have:peq (.str sFig) (.str sFig)=true:=by rw [zb9];simp
       simp only [prS,opS,this,if_true]
      have hrow:rowS (.tp b (.str s::x::[y]))=(celS x && wh 0 1 y):=by simp [rowS,hk,zipUp,hp,hp2,ht]
      rw [hrow]
      have hl:cmpV .eq (.int ((3:Nat):Int)) (.int 3)=some (.bl true):=rfl
      have hlt:cmpV .lt (.int ((3:Nat):Int)) (.int 2)=some (.bl false):=rfl
      cases z:celS x with
      |false =>
       rw [z] at hC
       simp! [f_qtelling_row,zr,zy,ix0,ix1,es,hl,hC,Bool.false_and]
      |true =>
       rw [z] at hC
       cases w:isI y with
       |false =>
        rw [w] at hW2
        rw [i2 w]
        simp! [f_qtelling_row,zr,zy,ix0,ix1,ix2,es,hl,hC,hW2,Bool.true_and]
       |true =>
        rw [w] at hW2
        have i1:=i1 w
        simp! [f_qtelling_row,zr,zy,ix0,ix1,ix2,es,hl,hC,hW2,i1,Bool.true_and]
     ·rw [decide_eq_false q] at hl
      have hrow:rowS (.tp b (.str s::x::r))=false:=by
       simp only [rowS,hk]
       rw [decide_eq_false (by simp;exact q)]
       rfl
      rw [hrow]
      simp! [f_qtelling_row,zr,zy,ix0,es,hl]
    ·rw [decide_eq_false c3] at es
     have g3:exs (callT T (k+3)) [some (.tp b (.str s::x::r)),none] [] (match f_qtelling_row.body with | .cons _ (.cons _ (.cons _ (.cons a _)))=>.cons a rwT4|x=>x)=exs (callT T (k+3)) [some (.tp b (.str s::x::r)),none] [] rwT4:=by
      simp! [f_qtelling_row,ix0,es]
     have g4:exs (callT T (k+3)) [some (.tp b (.str s::x::r)),none] [] rwT4=exs (callT T (k+3)) [some (.tp b (.str s::x::r)),some (.loc 0)] [.dct false lawD] rwT5:=by
      rw [rwS4]
      simp! [f_qtelling_row,znR,znU,zoo,zhj]
     rw [g3,g4,rwS5]
     have hmg:∀(o:PV),mthOk .get [.dct false lawD] (.loc 0)=some true:=fun _=>rfl
     have hmg:=hmg .non
     have hcut:=cut1 (b:=b) (x:=.str s) (r:=x::r)
     have hcmp:compB (callT T (k+3)) [none] (.n 0) (.cst (.bl true)) (.call zdo (.cons (.var 0) .nil)) (x::r) [.dct false lawD]=.ok ((x::r).map fun y=>.bl (celS y)) [.dct false lawD]:=by
      refine zbE _ fun p hp=>?_
      have:=zgI k (h2 p (List.mem_cons_of_mem _ hp)) hm [.dct false lawD]
      simp! [oneB,this]
     have hlr:lstR (.ok ((x::r).map fun y=>PV.bl (celS y)) [.dct false lawD])=.ok (.lst ((x::r).map fun y=>.bl (celS y))) [.dct false lawD]:=zcc _ (by rw [List.length_map];simp only [List.length_cons] at h1 ⊢;omega) _
     have ht:=ne_s (h2 (.str s) List.mem_cons_self) (by omega) sTimes zjh
     rw [zb9] at ht
     rcases cls s c1 c2 c3 with ⟨k0,l0⟩|⟨n,n2,n4,k0,l0⟩
     ·have hrow:rowS (.tp b (.str s::x::r))=false:=by simp only [rowS,k0]
      rw [hrow]
      have hne:cmpV .ne (.int (lenD s)) (.int ((r.length+1+1:Nat):Int))=some (.bl true):=by
       have:=zdO 0 (r.length+1+1)
       rw [decide_eq_false (by omega)] at this
       rw [l0];exact this
      simp! [f_qtelling_row,zr,zy,ix0,hmg,mget,zjk,hne]
     ·have hne:cmpV .ne (.int (lenD s)) (.int ((r.length+1+1:Nat):Int))=some (.bl (!decide (r.length+1=n))):=by
       have:=zdO (n+1) (r.length+1+1)
       rw [show decide (n+1=r.length+1+1)=decide (r.length+1=n) from decide_eq_decide.mpr (by omega)] at this
       rw [l0];exact this
      by_cases hl:r.length+1=n
      ·have hrow:rowS (.tp b (.str s::x::r))=((x::r).all celS && (!decide (s=sTimes) || unl (x::r))):=by
        simp only [rowS,k0,List.length_replicate]
        rw [decide_eq_true (by simpa using hl),zgi n (x::r) (by simpa using hl),Bool.true_and]
       rw [hrow]
       rw [decide_eq_true hl] at hne
       have hall:=fun st=>zdr celS (x::r) st
       simp only [List.map_cons] at hlr hall hcmp
       cases z:(x::r).all celS with
       |false =>
        rw [z] at hall
        simp! [f_qtelling_row,zr,zy,ix0,hmg,mget,zjk,hne,zcm,hcut,hcmp,hlr,hall,Bool.false_and]
       |true =>
        rw [z] at hall
        have g5:exs (callT T (k+3)) [some (.tp b (.str s::x::r)),some (.loc 0)] [.dct false lawD] (match f_qtelling_row.body with | .cons _ (.cons _ (.cons _ (.cons _ (.cons _ (.cons _ (.cons a _))))))=>.cons a rwT6|x=>x)=exs (callT T (k+3)) [some (.tp b (.str s::x::r)),some (.loc 0)] [.dct false lawD] rwT6:=by
         simp! [f_qtelling_row,zy,ix0,hmg,mget,zjk,hne,zcm,hcut,hcmp,hlr,hall]
        rw [g5,rwS6]
        by_cases hst:s=sTimes
        ·obtain ⟨y,r',rfl⟩:∃y r',r=y::r':=by
          cases r with
          |nil=>simp at hl;omega
          |cons y r'=>exact ⟨y,r',rfl⟩
         have hac:=znI hx1 (by omega) (h2 y (by simp)) (by omega)
         rw [decide_eq_true hst] at ht ⊢
         have hu:unl (x::y::r')=!peq x y:=rfl
         rw [hu]
         skip
         simp! [f_qtelling_row,zr,ix0,ix1,ix2,ht,hac,Bool.true_and,Bool.false_or]
        ·rw [decide_eq_false hst] at ht ⊢
         simp! [f_qtelling_row,zr,ix0,ht,Bool.true_and,Bool.true_or]
      ·have hrow:rowS (.tp b (.str s::x::r))=false:=by
        simp only [rowS,k0,List.length_replicate]
        rw [decide_eq_false (by simpa using hl)]
        rfl
       rw [hrow]
       rw [decide_eq_false hl] at hne
       simp! [f_qtelling_row,zr,zy,ix0,hmg,mget,zjk,hne]
 ·have hrow:rowS v=false:=by
   unfold rowS
   split
   ·rename_i b s r
    split
    ·rename_i k1 ks q
     obtain ⟨ks',e,_,h1,_⟩:=zi8 q
     cases e
     cases r with
     |nil=>rw [decide_eq_false (by simp;omega)];rfl
     |cons x r=>exact absurd ⟨b,s,x,r,rfl⟩ hx
    ·rfl
   ·rfl
  rw [hrow,rwS0]
  cases v with
  |tp b xs =>
   obtain ⟨h0,h1,h2⟩:=zap.1 hv
   cases xs with
   |nil =>
    have hlt:cmpV .lt (.int (([]:List PV).length:Int)) (.int 2)=some (.bl true):=rfl
    simp! [f_qtelling_row,zr,isiV,isTy,isBl,zy,hlt]
    rfl
   |cons y r =>
    cases r with
    |nil =>
     have hlt:cmpV .lt (.int ((1:Nat):Int)) (.int 2)=some (.bl true):=rfl
     simp! [f_qtelling_row,zr,isiV,isTy,isBl,zy,hlt]
    |cons x r =>
     have hlt:cmpV .lt (.int ((r.length+1+1:Nat):Int)) (.int 2)=some (.bl false):=by
      have:=zk9 (r.length+1+1) 2
      rw [decide_eq_false (by omega)] at this
      exact this
     have hy:=h2 y (by simp)
     cases y with
     |str s=>exact absurd ⟨b,s,x,r,rfl⟩ hx
     |loc _=>simp [tam] at hy
     |exn _=>simp [tam] at hy
     |scr _=>simp [tam] at hy
     |_=>simp! [f_qtelling_row,zr,isiV,isTy,isBl,zy,hlt,ix0]
  |loc _=>simp [tam] at hv
  |exn _=>simp [tam] at hv
  |scr _=>simp [tam] at hv
  |_=>simp! [f_qtelling_row,zr,isiV,isTy,isBl]
noncomputable abbrev sRow:Str:=Str.ofString "row"
noncomputable abbrev sRnd:Str:=Str.ofString "rounds"
theorem zjP:sRow.cps.all (· < 0x110000)=true:=by decide +kernel
theorem zk8:sRnd.cps.all (· < 0x110000)=true:=by decide +kernel
noncomputable def parsS (f:PV->Bool):PV->Bool
 | .tp _ xs=>xs.all f
 |_=>false
noncomputable def in1:List PV->Bool
 | [x]=>rowS x
 |_=>false
noncomputable def in3 (ok:Bool)(f:PV->Bool):List PV->Bool
 | [c,s,ps]=>ok && (told 3 c && (sen s && parsS f ps))
 |_=>false
noncomputable def prt (ok:Bool)(f:PV->Bool):PV->Bool
 | .tp _ (h::r)=>if peq h (.str sRow) then in1 r else peq h (.str sRnd) && in3 ok f r
 |_=>false
theorem zmA {r:List PV}(h:¬r.length=1):in1 r=false:=by
 match r with
 | []=>rfl
 | [x]=>simp at h
 |_::_::_=>rfl
theorem zmx {ok:Bool}{f:PV->Bool}{r:List PV}(h:¬r.length=3):in3 ok f r=false:=by
 match r with
 | []=>rfl
 | [_]=>rfl
 | [_,_]=>rfl
 | [c,s,ps]=>simp at h
 |_::_::_::_::_=>rfl
theorem zcZ (j n:Nat){d m:Nat}{g:PV->Bool}{v:PV}(hv:tam d m v=true)(hm:m<=1000)(hp:∀x,tam (d - 1) m x=true->callT T j zcI [x,.int n] []=.ok (.bl (g x)) [])(st:Store) :
  callT T (j+1) zb6 [v,.int n] st=.ok (.bl (parsS g v)) st:=by
 have hT:T zb6=some zcH:=rfl
 have hn:=zU d m v hv
 rw [zY hT rfl rfl (by simp [noLocs,noLoc,hn])]
 cases v with
 |tp b xs =>
  obtain ⟨h0,h1,h2⟩:=zap.1 hv
  have hc:compB (callT T j) [none,some (.int n)] (.n 0) (.cst (.bl true)) (.call zcI (.cons (.var 0) (.cons (.var 1) .nil))) xs []=.ok (xs.map fun x=>.bl (g x)) []:=by
   refine zbE _ fun p hp'=>?_
   have:=hp p (h2 p hp')
   simp! [oneB,this]
  simp! [zcH,zr,isiV,isTy,isBl,hc]
  rw [zcc _ (by rw [List.length_map];omega)]
  simp! [zdr,zr,parsS]
 |loc _=>simp [tam] at hv
 |exn _=>simp [tam] at hv
 |scr _=>simp [tam] at hv
 |_=>simp! [zcH,zr,isiV,isTy,isBl,parsS]
noncomputable def ipT1:Css:=match f_is_part.body with | .cons _ r=>r|x=>x
noncomputable def ipT2:Css:=match ipT1 with | .cons _ r=>r|x=>x
noncomputable def ipT3:Css:=match ipT2 with | .cons _ r=>r|x=>x
theorem ipS0:f_is_part.body=(match f_is_part.body with | .cons a _=>.cons a ipT1|x=>x):=rfl
theorem ipS1:ipT1=(match f_is_part.body with | .cons _ (.cons a _)=>.cons a ipT2|x=>x):=rfl
theorem ipS2:ipT2=(match f_is_part.body with | .cons _ (.cons _ (.cons a _))=>.cons a ipT3|x=>x):=rfl
theorem ipS3:ipT3=(match f_is_part.body with | .cons _ (.cons _ (.cons _ a))=>a|x=>x):=rfl
theorem zed (k n:Nat){d m:Nat}{f:PV->Bool}{v:PV}(hv:tam d m v=true)(hd:d<=60)(hm:m<=1000)(hp:0<n->∀x,tam (d - 1) m x=true->callT T (k+6) zb6 [x,.int ((n:Int) - 1)] []=.ok (.bl (parsS f x)) [])(st:Store) :
  callT T (k+7) zcI [v,.int n] st=.ok (.bl (prt (decide (0<n)) f v)) st:=by
 have hT:T zcI=some ⟨2,2,true,f_is_part.body⟩:=rfl
 have hn:=zU d m v hv
 rw [zY hT rfl rfl (by simp [noLocs,noLoc,hn])]
 dsimp only
 rw [ipS0]
 cases v with
 |tp b xs =>
  obtain ⟨h0,h1,h2⟩:=zap.1 hv
  cases xs with
  |nil =>
   have hl:cmpV .eq (.int ((0:Nat):Int)) (.int 0)=some (.bl true):=rfl
   simp! [f_is_part,zr,isiV,isTy,isBl,zy,hl,prt]
  |cons h r =>
   have hh:=h2 h (by simp)
   have hl0:cmpV .eq (.int ((r.length+1:Nat):Int)) (.int 0)=some (.bl false):=by
    have:=zd3 (r.length+1) 0
    rw [decide_eq_false (by omega)] at this
    exact this
   have he:=eq_s hh (by omega) sRow zjP
   have r0:exs (callT T (k+6)) [some (.tp b (h::r)),some (.int n)] [] (match f_is_part.body with | .cons a _=>.cons a ipT1|x=>x)=exs (callT T (k+6)) [some (.tp b (h::r)),some (.int n)] [] ipT1:=by
    simp! [f_is_part,isiV,isTy,isBl,zy,hl0]
   simp only [List.map_cons,List.map_nil,List.replicate,Nat.reduceSub,List.append_nil]
   rw [r0,ipS1]
   cases e:peq h (.str sRow) with
   |true =>
    rw [e] at he
    have hpr:prt (decide (0<n)) f (.tp b (h::r))=in1 r:=by simp only [prt,e,if_true]
    rw [hpr]
    by_cases q:r.length=1
    ·obtain ⟨x,rfl⟩:∃x,r=[x]:=by
      match r,q with
      | [x],_=>exact ⟨x,rfl⟩
     have hR:=zgP k (h2 x (by simp)) (by omega) hm []
     have hl:cmpV .eq (.int ((2:Nat):Int)) (.int 2)=some (.bl true):=rfl
     simp! [f_is_part,zr,zy,hl,ix0,ix1,he,hR,in1]
    ·have hl:cmpV .eq (.int ((r.length+1:Nat):Int)) (.int 2)=some (.bl false):=by
      have:=zd3 (r.length+1) 2
      rw [decide_eq_false (by omega)] at this
      exact this
     rw [zmA q]
     simp! [f_is_part,zr,zy,hl,ix0,he]
   |false =>
    rw [e] at he
    have hpr:prt (decide (0<n)) f (.tp b (h::r))=(peq h (.str sRnd) && in3 (decide (0<n)) f r):=by simp only [prt,e,Bool.false_eq_true,if_false]
    rw [hpr]
    have hne:=ne_s hh (by omega) sRnd zk8
    have r1:exs (callT T (k+6)) [some (.tp b (h::r)),some (.int n)] [] (match f_is_part.body with | .cons _ (.cons a _)=>.cons a ipT2|x=>x)=exs (callT T (k+6)) [some (.tp b (h::r)),some (.int n)] [] ipT2:=by
     simp! [f_is_part,ix0,he]
    rw [r1,ipS2]
    cases e2:peq h (.str sRnd) with
    |false =>
     rw [e2] at hne
     simp! [f_is_part,zr,ix0,hne,Bool.false_and,Bool.not_false]
    |true =>
     rw [e2] at hne
     rw [Bool.true_and]
     by_cases q:r.length=3
     ·obtain ⟨c,s,ps,rfl⟩:∃c s ps,r=[c,s,ps]:=by
       match r,q with
       | [c,s,ps],_=>exact ⟨c,s,ps,rfl⟩
      have hl:cmpV .ne (.int ((4:Nat):Int)) (.int 4)=some (.bl false):=rfl
      have hz:=zd3 n 0
      have hz:cmpV .eq (.int (n:Int)) (.int 0)=some (.bl (decide (n=0))):=hz
      by_cases n0:n=0
      ·rw [decide_eq_true n0] at hz
       have hi:in3 (decide (0<n)) f [c,s,ps]=false:=by rw [decide_eq_false (by omega)];rfl
       rw [hi]
       simp! [f_is_part,zr,zy,hl,ix0,hne,hz,Bool.not_true]
      ·rw [decide_eq_false n0] at hz
       have hi:in3 (decide (0<n)) f [c,s,ps]=(told 3 c && (sen s && parsS f ps)):=by rw [decide_eq_true (by omega)];rfl
       rw [hi]
       have hA:callT T (k+6) zcb [c,.int 3] []=.ok (.bl (told 3 c)) []:=zcz (k+4) (h2 c (by simp)) hm 3 []
       have hS:=zgO k (h2 s (by simp)) (by omega) hm []
       have hP:=hp (by omega) ps (h2 ps (by simp))
       have r2:exs (callT T (k+6)) [some (.tp b [h,c,s,ps]),some (.int n)] [] (match f_is_part.body with | .cons _ (.cons _ (.cons a _))=>.cons a ipT3|x=>x)=exs (callT T (k+6)) [some (.tp b [h,c,s,ps]),some (.int n)] [] ipT3:=by
        simp! [f_is_part,zy,hl,ix0,hne,hz,Bool.not_true]
       rw [r2,ipS3]
       cases z1:told 3 c with
       |false =>
        rw [z1] at hA
        simp! [f_is_part,zr,ix1,hA,Bool.not_true,Bool.false_and]
       |true =>
        rw [z1] at hA
        cases z2:sen s with
        |false =>
         rw [z2] at hS
         simp! [f_is_part,zr,ix1,ix2,hA,hS,Bool.not_true,Bool.false_and,Bool.true_and]
        |true =>
         rw [z2] at hS
         simp! [f_is_part,zr,ix1,ix2,ix3,hA,hS,b_sub,hP,Bool.not_true,Bool.true_and]
     ·have hl:cmpV .ne (.int ((r.length+1:Nat):Int)) (.int 4)=some (.bl true):=by
       have:=zdO (r.length+1) 4
       rw [decide_eq_false (by omega)] at this
       exact this
      rw [zmx q]
      simp! [f_is_part,zr,zy,hl,ix0,hne,Bool.not_true]
 |loc _=>simp [tam] at hv
 |exn _=>simp [tam] at hv
 |scr _=>simp [tam] at hv
 |_=>simp! [f_is_part,zr,isiV,isTy,isBl,prt]
noncomputable def lpT1:Css:=match f_qpart.body with | .cons _ r=>r|x=>x
noncomputable def lpT2:Css:=match lpT1 with | .cons _ r=>r|x=>x
noncomputable def lpT3:Css:=match lpT2 with | .cons _ r=>r|x=>x
theorem lpS0:f_qpart.body=(match f_qpart.body with | .cons a _=>.cons a lpT1|x=>x):=rfl
theorem lpS1:lpT1=(match f_qpart.body with | .cons _ (.cons a _)=>.cons a lpT2|x=>x):=rfl
theorem lpS2:lpT2=(match f_qpart.body with | .cons _ (.cons _ (.cons a _))=>.cons a lpT3|x=>x):=rfl
theorem lpS3:lpT3=(match f_qpart.body with | .cons _ (.cons _ (.cons _ a))=>a|x=>x):=rfl
theorem zdi (k n:Nat){d m:Nat}{f:PV->Bool}{v:PV}(hv:tam d m v=true)(hd:d<=60)(hm:m<=1000)(hp:n<=1->∀x,tam (d - 1 - 1) m x=true->callT T (k+4) zdV [x,.int ((n:Int)+1)] []=.ok (.bl (f x)) [])(st:Store) :
  callT T (k+5) zdV [v,.int n] st=.ok (.bl (prt (decide (n<=1)) f v)) st:=by
 have hT:T zdV=some ⟨2,2,true,f_qpart.body⟩:=rfl
 have hn:=zU d m v hv
 rw [zY hT rfl rfl (by simp [noLocs,noLoc,hn])]
 dsimp only
 rw [lpS0]
 cases v with
 |tp b xs =>
  obtain ⟨h0,h1,h2⟩:=zap.1 hv
  cases xs with
  |nil =>
   have hl:cmpV .lt (.int ((0:Nat):Int)) (.int 2)=some (.bl true):=rfl
   simp! [f_qpart,zr,isiV,isTy,isBl,zy,hl,prt]
  |cons h r =>
   have hh:=h2 h (by simp)
   cases r with
   |nil =>
    have hl:cmpV .lt (.int ((1:Nat):Int)) (.int 2)=some (.bl true):=rfl
    have hpr:prt (decide (n<=1)) f (.tp b [h])=false:=by
     simp only [prt,in1,in3,Bool.and_false,ite_self]
    rw [hpr]
    simp! [f_qpart,zr,isiV,isTy,isBl,zy,hl]
   |cons y r =>
   have hl0:cmpV .lt (.int ((r.length+1+1:Nat):Int)) (.int 2)=some (.bl false):=by
    have:=zk9 (r.length+1+1) 2
    rw [decide_eq_false (by omega)] at this
    exact this
   have he:=eq_s hh (by omega) sRow zjP
   have r0:exs (callT T (k+4)) [some (.tp b (h::y::r)),some (.int n)] [] (match f_qpart.body with | .cons a _=>.cons a lpT1|x=>x)=exs (callT T (k+4)) [some (.tp b (h::y::r)),some (.int n)] [] lpT1:=by
    simp! [f_qpart,isiV,isTy,isBl,zy,hl0]
   simp only [List.map_cons,List.map_nil,List.replicate,Nat.reduceSub,List.append_nil]
   rw [r0,lpS1]
   cases e:peq h (.str sRow) with
   |true =>
    rw [e] at he
    have hpr:prt (decide (n<=1)) f (.tp b (h::y::r))=in1 (y::r):=by simp only [prt,e,if_true]
    rw [hpr]
    by_cases q:r.length=0
    ·obtain rfl:r=[]:=List.length_eq_zero_iff.1 q
     have hR:=zjL k (h2 y (by simp)) (by omega) hm []
     have hl:cmpV .eq (.int ((2:Nat):Int)) (.int 2)=some (.bl true):=rfl
     simp! [f_qpart,zr,zy,hl,ix0,ix1,he,hR,in1]
    ·have hl:cmpV .eq (.int ((r.length+1+1:Nat):Int)) (.int 2)=some (.bl false):=by
      have:=zd3 (r.length+1+1) 2
      rw [decide_eq_false (by omega)] at this
      exact this
     rw [zmA (by simpa using q)]
     simp! [f_qpart,zr,zy,hl,ix0,he]
   |false =>
    rw [e] at he
    have hpr:prt (decide (n<=1)) f (.tp b (h::y::r))=(peq h (.str sRnd) && in3 (decide (n<=1)) f (y::r)):=by simp only [prt,e,Bool.false_eq_true,if_false]
    rw [hpr]
    have hne:=ne_s hh (by omega) sRnd zk8
    have r1:exs (callT T (k+4)) [some (.tp b (h::y::r)),some (.int n)] [] (match f_qpart.body with | .cons _ (.cons a _)=>.cons a lpT2|x=>x)=exs (callT T (k+4)) [some (.tp b (h::y::r)),some (.int n)] [] lpT2:=by
     simp! [f_qpart,ix0,he]
    rw [r1,lpS2]
    cases e2:peq h (.str sRnd) with
    |false =>
     rw [e2] at hne
     simp! [f_qpart,zr,ix0,hne,Bool.false_and,Bool.not_false]
    |true =>
     rw [e2] at hne
     rw [Bool.true_and]
     by_cases q:r.length=2
     ·obtain ⟨s,ps,rfl⟩:∃s ps,r=[s,ps]:=by
       match r,q with
       | [s,ps],_=>exact ⟨s,ps,rfl⟩
      have hl:cmpV .ne (.int ((4:Nat):Int)) (.int 4)=some (.bl false):=rfl
      have hz:=zkl n 1
      have hz:cmpV .gt (.int (n:Int)) (.int 1)=some (.bl (decide (1<n))):=hz
      by_cases n0:1<n
      ·rw [decide_eq_true n0] at hz
       have hi:in3 (decide (n<=1)) f [y,s,ps]=false:=by rw [decide_eq_false (by omega)];rfl
       rw [hi]
       simp! [f_qpart,zr,zy,hl,ix0,hne,hz,Bool.not_true]
      ·rw [decide_eq_false n0] at hz
       have hi:in3 (decide (n<=1)) f [y,s,ps]=(told 3 y && (sen s && parsS f ps)):=by rw [decide_eq_true (by omega)];rfl
       rw [hi]
       have hA:callT T (k+4) zcB [y,.int 3,.int 200] []=.ok (.bl (told 3 y)) []:=zbU (k+2) (h2 y (by simp)) hm 3 []
       have hS:=zjt k (h2 s (by simp)) (by omega) hm []
       cases z1:told 3 y with
       |false =>
        rw [z1] at hA
        simp! [f_qpart,zr,zy,hl,ix0,ix1,hne,hz,hA,Bool.not_true,Bool.not_false,Bool.false_and]
       |true =>
        rw [z1] at hA
        have r2:exs (callT T (k+4)) [some (.tp b [h,y,s,ps]),some (.int n)] [] (match f_qpart.body with | .cons _ (.cons _ (.cons a _))=>.cons a lpT3|x=>x)=exs (callT T (k+4)) [some (.tp b [h,y,s,ps]),some (.int n)] [] lpT3:=by
         simp! [f_qpart,zy,hl,ix0,ix1,hne,hz,hA,Bool.not_true]
        rw [r2,lpS3]
        cases z2:sen s with
        |false =>
         rw [z2] at hS
         simp! [f_qpart,zr,ix2,hS,Bool.not_true,Bool.not_false,Bool.false_and,Bool.true_and]
        |true =>
         rw [z2] at hS
         have hps:=h2 ps (by simp)
         cases ps with
         |tp b' ws =>
          obtain ⟨g0,g1,g2⟩:=zap.1 hps
          have hc:compB (callT T (k+4)) [none,some (.int n)] (.n 0) (.cst (.bl true)) (.call zdV (.cons (.var 0) (.cons (.bin .add (.var 1) (.cst (.int 1))) .nil))) ws []=.ok (ws.map fun x=>.bl (f x)) []:=by
           refine zbE _ fun p hp'=>?_
           have:=hp (by omega) p (g2 p hp')
           simp! [oneB,b_add,this]
          simp! [f_qpart,zr,isiV,isTy,isBl,ix2,ix3,hS,hc,Bool.not_true,Bool.true_and]
          rw [zcc _ (by rw [List.length_map];omega)]
          simp! [zdr,zr,parsS,Bool.true_and]
         |loc _=>simp [tam] at hps
         |exn _=>simp [tam] at hps
         |scr _=>simp [tam] at hps
         |_=>simp! [f_qpart,zr,isiV,isTy,isBl,ix2,ix3,hS,Bool.not_true,Bool.not_false,Bool.true_and,parsS]
     ·have hl:cmpV .ne (.int ((r.length+1+1:Nat):Int)) (.int 4)=some (.bl true):=by
       have:=zdO (r.length+1+1) 4
       rw [decide_eq_false (by omega)] at this
       exact this
      rw [zmx (by simp;omega)]
      simp! [f_qpart,zr,zy,hl,ix0,hne,Bool.not_true]
 |loc _=>simp [tam] at hv
 |exn _=>simp [tam] at hv
 |scr _=>simp [tam] at hv
 |_=>simp! [f_qpart,zr,isiV,isTy,isBl,prt]
noncomputable def part0:PV->Bool:=prt false fun _=>false
noncomputable def part1:PV->Bool:=prt true part0
noncomputable def part2:PV->Bool:=prt true part1
theorem zgM (k:Nat){d m:Nat}{v:PV}(hv:tam d m v=true)(hd:d<=60)(hm:m<=1000)(st:Store):callT T (k+8) zds [v] st=.ok (.bl (parsS part2 v)) st:=by
 have hT:T zds=some zbZ:=rfl
 have hn:=zU d m v hv
 have p2:∀{d:Nat} (x:PV),d<=60->tam d m x=true->callT T (k+5) zdV [x,.int (2:Nat)] []=.ok (.bl (part0 x)) []:=fun x h hx=>zdi k 2 (f:=fun _=>false) hx h hm (fun z=>absurd z (by omega)) []
 have p1:∀{d:Nat} (x:PV),d<=60->tam d m x=true->callT T (k+6) zdV [x,.int (1:Nat)] []=.ok (.bl (part1 x)) []:=fun x h hx=>zdi (k+1) 1 (f:=part0) hx h hm (fun _ y hy=>p2 y (by omega) hy) []
 have p0:∀{d:Nat} (x:PV),d<=60->tam d m x=true->callT T (k+7) zdV [x,.int 0] []=.ok (.bl (part2 x)) []:=fun x h hx=>zdi (k+2) 0 (f:=part1) hx h hm (fun _ y hy=>p1 y (by omega) hy) []
 rw [zY hT rfl rfl (by simp [noLocs,noLoc,hn])]
 cases v with
 |tp b xs =>
  obtain ⟨h0,h1,h2⟩:=zap.1 hv
  have hc:compB (callT T (k+7)) [none] (.n 0) (.cst (.bl true)) (.call zdV (.cons (.var 0) (.cons (.cst (.int 0)) .nil))) xs []=.ok (xs.map fun x=>.bl (part2 x)) []:=by
   refine zbE _ fun p hp'=>?_
   have:=p0 p (by omega) (h2 p hp')
   simp! [oneB,this]
  simp! [zbZ,zr,isiV,isTy,isBl,hc]
  rw [zcc _ (by rw [List.length_map];omega)]
  simp! [zdr,zr,parsS]
 |loc _=>simp [tam] at hv
 |exn _=>simp [tam] at hv
 |scr _=>simp [tam] at hv
 |_=>simp! [zbZ,zr,isiV,isTy,isBl,parsS]
theorem zbu (k:Nat){d m:Nat}{v:PV}(hv:tam d m v=true)(hd:d<=60)(hm:m<=1000)(st:Store):callT T (k+13) za5 [v] st=.ok (.bl (parsS part2 v)) st:=by
 have hT:T za5=some zcR:=rfl
 have hn:=zU d m v hv
 have p0:∀{d:Nat} (x:PV),d<=60->tam d m x=true->callT T (k+7) zcI [x,.int (0:Nat)] []=.ok (.bl (part0 x)) []:=fun x h hx=>zed k 0 (f:=fun _=>false) hx h hm (fun z=>absurd z (by omega)) []
 have a0:∀{d:Nat} (x:PV),d<=60->tam d m x=true->callT T (k+8) zb6 [x,.int (0:Nat)] []=.ok (.bl (parsS part0 x)) []:=fun x h hx=>zcZ (k+7) 0 hx hm (fun y hy=>p0 y (by omega) hy) []
 have p1:∀{d:Nat} (x:PV),d<=60->tam d m x=true->callT T (k+9) zcI [x,.int (1:Nat)] []=.ok (.bl (part1 x)) []:=fun x h hx=>zed (k+2) 1 (f:=part0) hx h hm (fun _ y hy=>a0 y (by omega) hy) []
 have a1:∀{d:Nat} (x:PV),d<=60->tam d m x=true->callT T (k+10) zb6 [x,.int (1:Nat)] []=.ok (.bl (parsS part1 x)) []:=fun x h hx=>zcZ (k+9) 1 hx hm (fun y hy=>p1 y (by omega) hy) []
 have p2:∀{d:Nat} (x:PV),d<=60->tam d m x=true->callT T (k+11) zcI [x,.int (2:Nat)] []=.ok (.bl (part2 x)) []:=fun x h hx=>zed (k+4) 2 (f:=part1) hx h hm (fun _ y hy=>a1 y (by omega) hy) []
 have a2:callT T (k+12) zb6 [v,.int 2] []=.ok (.bl (parsS part2 v)) []:=zcZ (k+11) 2 hv hm (fun y hy=>p2 y (by omega) hy) []
 have hN:zfR=.int 2:=rfl
 rw [zY hT rfl rfl (by simp [noLocs,noLoc,hn])]
 simp! [zcR,zr,hN,a2]
structure Frm (ns:List Int)(B st:Store):Prop where
 dr:Drw ns 0 st
 len:B.length<=st.length
 get:∀m,m≠0->m<B.length->st[m]?=B[m]?
section
variable {ns:List Int}{B st st':Store}
theorem Frm.refl (h:Drw ns 0 st):Frm ns st st:=⟨h,Nat.le_refl _,fun _ _ _=>rfl⟩
theorem Frm.pos (h:Frm ns B st):0<st.length:=h.dr.pos
theorem Frm.app (h:Frm ns B st)(o:Ob):Frm ns B (st++[o]):=⟨h.dr.app o,by have:=h.len;simp;omega,fun m h0 h1=>by
 have:=h.len
 rw [List.getElem?_append_left (by omega)];exact h.get m h0 h1⟩
theorem Frm.put (h:Frm ns B st){L:Nat}(hL:L≠0)(hB:B.length<=L)(o:Ob):Frm ns B (st.set L o):=⟨h.dr.put hL o,by rw [List.length_set];exact h.len,fun m h0 h1=>by
 rw [List.getElem?_set_ne (by omega)];exact h.get m h0 h1⟩
theorem Onl.frm (h:Frm ns B st)(o:Onl ns 0 st st'):Frm ns B st':=⟨o.drw h.dr,by rw [o.len];exact h.len,fun m h0 h1=>by rw [o.get h0];exact h.get m h0 h1⟩
theorem Frm.trans {C:Store}(h:Frm ns B st)(g:Frm ns st C):Frm ns B C:=⟨g.dr,Nat.le_trans h.len g.len,fun m h0 h1=>by
 have:=h.len
 rw [g.get m h0 (by omega)];exact h.get m h0 h1⟩
theorem takeF (k:Nat)(hns:ns.length<=1000){m:Int}(hm:0<m)(hm2:m<10000000000000000000000000000000000000000000000000000000000000000000000)(h:Frm ns B st) :
  ∃d st',0<=d/\d<m/\Onl ns 0 st st'/\callT T (k+3) zaf [.loc 0,.int m] st=.ok (.int d) st':=takeD k hns hm hm2 h.dr
end
noncomputable def smE:Ce:=.bin .sub (.call zaf (.cons (.var 1) (.cons (.cst (.int 4)) .nil))) (.cst (.int 1))
theorem smalls {ns:List Int}(hns:ns.length<=1000)(k:Nat){B:Store}:∀(N:Nat) (a:Int) (st:Store),Frm ns B st->∃ys st',ys.length=N/\(∀y∈ys,∃i:Int,y=.int i/\-1<=i/\i<=2)/\Frm ns B st' /\
  compB (callT T (k+3)) [none,some (.loc 0)] (.n 0) (.cst (.bl true)) smE (rangeL N a 1) st=.ok ys st'
 |0,a,st,h=>⟨[],st,rfl,by simp,h,by rw [rangeL,zdT]⟩
 |N+1,a,st,h=>by
  obtain ⟨w,s1,w0,w1,o1,e1⟩:=takeF k hns (m:=4) (by omega) (by omega) h
  obtain ⟨ys,s3,l,t,g3,e3⟩:=smalls hns k N (a+1) s1 (o1.frm h)
  refine ⟨.int (w - 1)::ys,s3,by simp [l],fun y hy=>?_,g3,?_⟩
  ·rcases List.mem_cons.1 hy with rfl|hy
   ·exact ⟨w - 1,rfl,by omega,by omega⟩
   ·exact t y hy
  ·have one:oneB (callT T (k+3)) [none,some (.loc 0)] (.n 0) (.cst (.bl true)) smE (.int a) st=.ok (some (.int (w - 1))) s1:=by
    simp! [oneB,smE,e1]
   rw [rangeL,zdg,one,bd_ok,e3,bd_ok]
   rfl
theorem ziQ {n:Nat}{b:Bool}{xs:List PV}(hl:xs.length=n)(h:∀x∈xs,∃i:Int,x=.int i/\-200<=i/\i<=200):told n (.tp b xs)=true:=by
 simp only [told,Bool.and_eq_true,decide_eq_true_eq,List.all_eq_true]
 refine ⟨hl,fun x hx=>?_⟩
 obtain ⟨i,rfl,i0,i1⟩:=h x hx
 simp only [wh]
 rw [decide_eq_true i0,decide_eq_true i1];rfl
def isX4 (v:PV):Prop:=∃a b c d:Int,v=.tp false [.int a,.int b,.int c,.int d]/\-200<=a/\a<=200/\-200<=b/\b<=200/\-200<=c/\c<=200/\-200<=d/\d<=200
theorem ziE {v:PV}(h:isX4 v):told 4 v=true:=by
 obtain ⟨a,b,c,d,rfl,h⟩:=h
 refine ziQ rfl fun x hx=>?_
 simp only [List.mem_cons,List.not_mem_nil,or_false] at hx
 rcases hx with rfl|rfl|rfl|rfl
 ·exact ⟨a,rfl,by omega,by omega⟩
 ·exact ⟨b,rfl,by omega,by omega⟩
 ·exact ⟨c,rfl,by omega,by omega⟩
 ·exact ⟨d,rfl,by omega,by omega⟩
theorem zkv {v:PV}(h:isX4 v):tam 1 10 v=true:=by
 obtain ⟨a,b,c,d,rfl,h⟩:=h
 rfl
theorem zfA {ns:List Int}(hns:ns.length<=1000)(k:Nat){B st:Store}(h:Frm ns B st):∃v st',isX4 v/\Frm ns B st'/\callT T (k+4) zfh [.loc 0] st=.ok v st':=by
 have hT:T zfh=some zbv:=rfl
 obtain ⟨w,s1,w0,w1,o1,e1⟩:=takeF k hns (m:=8) (by omega) (by omega) h
 have g1:=o1.frm h
 obtain ⟨f,s2,f0,f1,o2,e2⟩:=takeF k hns (m:=100) (by omega) (by omega) g1
 have g2:=o2.frm g1
 obtain ⟨ys,s3,l,t,g3,e3⟩:=smalls hns k 3 0 s2 g2
 obtain ⟨y0,y1,y2,rfl⟩:∃y0 y1 y2,ys=[y0,y1,y2]:=by
  match ys,l with
  | [a,b,c],_=>exact ⟨a,b,c,rfl⟩
 obtain ⟨a,rfl,a0,a1⟩:=t y0 (by simp)
 obtain ⟨b,rfl,b0,b1⟩:=t y1 (by simp)
 obtain ⟨c,rfl,c0,c1⟩:=t y2 (by simp)
 have hr:rng1 (.int 3)=some (rangeL 3 0 1):=rfl
 have hE:lstR (.ok [PV.int a,.int b,.int c] s3)=.ok (.lst [.int a,.int b,.int c]) s3:=zcc _ (by simp) _
 have e3:compB (callT T (k+3)) [none,some (.loc 0)] (.n 0) (.cst (.bl true)) (.bin .sub (.call 19 (.cons (.var 1) (.cons (.cst (.int 4)) .nil))) (.cst (.int 1))) (rangeL 3 0 1) s2=.ok [.int a,.int b,.int c] s3:=e3
 have j0:∀s,idxV s (.lst [.int a,.int b,.int c]) (.int 0)=some (.int a):=fun s=>by simp [idxV,idxI,at?,ixI]
 have j1:∀s,idxV s (.lst [.int a,.int b,.int c]) (.int 1)=some (.int b):=fun s=>by simp [idxV,idxI,at?,ixI]
 have j2:∀s,idxV s (.lst [.int a,.int b,.int c]) (.int 2)=some (.int c):=fun s=>by simp [idxV,idxI,at?,ixI]
 by_cases h4:w<4
 ·refine ⟨_,s3,⟨f,0,0,0,rfl,by omega,by omega,by omega,by omega,by omega,by omega,by omega,by omega⟩,g3,?_⟩
  have hd:decide (w<4)=true:=decide_eq_true h4
  rw [zaC hT rfl rfl]
  simp! [zbv,zbR,e1,e2,hr,e3,hE,hd,Nat.zero_le]
 have hd:decide (w<4)=false:=decide_eq_false h4
 by_cases h7:w<7
 ·have hd7:decide (w<7)=true:=decide_eq_true h7
  refine ⟨_,s3,⟨10+f % 60,a,b,c,rfl,by omega,by omega,by omega,by omega,by omega,by omega,by omega,by omega⟩,g3,?_⟩
  have hm:binV .mod (.int f) (.int 60)=some (.int (f % 60)):=znC (by omega)
  rw [zaC hT rfl rfl]
  simp! [zbv,zbR,e1,e2,hr,e3,hE,hd,hd7,hm,j0,j1,j2,Nat.zero_le]
 have hd7:decide (w<7)=false:=decide_eq_false h7
 obtain ⟨q,s4,q0,q1,o4,e4⟩:=takeF k hns (m:=4) (by omega) (by omega) g3
 obtain ⟨z,zm,zi⟩:=zg8 (k:=false) (xs:=[.int 200,.int (-200),.int f,.int 0]) q0 (show q<((4:Nat):Int) from q1)
 obtain ⟨i,rfl,i0,i1⟩:∃i:Int,z=.int i/\-200<=i/\i<=200:=by
  simp only [List.mem_cons,List.not_mem_nil,or_false] at zm
  rcases zm with rfl|rfl|rfl|rfl
  ·exact ⟨200,rfl,by omega,by omega⟩
  ·exact ⟨-200,rfl,by omega,by omega⟩
  ·exact ⟨f,rfl,by omega,by omega⟩
  ·exact ⟨0,rfl,by omega,by omega⟩
 refine ⟨_,s4,⟨i,a,b,c,rfl,by omega,by omega,by omega,by omega,by omega,by omega,by omega,by omega⟩,o4.frm g3,?_⟩
 have htu:∀s,bltV .tuple s [.lst [.int i,.int a,.int b,.int c]]=some (.tp false [.int i,.int a,.int b,.int c]):=fun s=>rfl
 have hn2:∀ρ s,ev (callT T (k+3)) ρ s (.neg (.cst (.int 200)))=.ok (.int (-200)) s:=fun ρ s=>by simp only [ev,R.bind]
 rw [zaC hT rfl rfl]
 simp! [zbv,zbR,e1,e2,hr,e3,hE,hd,hd7,hn2,e4,zi,j0,j1,j2,htu,Nat.zero_le]
theorem zoz:∀n:Fin 26,sAbc.cps.toList[n.val]?=some (97+n.val):=by decide +kernel
theorem zmE {i:Int}(h0:0<=i)(h1:i<26):∃c,97<=c/\c<=122/\∀st,idxV st (.str sAbc) (.int i)=some (.str ⟨#[c]⟩):=by
 obtain ⟨n,rfl⟩:=zfD h0
 have hn:n<26:=by omega
 have hl:sAbc.length<=sizeMax:=by decide +kernel
 refine ⟨97+n,by omega,by omega,fun st=>?_⟩
 have e:=zoz ⟨n,hn⟩
 have hx:ixI sAbc.cps.toList.length (n:Int)=some n:=by
  rw [zmY]
  simp [ixI];omega
 simp only [idxV,if_pos hl,idxI,at?,hx,Option.bind_some,e,Option.map_some]
theorem ze0 {ns:List Int}(hns:ns.length<=1000)(k:Nat){st:Store}(h:Drw ns 0 st):∃c st',97<=c/\c<=122/\Onl ns 0 st st'/\callT T (k+4) zeB [.loc 0] st=.ok (.str ⟨#[c]⟩) st':=by
 have hT:T zeB=some zcd:=rfl
 obtain ⟨w,s1,w0,w1,o1,e1⟩:=takeD k hns (m:=26) (by omega) (by omega) h
 obtain ⟨c,c0,c1,hc⟩:=zmE w0 w1
 refine ⟨c,s1,c0,c1,o1,?_⟩
 rw [zaC hT rfl rfl]
 simp! [zcd,zbR,e1,hc]
def isX3 (v:PV):Prop:=∃a b c:Int,v=.tp false [.int a,.int b,.int c]/\-200<=a/\a<=200/\-200<=b/\b<=200/\-200<=c/\c<=200
theorem zmN {v:PV}(h:isX3 v):told 3 v=true:=by
 obtain ⟨a,b,c,rfl,h⟩:=h
 refine ziQ rfl fun x hx=>?_
 simp only [List.mem_cons,List.not_mem_nil,or_false] at hx
 rcases hx with rfl|rfl|rfl
 ·exact ⟨a,rfl,by omega,by omega⟩
 ·exact ⟨b,rfl,by omega,by omega⟩
 ·exact ⟨c,rfl,by omega,by omega⟩
theorem znZ {v:PV}(h:isX3 v):tam 1 10 v=true:=by
 obtain ⟨a,b,c,rfl,h⟩:=h
 rfl
noncomputable def cnT:Css:=match f_qsome_count.body with
 | .cons _ r=>r
 |_=>.nil
theorem cnE:f_qsome_count.body=(match f_qsome_count.body with | .cons a _=>.cons a cnT|x=>x):=rfl
noncomputable def cnT2:Css:=match f_qsome_count.body with
 | .cons _ (.cons _ (.cons _ r))=>r
 |_=>.nil
theorem cnE2:cnT=(match f_qsome_count.body with | .cons _ (.cons a (.cons b _))=>.cons a (.cons b cnT2)|x=>x):=rfl
theorem zjc {ns:List Int}(hns:ns.length<=1000)(k:Nat){B st:Store}(h:Frm ns B st){t:Int}(t0:0<=t)(t1:t<=1){p1 p2:Option PV}:∃v st',isX3 v/\Frm ns B st'/\exs (callT T (k+3)) [some (.loc 0),p1,p2,some (.int t),none,none] st cnT=.rt v st':=by
 obtain ⟨a,s1,a0,a1,o1,e1⟩:=takeF k hns (m:=4) (by omega) (by omega) h
 have g1:=o1.frm h
 obtain ⟨b,s2,b0,b1,o2,e2⟩:=takeF k hns (m:=3) (by omega) (by omega) g1
 have g2:=o2.frm g1
 obtain ⟨w,s3,w0,w1,o3,e3⟩:=takeF k hns (m:=8) (by omega) (by omega) g2
 have g3:=o3.frm g2
 have m1:binV .mul (.int a) (.int (1 - t))=some (.int (a*(1 - t))):=zhe (by omega)
 have m2:binV .mul (.int b) (.int (1 - t))=some (.int (b*(1 - t))):=zhe (by omega)
 have r1:0<=a*(1 - t)/\a*(1 - t)<=3/\0<=b*(1 - t)/\b*(1 - t)<=2:=by
  rcases (show t=0 \/ t=1 by omega) with rfl|rfl
  ·simp;omega
  ·simp
 rw [cnE2]
 by_cases k0:w=0
 ·obtain ⟨c,s4,c0,c1,o4,e4⟩:=takeF k hns (m:=201) (by omega) (by omega) g3
  have hb0:(w == 0)=true:=by simp [k0]
  have hb1:(w == 1)=false:=by simp;omega
  have hb2:(w == 2)=false:=by simp;omega
  refine ⟨_,s4,⟨0 - c,0,0,rfl,by omega,by omega,by omega,by omega,by omega,by omega⟩,o4.frm g3,?_⟩
  simp! [cnT2,f_qsome_count,e1,m1,e2,m2,e3,hb0,e4,hb1,hb2,Nat.zero_le]
 have hb0:(w == 0)=false:=beq_eq_false_iff_ne.2 k0
 by_cases k1:w=1
 ·obtain ⟨c,s4,c0,c1,o4,e4⟩:=takeF k hns (m:=4) (by omega) (by omega) g3
  have hb1:(w == 1)=true:=by simp [k1]
  have hb2:(w == 2)=false:=by simp;omega
  refine ⟨_,s4,⟨0 - c,2,0,rfl,by omega,by omega,by omega,by omega,by omega,by omega⟩,o4.frm g3,?_⟩
  simp! [cnT2,f_qsome_count,e1,m1,e2,m2,e3,hb0,e4,hb1,hb2,Nat.zero_le]
 have hb1:(w == 1)=false:=beq_eq_false_iff_ne.2 k1
 by_cases k2:w=2
 ·obtain ⟨c,s4,c0,c1,o4,e4⟩:=takeF k hns (m:=8) (by omega) (by omega) g3
  have g4:=o4.frm g3
  obtain ⟨d,s5,d0,d1,o5,e5⟩:=takeF k hns (m:=2) (by omega) (by omega) g4
  have hb2:(w == 2)=true:=by simp [k2]
  have hn:∀ρ s,ev (callT T (k+3)) ρ s (.neg (.cst (.int 1)))=.ok (.int (-1)) s:=fun ρ s=>by simp only [ev,R.bind]
  refine ⟨_,s5,⟨4+c,-1 - d,0,rfl,by omega,by omega,by omega,by omega,by omega,by omega⟩,o5.frm g4,?_⟩
  simp! [cnT2,f_qsome_count,e1,m1,e2,m2,e3,hb0,hb1,hb2,e4,hn,e5,Nat.zero_le]
 ·have hb2:(w == 2)=false:=beq_eq_false_iff_ne.2 k2
  refine ⟨_,s3,⟨a*(1 - t),b*(1 - t),t,rfl,by omega,by omega,by omega,by omega,by omega,by omega⟩,g3,?_⟩
  simp! [cnT2,f_qsome_count,e1,m1,e2,m2,e3,hb0,hb1,hb2,Nat.zero_le]
theorem zhc {ns:List Int}(hns:ns.length<=1000)(k:Nat){B st:Store}(h:Frm ns B st){w n:Int}(w0:0<=w)(w1:w<=1000):∃v st',isX3 v/\Frm ns B st'/\callT T (k+4) zcq [.loc 0,.int w,.int n] st=.ok v st':=by
 have hT:T zcq=some ⟨3,6,false,f_qsome_count.body⟩:=rfl
 have hm:binV .mul (.int w) (.int n)=some (.int (w*n)):=zkQ (by omega)
 have hi:∀s b,bltV .int s [.bl b]=some (.int (bi b)):=fun s b=>rfl
 cases hd:decide (w*n<13) with
 |false =>
  obtain ⟨v,s',x,g,e⟩:=zjc hns k h (t:=0) (by omega) (by omega) (p1:=some (.int w)) (p2:=some (.int n))
  refine ⟨v,s',x,g,?_⟩
  have h0:bi false=0:=rfl
  rw [zaC hT rfl rfl]
  dsimp only
  rw [cnE]
  simp! [f_qsome_count,hm,hd,hi,h0,e,zbR]
 |true =>
  obtain ⟨c,s1,c0,c1,o1,e1⟩:=takeF k hns (m:=4) (by omega) (by omega) h
  have g1:=o1.frm h
  obtain ⟨v,s',x,g,e⟩:=zjc hns k g1 (t:=bi (c == 0)) (by cases (c == 0) <;> decide) (by cases (c == 0) <;> decide) (p1:=some (.int w)) (p2:=some (.int n))
  refine ⟨v,s',x,g,?_⟩
  rw [zaC hT rfl rfl]
  dsimp only
  rw [cnE]
  simp! [f_qsome_count,hm,hd,e1,hi,e,zbR]
theorem zeH {st:Store}{L:Nat}{xs:List PV}{v:PV}(h:st[L]?=some (.lst xs))(hl:xs.length<1000):mthOk .append st (.loc L)=some true/\mthV .append st (.loc L) [v]=.ok .non (st.set L (.lst (xs++[v]))):=by
 constructor
 ·simp [mthOk,lstOf,h]
 ·simp only [mthV,appV,h]
  rw [if_pos (by omega)]
def isT (v:PV):Prop:=thg v=true/\tam 2 10 v=true
theorem znM:isT (.tp false [.str sMark]):=by
 refine ⟨by with_unfolding_all rfl,by decide +kernel⟩
theorem zmC {c:Nat}(c0:97<=c)(c1:c<=122){a b:PV}(ha:isX4 a)(hb:isX4 b):isT (.tp false [.str sSlice,.str ⟨#[c]⟩,a,b]):=by
 have h1:peq (.str sSlice) (.str sMark)=false:=by with_unfolding_all rfl
 have h2:peq (.str sSlice) (.str sSlice)=true:=by with_unfolding_all rfl
 have h3:ltr (.str ⟨#[c]⟩)=true:=by simp [ltr,c0,c1]
 refine ⟨?_,zap.2 ⟨by omega,by simp,fun x hx=>?_⟩⟩
 ·simp only [thg,h1,h2,Bool.false_eq_true,if_false,if_true,h3,ziE ha,ziE hb,Bool.and_self]
 ·simp only [List.mem_cons,List.not_mem_nil,or_false] at hx
  rcases hx with rfl|rfl|rfl|rfl
  ·decide +kernel
  ·exact zkS (by omega) (by omega)
  ·exact zkv ha
  ·exact zkv hb
noncomputable def snB:Css:=match f_qsome_sentence.body with
 | .cons _ (.cons (.for _ _ b) _)=>b
 |_=>.nil
noncomputable def snB1:Css:=match snB with
 | .cons _ (.cons (.for _ _ b) _)=>b
 |_=>.nil
theorem things {ns:List Int}(hns:ns.length<=1000)(k:Nat){B:Store}{L:Nat}(hL:L≠0)(hB:B.length<=L){p1 p2:Option PV}{r:List (Option PV)}:∀(N:Nat) (a:Int) (acc:List PV) (p4 p5:Option PV) (st:Store),Frm ns B st->st[L]?=some (.lst acc)->acc.length+N<=900->(∀y∈acc,isT y) ->
  ∃acc' q4 q5 st',acc'.length=acc.length+N/\(∀y∈acc',isT y)/\Frm ns B st'/\st'[L]?=some (.lst acc') /\
   forB (callT T (k+4)) (.n 4) snB1 (rangeL N a 1) (some (.loc 0)::p1::p2::some (.loc L)::p4::p5::r) st=.nx (some (.loc 0)::p1::p2::some (.loc L)::q4::q5::r) st'
 |0,a,acc,p4,p5,st,h,hs,hl,ht=>⟨acc,p4,p5,st,rfl,ht,h,hs,by rw [rangeL,zce]⟩
 |N+1,a,acc,p4,p5,st,h,hs,hl,ht=>by
  obtain ⟨w,s1,w0,w1,o1,e1⟩:=takeF (k+1) hns (m:=4) (by omega) (by omega) h
  have g1:=o1.frm h
  have e1:callT T (k+4) zaf [.loc 0,.int 4] st=_:=e1
  obtain ⟨v,s2,tv,g2,l2,e2⟩:∃v s2,isT v/\Frm ns B s2/\s2[L]?=some (.lst acc)/\exs (callT T (k+4)) (some (.loc 0)::p1::p2::some (.loc L)::some (.int a)::p5::r) st snB1=exs (callT T (k+4)) (some (.loc 0)::p1::p2::some (.loc L)::some (.int a)::some v::r) s2 (match snB1 with | .cons _ (.cons _ r)=>r|x=>x):=by
   cases hd:decide (0<w) with
   |false =>
    refine ⟨_,s1,znM,g1,by rw [o1.get hL];exact hs,?_⟩
    simp! [snB1,snB,f_qsome_sentence,Nat.zero_le,e1,hd]
   |true =>
    obtain ⟨c,s2,c0,c1,o2,e2⟩:=ze0 hns k g1.dr
    have g2:=o2.frm g1
    have hL1:L<st.length:=(List.getElem?_eq_some_iff.1 hs).1
    have hL2:L<s2.length:=by rw [o2.len,o1.len];exact hL1
    obtain ⟨x,s3,hx,f3,e3⟩:=zfA hns k (Frm.refl g2.dr)
    obtain ⟨y,s4,hy,f4,e4⟩:=zfA hns k (Frm.refl f3.dr)
    have l3:=f3.len
    refine ⟨_,s4,zmC c0 c1 hx hy,(g2.trans f3).trans f4,by rw [f4.get L hL (by omega),f3.get L hL hL2,o2.get hL,o1.get hL];exact hs,?_⟩
    simp! [snB1,snB,f_qsome_sentence,Nat.zero_le,e1,hd,e2,e3,e4]
  obtain ⟨m1,n1⟩:=zeH (v:=v) l2 (by omega)
  have hL2:L<s2.length:=(List.getElem?_eq_some_iff.1 l2).1
  obtain ⟨acc',q4,q5,st',r1,r2,r3,r4,r5⟩:=things hns k hL hB (p1:=p1) (p2:=p2) (r:=r) N (a+1) (acc++[v]) (some (.int a)) (some v) (s2.set L (.lst (acc++[v]))) (g2.put hL hB _) (rdS l2) (by simp;omega) (fun y hy=>by
   rcases List.mem_append.1 hy with hy|hy
   ·exact ht y hy
   ·simp only [List.mem_cons,List.not_mem_nil,or_false] at hy
    rw [hy];exact tv)
  refine ⟨acc',q4,q5,st',by rw [r1];simp;omega,r2,r3,r4,?_⟩
  have hb:exs (callT T (k+4)) (some (.loc 0)::p1::p2::some (.loc L)::some (.int a)::p5::r) st snB1=.nx (some (.loc 0)::p1::p2::some (.loc L)::some (.int a)::some v::r) (s2.set L (.lst (acc++[v]))):=by
   rw [e2]
   simp! [snB1,snB,f_qsome_sentence,m1,n1]
  rw [rangeL,zbD (ρ1:=some (.loc 0)::p1::p2::some (.loc L)::some (.int a)::p5::r) rfl,hb]
  exact r5
noncomputable def fiE:Ce:=.bin .sub (.call zaf (.cons (.var 1) (.cons (.cst (.int 5)) .nil))) (.cst (.int 1))
theorem fives {ns:List Int}(hns:ns.length<=1000)(k:Nat){B:Store}:∀(N:Nat) (a:Int) (st:Store),Frm ns B st->∃ys st',ys.length=N/\(∀y∈ys,∃i:Int,y=.int i/\-200<=i/\i<=200)/\Frm ns B st'/\Onl ns 0 st st' /\
  compB (callT T (k+4)) [none,some (.loc 0)] (.n 0) (.cst (.bl true)) fiE (rangeL N a 1) st=.ok ys st'
 |0,a,st,h=>⟨[],st,rfl,by simp,h,h.dr.refl,by rw [rangeL,zdT]⟩
 |N+1,a,st,h=>by
  obtain ⟨w,s1,w0,w1,o1,e1⟩:=takeF (k+1) hns (m:=5) (by omega) (by omega) h
  have e1:callT T (k+4) zaf [.loc 0,.int 5] st=_:=e1
  obtain ⟨ys,s3,l,t,g3,o3,e3⟩:=fives hns k N (a+1) s1 (o1.frm h)
  refine ⟨.int (w - 1)::ys,s3,by simp [l],fun y hy=>?_,g3,o1.trans o3,?_⟩
  ·rcases List.mem_cons.1 hy with rfl|hy
   ·exact ⟨w - 1,rfl,by omega,by omega⟩
   ·exact t y hy
  ·have one:oneB (callT T (k+4)) [none,some (.loc 0)] (.n 0) (.cst (.bl true)) fiE (.int a) st=.ok (some (.int (w - 1))) s1:=by
    simp! [oneB,fiE,e1]
   rw [rangeL,zdg,one,bd_ok,e3,bd_ok]
   rfl
def isM (v:PV):Prop:=trm v=true/\tam 4 10 v=true
theorem M_mk {f:Int}{ns ts:List PV}(f0:1 - 10 ^ 40<=f)(f1:f<=10 ^ 40 - 1)(hl:ns.length=6)(hn:∀x∈ns,∃i:Int,x=.int i/\-200<=i/\i<=200)(tl:ts.length<=2)(ht:∀y∈ts,isT y):isM (.tp false [.int f,.tp false ns,.tp false ts]):=by
 constructor
 ·simp only [trm,wh,ziQ hl hn,ths]
  rw [decide_eq_true f0,decide_eq_true f1,decide_eq_true tl,List.all_eq_true.2 fun x hx=>(ht x hx).1];rfl
 ·refine zap.2 ⟨by omega,by simp,fun x hx=>?_⟩
  simp only [List.mem_cons,List.not_mem_nil,or_false] at hx
  rcases hx with rfl|rfl|rfl
  ·rfl
  ·refine zap.2 ⟨by omega,by omega,fun x hx=>?_⟩
   obtain ⟨i,rfl,_⟩:=hn x hx
   rfl
  ·refine zap.2 ⟨by omega,by omega,fun x hx=>zbL (by omega) (by omega) _ (ht x hx).2⟩
def isS (v:PV):Prop:=sen v=true/\tam 5 10 v=true
theorem S_mk {ts:List PV}(tl:ts.length<=10)(ht:∀y∈ts,isM y):isS (.tp false ts):=by
 constructor
 ·simp only [sen]
  rw [decide_eq_true (by omega:ts.length<=20),List.all_eq_true.2 fun x hx=>(ht x hx).1];rfl
 ·exact zap.2 ⟨by omega,by omega,fun x hx=>zbL (by omega) (by omega) _ (ht x hx).2⟩
noncomputable def snT:Css:=match snB with
 | .cons _ (.cons _ r)=>r
 |x=>x
noncomputable def snT2:Css:=match snT with
 | .cons _ (.cons _ r)=>r
 |x=>x
theorem snE:snB=(match f_qsome_sentence.body with
 | .cons _ (.cons (.for _ _ (.cons a (.cons (.for t i _) _))) _)=>.cons a (.cons (.for t i snB1) snT)
 |x=>x):=rfl
theorem snE1:snT=(match f_qsome_sentence.body with
 | .cons _ (.cons (.for _ _ (.cons _ (.cons _ (.cons a (.cons b _))))) _)=>.cons a (.cons b snT2)
 |x=>x):=rfl
theorem snE2:snT2=(match f_qsome_sentence.body with
 | .cons _ (.cons (.for _ _ (.cons _ (.cons _ (.cons _ (.cons _ (.cons (.asg t (.thw (.comp sl tg it c2 _))) r)))))) _)=>.cons (.asg t (.thw (.comp sl tg it c2 fiE))) r
 |x=>x):=rfl
theorem zlL {ns:List Int}(hns:ns.length<=1000)(k:Nat){B st:Store}(h:Frm ns B st){L1 L3:Nat}(h1:L1≠0)(h3:L3≠0)(hB:B.length<=L1)(hne:L1≠L3){acc ts:List PV}(hs:st[L1]?=some (.lst acc))(hl:acc.length<900)(hs3:st[L3]?=some (.lst ts))(tl:ts.length<=2)(ht:∀y∈ts,isT y){f:Int}(f0:1 - 10 ^ 40<=f)(f1:f<=10 ^ 40 - 1){p2 p4 p5 p6 p8:Option PV} :
  ∃v q8 st',isM v/\Frm ns B st'/\st'[L1]?=some (.lst (acc++[v])) /\
   exs (callT T (k+4)) [some (.loc 0),some (.loc L1),p2,some (.loc L3),p4,p5,p6,some (.int f),p8] st snT2=.nx [some (.loc 0),some (.loc L1),p2,some (.loc L3),p4,p5,p6,some (.int f),q8] st':=by
 obtain ⟨ys,s1,l1,t1,g1,o1,e1⟩:=fives hns k 6 0 st h
 have hb1:L1<st.length:=(List.getElem?_eq_some_iff.1 hs).1
 have hb3:L3<st.length:=(List.getElem?_eq_some_iff.1 hs3).1
 have ln1:=o1.len
 have g2:=g1.app (.lst ys)
 obtain ⟨w,s2,w0,w1,o2,e2⟩:=takeF (k+1) hns (m:=4) (by omega) (by omega) g2
 have e2:callT T (k+4) zaf [.loc 0,.int 4] (s1++[.lst ys])=_:=e2
 have g3:=o2.frm g2
 obtain ⟨u,s3,u0,u1,o3,e3⟩:=takeF (k+1) hns (m:=6) (by omega) (by omega) g3
 have e3:callT T (k+4) zaf [.loc 0,.int 6] s2=_:=e3
 have g4:=o3.frm g3
 obtain ⟨z,zm,zi⟩:=zg8 (k:=false) (xs:=[.int 0,.int 1,.int 200,.int (-200)]) w0 (show w<((4:Nat):Int) from w1)
 have hz:∃i:Int,z=.int i/\-200<=i/\i<=200:=by
  simp only [List.mem_cons,List.not_mem_nil,or_false] at zm
  rcases zm with rfl|rfl|rfl|rfl
  ·exact ⟨0,rfl,by omega,by omega⟩
  ·exact ⟨1,rfl,by omega,by omega⟩
  ·exact ⟨200,rfl,by omega,by omega⟩
  ·exact ⟨-200,rfl,by omega,by omega⟩
 have pos:0<s1.length:=g1.pos
 have ln2:=o2.len
 have ln3:=o3.len
 rw [List.length_append,List.length_singleton] at ln2
 have hy:s3[s1.length]?=some (.lst ys):=by
  rw [o3.get (by omega),o2.get (by omega)];simp
 have hx:ixI ys.length u=some u.toNat:=zjn u0 (by omega)
 have hsix:sixV s3 (.loc s1.length) (.int u) z=some (s3.set s1.length (.lst (ys.set u.toNat z))):=by
  simp only [sixV,hy,hx]
 have r1:∀m,m≠0->m<st.length->∀o,(s3.set s1.length o)[m]?=st[m]?:=fun m m0 ml o=>by
  rw [List.getElem?_set_ne (by omega),o3.get m0,o2.get m0,List.getElem?_append_left (by omega),o1.get m0]
 have hb:∀y∈ys.set u.toNat z,∃i:Int,y=.int i/\-200<=i/\i<=200:=fun y hy=>by
  rcases List.mem_or_eq_of_mem_set hy with hy|hy
  ·exact t1 y hy
  ·rw [hy];exact hz
 obtain ⟨s5,hs5⟩:∃s5,s5=s3.set s1.length (.lst (ys.set u.toNat z)):=⟨_,rfl⟩
 rw [<- hs5] at hsix
 have j1:s5[L1]?=some (.lst acc):=by rw [hs5,r1 L1 h1 hb1];exact hs
 have j3:s5[L3]?=some (.lst ts):=by rw [hs5,r1 L3 h3 hb3];exact hs3
 have jn:s5[s1.length]?=some (.lst (ys.set u.toNat z)):=by rw [hs5];exact rdS hy
 have g5:Frm ns B s5:=by rw [hs5];exact g4.put (by omega) (by have:=g1.len;omega) _
 have tu:bltV .tuple s5 [.loc s1.length]=some (.tp false (ys.set u.toNat z)):=by simp [bltV,tupV,lstOf,jn]
 have tt:bltV .tuple s5 [.loc L3]=some (.tp false ts):=by simp [bltV,tupV,lstOf,j3]
 obtain ⟨m1,n1⟩:=zeH (v:=.tp false [.int f,.tp false (ys.set u.toNat z),.tp false ts]) j1 (by omega)
 refine ⟨_,some (.loc s1.length),s5.set L1 (.lst (acc++[.tp false [.int f,.tp false (ys.set u.toNat z),.tp false ts]])),M_mk f0 f1 (by rw [List.length_set];exact l1) hb tl ht,g5.put h1 hB _,rdS j1,?_⟩
 have hr:rng1 (.int 6)=some (rangeL 6 0 1):=rfl
 have hE:lstR (.ok ys s1)=.ok (.lst ys) s1:=zcc _ (by omega) _
 have hth:thwV (.lst ys) s1=.ok (.loc s1.length) (s1++[.lst ys]):=rfl
 have hn2:∀ρ s,ev (callT T (k+4)) ρ s (.neg (.cst (.int 200)))=.ok (.int (-200)) s:=fun ρ s=>by simp only [ev,R.bind]
 rw [snE2]
 simp! [f_qsome_sentence,ev.eq_30,hr,e1,hE,hth,hn2,e2,zi,e3,hsix,stO,m1,tu,tt,n1,Nat.zero_le]
theorem zlO {ns:List Int}(hns:ns.length<=1000)(k:Nat){B st:Store}(h:Frm ns B st){L1:Nat}(h1:L1≠0)(hB:B.length<=L1){acc:List PV}(hs:st[L1]?=some (.lst acc))(hl:acc.length<900){p2 p3 p4 p5 p6 p7 p8:Option PV} :
  ∃v q3 q4 q5 q6 q7 q8 st',isM v/\Frm ns B st'/\st'[L1]?=some (.lst (acc++[v])) /\
   exs (callT T (k+4)) [some (.loc 0),some (.loc L1),p2,p3,p4,p5,p6,p7,p8] st snB=.nx [some (.loc 0),some (.loc L1),p2,q3,q4,q5,q6,q7,q8] st':=by
 have hb1:L1<st.length:=(List.getElem?_eq_some_iff.1 hs).1
 have pos:=h.pos
 have g0:=h.app (.lst [])
 obtain ⟨n,s1,n0,n1,o1,e1⟩:=takeF (k+1) hns (m:=3) (by omega) (by omega) g0
 have e1:callT T (k+4) zaf [.loc 0,.int 3] (st++[.lst []])=_:=e1
 have g1:=o1.frm g0
 obtain ⟨n,rfl⟩:=zfD n0
 have hs1:s1[L1]?=some (.lst acc):=by rw [o1.get h1,List.getElem?_append_left hb1];exact hs
 have hs3:s1[st.length]?=some (.lst []):=by rw [o1.get (by omega)];simp
 obtain ⟨s1',hs1'⟩:∃s1',s1'=s1.set st.length .dead:=⟨_,rfl⟩
 have ln1:=o1.len
 rw [List.length_append,List.length_singleton] at ln1
 obtain ⟨ts,q4,q5,s2,l2,t2,f2,r2,e2⟩:=things hns k (B:=st) (L:=st.length) (by omega) (Nat.le_refl _) (p1:=some (.loc L1)) (p2:=p2) (r:=[p6,p7,p8]) n 0 [] p4 p5 s1 (o1.frm ((Frm.refl h.dr).app (.lst []))) hs3 (by simp;omega) (by simp)
 simp only [List.length_nil,Nat.zero_add] at l2
 have g2:Frm ns B s2:=h.trans f2
 have k1:s2[L1]?=some (.lst acc):=by rw [f2.get L1 h1 hb1];exact hs
 obtain ⟨w,s3,w0,w1,o3,e3⟩:=takeF (k+1) hns (m:=10000000000000000000000000000000000000000) (by omega) (by omega) g2
 have e3:callT T (k+4) zaf [.loc 0,.int 10000000000000000000000000000000000000000] s2=_:=e3
 have g3:=o3.frm g2
 obtain ⟨u,s4,u0,u1,o4,e4⟩:=takeF (k+1) hns (m:=2) (by omega) (by omega) g3
 have e4:callT T (k+4) zaf [.loc 0,.int 2] s3=_:=e4
 have g4:=o4.frm g3
 obtain ⟨x,s5,x0,x1,o5,e5⟩:=takeF (k+1) hns (m:=7) (by omega) (by omega) g4
 have e5:callT T (k+4) zaf [.loc 0,.int 7] s4=_:=e5
 have g5:=o5.frm g4
 obtain ⟨y,s6,y0,y1,o6,e6⟩:=takeF (k+1) hns (m:=2) (by omega) (by omega) g5
 have e6:callT T (k+4) zaf [.loc 0,.int 2] s5=_:=e6
 have g6:=o6.frm g5
 have mu:binV .mul (.int w) (.int (1 - 2*u))=some (.int (w*(1 - 2*u))):=zhe (by omega)
 have mu2:binV .mul (.int 2) (.int u)=some (.int (2*u)):=zkQ (by omega)
 have hw:-w<=w*(1 - 2*u)/\w*(1 - 2*u)<=w:=by
  rcases (show u=0 \/ u=1 by omega) with rfl|rfl
  ·simp;omega
  ·simp;omega
 obtain ⟨z,zm,zi⟩:=zg8 (k:=false) (xs:=[.int (x - 3),.int (w*(1 - 2*u))]) y0 (show y<((2:Nat):Int) from y1)
 obtain ⟨f,rfl,f0,f1⟩:∃f:Int,z=.int f/\1 - 10 ^ 40<=f/\f<=10 ^ 40 - 1:=by
  simp only [List.mem_cons,List.not_mem_nil,or_false] at zm
  rcases zm with rfl|rfl
  ·exact ⟨x - 3,rfl,by omega,by omega⟩
  ·exact ⟨_,rfl,by omega,by omega⟩
 have j:∀m,m≠0->s6[m]?=s2[m]?:=fun m m0=>by rw [o6.get m0,o5.get m0,o4.get m0,o3.get m0]
 obtain ⟨v,q8,s7,hv,g7,r7,e7⟩:=zlL hns k g6 (L3:=st.length) h1 (by omega) hB (by omega) (by rw [j L1 h1];exact k1) hl (by rw [j _ (by omega)];exact r2) (by omega) t2 f0 f1 (p2:=p2) (p4:=q4) (p5:=q5) (p6:=some (.int (w*(1 - 2*u)))) (p8:=p8)
 refine ⟨v,some (.loc st.length),q4,q5,some (.int (w*(1 - 2*u))),some (.int f),q8,s7,hv,g7,r7,?_⟩
 have hp:binV .pow (.int 10) (.int 40)=some (.int 10000000000000000000000000000000000000000):=rfl
 have hr:=zek n (by omega)
 rw [snE]
 simp! [f_qsome_sentence,Nat.zero_le,e1,hr,e2]
 rw [snE1]
 simp! [f_qsome_sentence,Nat.zero_le,hp,e3,mu2,e4,mu,e5,e6,zi,e7]
theorem zib {ns:List Int}(hns:ns.length<=1000)(k:Nat){B:Store}{L1:Nat}(h1:L1≠0)(hB:B.length<=L1):∀(N:Nat) (a:Int) (acc:List PV) (p2 p3 p4 p5 p6 p7 p8:Option PV) (st:Store),Frm ns B st->st[L1]?=some (.lst acc)->acc.length+N<=10->(∀y∈acc,isM y) ->
  ∃acc' ρ st',acc'.length<=10/\(∀y∈acc',isM y)/\Frm ns B st'/\st'[L1]?=some (.lst acc') /\
   forB (callT T (k+4)) (.n 2) snB (rangeL N a 1) [some (.loc 0),some (.loc L1),p2,p3,p4,p5,p6,p7,p8] st=.nx (some (.loc 0)::some (.loc L1)::ρ) st'
 |0,a,acc,p2,p3,p4,p5,p6,p7,p8,st,h,hs,hl,ht=>⟨acc,_,st,by omega,ht,h,hs,by rw [rangeL,zce]⟩
 |N+1,a,acc,p2,p3,p4,p5,p6,p7,p8,st,h,hs,hl,ht=>by
  obtain ⟨v,q3,q4,q5,q6,q7,q8,s1,hv,g1,r1,e1⟩:=zlO hns k h h1 hB hs (by omega) (p2:=some (.int a)) (p3:=p3) (p4:=p4) (p5:=p5) (p6:=p6) (p7:=p7) (p8:=p8)
  obtain ⟨acc',ρ,st',x1,x2,x3,x4,x5⟩:=zib hns k h1 hB N (a+1) (acc++[v]) (some (.int a)) q3 q4 q5 q6 q7 q8 s1 g1 r1 (by simp;omega) (fun y hy=>by
   rcases List.mem_append.1 hy with hy|hy
   ·exact ht y hy
   ·simp only [List.mem_cons,List.not_mem_nil,or_false] at hy
    rw [hy];exact hv)
  refine ⟨acc',ρ,st',x1,x2,x3,x4,?_⟩
  rw [rangeL,zbD (ρ1:=[some (.loc 0),some (.loc L1),some (.int a),p3,p4,p5,p6,p7,p8]) rfl,e1]
  exact x5
theorem zfm {ns:List Int}(hns:ns.length<=1000)(k:Nat){B st:Store}(h:Frm ns B st):∃v st',isS v/\Frm ns B st'/\callT T (k+5) zdC [.loc 0] st=.ok v st':=by
 have hT:T zdC=some ⟨1,9,false,f_qsome_sentence.body⟩:=rfl
 have pos:=h.pos
 have g0:=h.app (.lst [])
 obtain ⟨n,s1,n0,n1,o1,e1⟩:=takeF (k+1) hns (m:=6) (by omega) (by omega) g0
 have e1:callT T (k+4) zaf [.loc 0,.int 6] (st++[.lst []])=_:=e1
 have g1:=o1.frm g0
 have hs1:s1[st.length]?=some (.lst []):=by rw [o1.get (by omega)];simp
 have hmx:∀s,bltV .max s [.int 0,.int (n - 2)]=some (.int ((n - 2).toNat:Nat)):=fun s=>by
  simp only [bltV,maxV]
  congr 2
  split <;> omega
 obtain ⟨ts,ρ,s2,l2,t2,g2,r2,e2⟩:=zib hns k (L1:=st.length) (by omega) h.len (n - 2).toNat 0 [] none none none none none none none s1 g1 hs1 (by simp;omega) (by simp)
 have hr:=zek (n - 2).toNat (by omega)
 have tu:bltV .tuple s2 [.loc st.length]=some (.tp false ts):=by simp [bltV,tupV,lstOf,r2]
 refine ⟨_,s2,S_mk l2 t2,g2,?_⟩
 have hb:f_qsome_sentence.body=(match f_qsome_sentence.body with
  | .cons a (.cons (.for t i _) r)=>.cons a (.cons (.for t i snB) r)
  |x=>x):=rfl
 rw [zaC hT rfl rfl]
 dsimp only
 rw [hb]
 simp! [f_qsome_sentence,zbR,Nat.zero_le,e1,hmx,hr,e2,tu]
def isC2 (v:PV):Prop:=∃c x,97<=c/\c<=122/\isX4 x/\v=.tp false [.str ⟨#[c]⟩,x]
theorem zmj {v:PV}(h:isC2 v):celS v=true:=by
 obtain ⟨c,x,c0,c1,hx,rfl⟩:=h
 have h3:ltr (.str ⟨#[c]⟩)=true:=by simp [ltr,c0,c1]
 simp only [celS,h3,ziE hx,Bool.and_self]
theorem zil {v:PV}(h:isC2 v):tam 2 10 v=true:=by
 obtain ⟨c,x,c0,c1,hx,rfl⟩:=h
 refine zap.2 ⟨by omega,by simp,fun y hy=>?_⟩
 simp only [List.mem_cons,List.not_mem_nil,or_false] at hy
 rcases hy with rfl|rfl
 ·exact zkS (by omega) (by omega)
 ·exact zkv hx
def two (xs:List PV):Prop:=xs.Pairwise fun a b=>peq a b=false
theorem zmQ {xs:List PV}(h:∀y∈xs,isC2 y):shds 60 xs=true:=zf9 2 10 xs 60 ((zfg 2 10 xs).2 fun x hx=>zil (h x hx)) (by omega)
theorem zhU {v:PV}:∀{xs:List PV},inL v xs=false->∀y∈xs,peq y v=false
 | [],_=>fun y hy=>by cases hy
 |x::xs,h=>fun y hy=>by
  simp only [inL,Bool.or_eq_false_iff] at h
  rcases List.mem_cons.1 hy with rfl|hy
  ·exact h.1
  ·exact zhU h.2 y hy
theorem zk2 {xs:List PV}{v:PV}(h:two xs)(hv:inL v xs=false):two (xs++[v]):=by
 refine List.pairwise_append.2 ⟨h,by simp,fun a ha b hb=>?_⟩
 simp only [List.mem_cons,List.not_mem_nil,or_false] at hb
 subst hb
 exact zhU hv a ha
noncomputable def someE:Ce:=.idx (.var 1) (.call zaf (.cons (.var 2) (.cons (.blt .len (.cons (.var 1) .nil)) .nil)))
theorem lenC {xs:List PV}{st:Store}{C:Nat}(h:st[C]?=some (.lst xs)):bltV .len st [.loc C]=some (.int xs.length):=by simp [bltV,lenV,seqOf,h]
theorem idxC {xs:List PV}{st:Store}{C:Nat}(h:st[C]?=some (.lst xs))(i:PV):idxV st (.loc C) i=idxV st (.lst xs) i:=by simp only [idxV,h]
theorem somes {ns:List Int}(hns:ns.length<=1000)(k:Nat){xs:List PV}{C:Nat}(hC:C≠0)(hx:0<xs.length)(hx2:xs.length<=1000):∀(N:Nat) (a:Int) (st:Store),Drw ns 0 st->st[C]?=some (.lst xs)->∃ys st',ys.length=N/\(∀y∈ys,y∈xs)/\Onl ns 0 st st' /\
  compB (callT T (k+3)) [none,some (.loc C),some (.loc 0)] (.n 0) (.cst (.bl true)) someE (rangeL N a 1) st=.ok ys st'
 |0,a,st,h,hs=>⟨[],st,rfl,by simp,h.refl,by rw [rangeL,zdT]⟩
 |N+1,a,st,h,hs=>by
  obtain ⟨w,s1,w0,w1,o1,e1⟩:=takeD k hns (m:=(xs.length:Int)) (by omega) (by omega) h
  obtain ⟨x,hx',hi⟩:=ziG (st:=s1) w0 w1
  have hs1:s1[C]?=some (.lst xs):=by rw [o1.get hC];exact hs
  obtain ⟨ys,s3,l,t,o3,e3⟩:=somes hns k hC hx hx2 N (a+1) s1 (o1.drw h) (by rw [o1.get hC];exact hs)
  refine ⟨x::ys,s3,by simp [l],fun y hy=>?_,o1.trans o3,?_⟩
  ·rcases List.mem_cons.1 hy with rfl|hy
   ·exact hx'
   ·exact t y hy
  ·have one:oneB (callT T (k+3)) [none,some (.loc C),some (.loc 0)] (.n 0) (.cst (.bl true)) someE (.int a) st=.ok (some x) s1:=by
    simp! [oneB,someE,lenC hs,e1,idxC hs1,hi]
   rw [rangeL,zdg,one,bd_ok,e3,bd_ok]
   rfl
noncomputable def names13:List PV:=[.str "set",.str "move",.str "bare",.str "sum",.str "less",.str "both",.str "any",.str "odd",.str "twice",.str "half",.str "times",.str "mark",.str "ask"]
noncomputable def four:List PV:=[.str "move",.str "bare",.str "twice",.str "half"]
theorem zjF:∀x∈names13,∃s,x=.str s/\tam 1 10 (.str s)=true/\(s=Str.ofString "mark" \/ s=Str.ofString "ask" \/ s=Str.ofString "set" \/ s=Str.ofString "times" \/
  ((s≠Str.ofString "mark"/\s≠Str.ofString "ask"/\s≠Str.ofString "set"/\s≠Str.ofString "times")/\((s=Str.ofString "move" \/ s=Str.ofString "bare" \/ s=Str.ofString "twice" \/ s=Str.ofString "half")/\inL (.str s) four=true \/ (s=Str.ofString "sum" \/ s=Str.ofString "less" \/ s=Str.ofString "both" \/ s=Str.ofString "any" \/ s=Str.ofString "odd")/\inL (.str s) four=false))):=by
 intro x hx
 simp only [names13,List.mem_cons,List.not_mem_nil,or_false] at hx
 rcases hx with rfl|rfl|rfl|rfl|rfl|rfl|rfl|rfl|rfl|rfl|rfl|rfl|rfl <;> refine ⟨_,rfl,by decide +kernel,?_⟩
 case inl=>exact .inr (.inr (.inl rfl))
 case inr.inr.inr.inr.inr.inr.inr.inr.inr.inr.inl=>exact .inr (.inr (.inr (.inl rfl)))
 case inr.inr.inr.inr.inr.inr.inr.inr.inr.inr.inr.inl=>exact .inl rfl
 case inr.inr.inr.inr.inr.inr.inr.inr.inr.inr.inr.inr=>exact .inr (.inl rfl)
 all_goals refine .inr (.inr (.inr (.inr ⟨⟨by decide +kernel,by decide +kernel,by decide +kernel,by decide +kernel⟩,?_⟩)))
 all_goals first|exact .inl ⟨by simp,by decide +kernel⟩|exact .inr ⟨by simp,by decide +kernel⟩
inductive Rww (xs:List PV):Str->List PV->Prop
 | mark {q:Int} (q0:0<=q) (q1:q<2):Rww xs (Str.ofString "mark") [.int q]
 | ask {c:PV} (hc:c∈xs):Rww xs (Str.ofString "ask") [c]
 | set {c:PV} {q:Int} (hc:c∈xs) (q0:0<=q) (q1:q<2):Rww xs (Str.ofString "set") [c,.int q]
 | times {a b c d:PV} (ha:a∈xs) (hb:b∈xs) (hc:c∈xs) (hd:d∈xs) (hn:peq a b=false):Rww xs (Str.ofString "times") [a,b,c,d]
 | one {s:Str} {a b:PV} (hs:s=Str.ofString "move" \/ s=Str.ofString "bare" \/ s=Str.ofString "twice" \/ s=Str.ofString "half") (ha:a∈xs) (hb:b∈xs):Rww xs s [a,b]
 | two {s:Str} {a b c:PV} (hs:s=Str.ofString "sum" \/ s=Str.ofString "less" \/ s=Str.ofString "both" \/ s=Str.ofString "any" \/ s=Str.ofString "odd") (ha:a∈xs) (hb:b∈xs) (hc:c∈xs):Rww xs s [a,b,c]
theorem rowCells {s:Str}{n:Nat}{ps:List PV}(hk:dlook s d_ROWS=some (.tp true (List.replicate n pCell)))(hl:ps.length=n)(hc:∀p∈ps,isC2 p)(ht:s=sTimes->unl ps=true):rowS (.tp false (.str s::ps))=true:=by
 simp only [rowS,hk,List.length_replicate]
 rw [decide_eq_true hl,zgi n ps hl,List.all_eq_true.2 fun p hp=>zmj (hc p hp)]
 by_cases c:s=sTimes
 ·rw [ht c];simp
 ·rw [decide_eq_false c];simp
noncomputable def srT:Css:=match f_qsome_row.body with
 | .cons _ (.cons _ (.cons _ (.cons _ r)))=>r
 |_=>.nil
noncomputable def srT1:Css:=match srT with | .cons _ r=>r|x=>x
noncomputable def srT2:Css:=match srT1 with | .cons _ r=>r|x=>x
noncomputable def srT3:Css:=match srT2 with | .cons _ r=>r|x=>x
noncomputable def srT4:Css:=match srT3 with | .cons _ r=>r|x=>x
theorem sS0:srT=(match f_qsome_row.body with | .cons _ (.cons _ (.cons _ (.cons _ (.cons a _))))=>.cons a srT1|x=>x):=rfl
theorem sS1:srT1=(match f_qsome_row.body with | .cons _ (.cons _ (.cons _ (.cons _ (.cons _ (.cons a _)))))=>.cons a srT2|x=>x):=rfl
theorem sS2:srT2=(match f_qsome_row.body with | .cons _ (.cons _ (.cons _ (.cons _ (.cons _ (.cons _ (.cons a _))))))=>.cons a srT3|x=>x):=rfl
theorem sS3:srT3=(match f_qsome_row.body with | .cons _ (.cons _ (.cons _ (.cons _ (.cons _ (.cons _ (.cons _ (.cons a _)))))))=>.cons a srT4|x=>x):=rfl
theorem sS4:srT4=(match f_qsome_row.body with | .cons _ (.cons _ (.cons _ (.cons _ (.cons _ (.cons _ (.cons _ (.cons _ a)))))))=>a|x=>x):=rfl
noncomputable def aftO (o:Option Store)(k:Store->Fl):Fl:=match o with
 |none=>.bad
 |some st=>k st
theorem zje {st:Store}{k:Store->Fl}:aftO (some st) k=k st:=rfl
theorem zmw {call:Cl}{ρ:IC.Env}{st:Store}{o i p j e f:Ce}:ex call ρ st (.six2 o i p j e f)=(ev call ρ st e).fl ρ fun v st1=>(ev call ρ st1 f).fl ρ fun w st2=>(ev call ρ st2 o).fl ρ fun x st3=>(ev call ρ st3 i).fl ρ fun y st4=>aftO (sixV st4 x y v) fun st5=>(ev call ρ st5 p).fl ρ fun x2 st6=>(ev call ρ st6 j).fl ρ fun y2 st7=>stO ρ (sixV st7 x2 y2 w):=by
 rw [ex]
 refine congrArg _ (funext fun v=>funext fun st1=>congrArg _ (funext fun w=>funext fun st2=>congrArg _ (funext fun x=>funext fun st3=>congrArg _ (funext fun y=>funext fun st4=>?_))))
 cases sixV st4 x y v with
 |none=>rfl
 |some st5 =>
  dsimp only [aftO]
  refine congrArg _ (funext fun x2=>funext fun st6=>congrArg _ (funext fun y2=>funext fun st7=>?_))
  cases sixV st7 x2 y2 w <;> rfl
theorem zn2 {xs:List PV}{s:Str}{ps:List PV}(h:Rww xs s ps)(hx:∀x∈xs,isC2 x):rowS (.tp false (.str s::ps))=true/\tam 4 10 (.tp false (.str s::ps))=true:=by
 have ti:∀d i,tam d 10 (.int i)=true:=fun _ _=>rfl
 have tc:∀{c:PV},c∈xs->tam 3 10 c=true:=fun hc=>zbL (by omega) (by omega) _ (zil (hx _ hc))
 have big:∀{s:Str} {ps:List PV},tam 3 10 (.str s)=true->ps.length<=4->(∀p∈ps,tam 3 10 p=true)->tam 4 10 (.tp false (.str s::ps))=true:=fun {s ps} a b c=>zap.2 ⟨by omega,by simp;omega,fun x hx=>by
  rcases List.mem_cons.1 hx with rfl|hx
  ·exact a
  ·exact c x hx⟩
 have fig:∀{q:Int},0<=q->q<2->prS (.tup [.str sFig,.int q])=true:=fun {q} q0 q1=>by
  have:peq (.str sFig) (.str sFig)=true:=by rw [zb9];simp
  simp only [prS,opS,this,if_true,wh]
  rw [decide_eq_true q0,decide_eq_true (by omega)];rfl
 cases h with
 |mark q0 q1 =>
  refine ⟨?_,big (by decide +kernel) (by simp) fun p hp=>by simp at hp;rw [hp];exact ti _ _⟩
  have hk:dlook (Str.ofString "mark") d_ROWS=some (.tp true [.str sFig]):=by with_unfolding_all rfl
  have ht:decide (Str.ofString "mark"=sTimes)=false:=by decide +kernel
  simp [rowS,hk,zipUp,fig q0 q1,ht]
 |ask hc =>
  refine ⟨rowCells (n:=1) (by with_unfolding_all rfl) rfl (fun p hp=>by simp at hp;rw [hp];exact hx _ hc) (fun e=>absurd e (by decide +kernel)),big (by decide +kernel) (by simp) fun p hp=>by simp at hp;rw [hp];exact tc hc⟩
 | @set c q hc q0 q1 =>
  refine ⟨?_,big (by decide +kernel) (by simp) fun p hp=>by
   simp only [List.mem_cons,List.not_mem_nil,or_false] at hp
   rcases hp with rfl|rfl
   ·exact tc hc
   ·exact ti _ _⟩
  have hk:dlook (Str.ofString "set") d_ROWS=some (.tp true [pCell,.str sFig]):=by with_unfolding_all rfl
  have ht:decide (Str.ofString "set"=sTimes)=false:=by decide +kernel
  have hp:prS (.tup [pCell,c])=true:=by
   have:peq pCell (.str sFig)=false:=by rw [zb9];decide +kernel
   simp only [prS,opS,this,Bool.false_eq_true,if_false]
   exact zmj (hx _ hc)
  simp [rowS,hk,zipUp,hp,fig q0 q1,ht]
 | @times a b c d ha hb hc hd hn =>
  have hm:∀p∈[a,b,c,d],p∈xs:=fun p hp=>by
   simp only [List.mem_cons,List.not_mem_nil,or_false] at hp
   rcases hp with rfl|rfl|rfl|rfl <;> assumption
  exact ⟨rowCells (n:=4) (by with_unfolding_all rfl) rfl (fun p hp=>hx p (hm p hp)) (fun _=>by show (!peq a b)=true;rw [hn];rfl),big (by decide +kernel) (by simp) fun p hp=>tc (hm p hp)⟩
 | @one s a b hs ha hb =>
  have hm:∀p∈[a,b],p∈xs:=fun p hp=>by
   simp only [List.mem_cons,List.not_mem_nil,or_false] at hp
   rcases hp with rfl|rfl <;> assumption
  rcases hs with rfl|rfl|rfl|rfl <;> exact ⟨rowCells (n:=2) (by with_unfolding_all rfl) rfl (fun p hp=>hx p (hm p hp)) (fun e=>absurd e (by decide +kernel)),big (by decide +kernel) (by simp) fun p hp=>tc (hm p hp)⟩
 | @two s a b c hs ha hb hc =>
  have hm:∀p∈[a,b,c],p∈xs:=fun p hp=>by
   simp only [List.mem_cons,List.not_mem_nil,or_false] at hp
   rcases hp with rfl|rfl|rfl <;> assumption
  rcases hs with rfl|rfl|rfl|rfl|rfl <;> exact ⟨rowCells (n:=3) (by with_unfolding_all rfl) rfl (fun p hp=>hx p (hm p hp)) (fun e=>absurd e (by decide +kernel)),big (by decide +kernel) (by simp) fun p hp=>tc (hm p hp)⟩
theorem zl8 (k:Nat){s:Str}{x0 x1:PV}{xs:List PV}{q:Int}{p2:Option PV}{y0 y1 y2 y3:PV}{st:Store}{C:Nat}(hs:st[C]?=some (.lst (x0::x1::xs)))(hx:∀x∈x0::x1::xs,isC2 x)(hx2:two (x0::x1::xs))(hy:∀y∈[y0,y1,y2,y3],y∈x0::x1::xs)(q0:0<=q)(q1:q<2)
  (ts:tam 1 10 (.str s)=true) (hk:s=Str.ofString "mark" \/ s=Str.ofString "ask" \/ s=Str.ofString "set" \/ s=Str.ofString "times" \/
  ((s≠Str.ofString "mark"/\s≠Str.ofString "ask"/\s≠Str.ofString "set"/\s≠Str.ofString "times")/\((s=Str.ofString "move" \/ s=Str.ofString "bare" \/ s=Str.ofString "twice" \/ s=Str.ofString "half")/\inL (.str s) four=true \/ (s=Str.ofString "sum" \/ s=Str.ofString "less" \/ s=Str.ofString "both" \/ s=Str.ofString "any" \/ s=Str.ofString "odd")/\inL (.str s) four=false))) :
  ∃ps zs,Rww (x0::x1::xs) s ps/\exs (callT T (k+3)) [some (.loc 0),some (.loc C),p2,some (.str s),some (.int q),some (.loc st.length)] (st++[.lst [y0,y1,y2,y3]]) srT=.rt (.tp false (.str s::ps)) (st++[.lst zs]):=by
 have hg:∀z0 z1,(st++[Ob.lst [z0,z1,y2,y3]])[st.length]?=some (.lst [z0,z1,y2,y3]):=fun z0 z1=>by simp
 have i0:∀z0 z1,idxV (st++[Ob.lst [z0,z1,y2,y3]]) (.loc st.length) (.int 0)=some z0:=fun z0 z1=>by simp only [idxV,hg];rfl
 have i1:∀z0 z1,idxV (st++[Ob.lst [z0,z1,y2,y3]]) (.loc st.length) (.int 1)=some z1:=fun z0 z1=>by simp only [idxV,hg];rfl
 have i2:∀z0 z1,idxV (st++[Ob.lst [z0,z1,y2,y3]]) (.loc st.length) (.int 2)=some y2:=fun z0 z1=>by simp only [idxV,hg];rfl
 have i3:∀z0 z1,idxV (st++[Ob.lst [z0,z1,y2,y3]]) (.loc st.length) (.int 3)=some y3:=fun z0 z1=>by simp only [idxV,hg];rfl
 have hc:∀o,(st++[o])[C]?=some (.lst (x0::x1::xs)):=fun o=>by rw [List.getElem?_append_left (List.getElem?_eq_some_iff.1 hs).1];exact hs
 have j0:∀o,idxV (st++[o]) (.loc C) (.int 0)=some x0:=fun o=>by
  rw [idxC (hc o)]
  have:ixI (x0::x1::xs).length 0=some 0:=by simp [ixI];omega
  simp only [idxV,idxI,at?,this];rfl
 have j1:∀o,idxV (st++[o]) (.loc C) (.int 1)=some x1:=fun o=>by
  rw [idxC (hc o)]
  have:ixI (x0::x1::xs).length 1=some 1:=by simp [ixI];omega
  simp only [idxV,idxI,at?,this];rfl
 have em:=eq_s ts (by omega) (Str.ofString "mark") (by decide +kernel)
 have ea:=eq_s ts (by omega) (Str.ofString "ask") (by decide +kernel)
 have es:=eq_s ts (by omega) (Str.ofString "set") (by decide +kernel)
 have et:=eq_s ts (by omega) (Str.ofString "times") (by decide +kernel)
 rw [zb9] at em ea es et
 have m0:=hy y0 (by simp)
 have m1:=hy y1 (by simp)
 have m2:=hy y2 (by simp)
 have m3:=hy y3 (by simp)
 by_cases k1:s=Str.ofString "mark"
 ·refine ⟨[.int q],[y0,y1,y2,y3],k1 ▸ .mark q0 q1,?_⟩
  rw [decide_eq_true k1] at em
  rw [sS0]
  simp! [f_qsome_row,em]
 rw [decide_eq_false k1] at em
 have r0:exs (callT T (k+3)) [some (.loc 0),some (.loc C),p2,some (.str s),some (.int q),some (.loc st.length)] (st++[.lst [y0,y1,y2,y3]]) srT=exs (callT T (k+3)) [some (.loc 0),some (.loc C),p2,some (.str s),some (.int q),some (.loc st.length)] (st++[.lst [y0,y1,y2,y3]]) srT1:=by
  rw [sS0]
  simp! [f_qsome_row,em]
 rw [r0]
 by_cases k2:s=Str.ofString "ask"
 ·refine ⟨[y0],[y0,y1,y2,y3],k2 ▸ .ask m0,?_⟩
  rw [decide_eq_true k2] at ea
  rw [sS1]
  simp! [f_qsome_row,ea,i0]
 rw [decide_eq_false k2] at ea
 have r1:exs (callT T (k+3)) [some (.loc 0),some (.loc C),p2,some (.str s),some (.int q),some (.loc st.length)] (st++[.lst [y0,y1,y2,y3]]) srT1=exs (callT T (k+3)) [some (.loc 0),some (.loc C),p2,some (.str s),some (.int q),some (.loc st.length)] (st++[.lst [y0,y1,y2,y3]]) srT2:=by
  rw [sS1]
  simp! [f_qsome_row,ea]
 rw [r1]
 by_cases k3:s=Str.ofString "set"
 ·refine ⟨[y0,.int q],[y0,y1,y2,y3],k3 ▸ .set m0 q0 q1,?_⟩
  rw [decide_eq_true k3] at es
  rw [sS2]
  simp! [f_qsome_row,es,i0]
 rw [decide_eq_false k3] at es
 have r2:exs (callT T (k+3)) [some (.loc 0),some (.loc C),p2,some (.str s),some (.int q),some (.loc st.length)] (st++[.lst [y0,y1,y2,y3]]) srT2=exs (callT T (k+3)) [some (.loc 0),some (.loc C),p2,some (.str s),some (.int q),some (.loc st.length)] (st++[.lst [y0,y1,y2,y3]]) srT3:=by
  rw [sS2]
  simp! [f_qsome_row,es]
 rw [r2]
 by_cases k4:s=Str.ofString "times"
 ·rw [decide_eq_true k4] at et
  have hq:cmpV .eq y0 y1=some (.bl (peq y0 y1)):=by
   simp only [cmpV]
   rw [if_pos (by rw [zdv (zil (hx _ m0)) (by omega),zdv (zil (hx _ m1)) (by omega)];rfl)]
  cases e:peq y0 y1 with
  |false =>
   rw [e] at hq
   refine ⟨[y0,y1,y2,y3],[y0,y1,y2,y3],k4 ▸ .times m0 m1 m2 m3 e,?_⟩
   rw [sS3]
   simp! [f_qsome_row,et,i0,i1,i2,i3,hq]
  |true =>
   rw [e] at hq
   refine ⟨[x0,x1,y2,y3],[x0,x1,y2,y3],k4 ▸ .times (by simp) (by simp) m2 m3 (List.rel_of_pairwise_cons hx2 (by simp)),?_⟩
   have s0:sixV (st++[Ob.lst [y0,y1,y2,y3]]) (.loc st.length) (.int 0) x0=some (st++[.lst [x0,y1,y2,y3]]):=by
    simp only [sixV,hg]
    rw [show ixI ([y0,y1,y2,y3]:List PV).length 0=some 0 from rfl]
    simp
   have s1:sixV (st++[Ob.lst [x0,y1,y2,y3]]) (.loc st.length) (.int 1) x1=some (st++[.lst [x0,x1,y2,y3]]):=by
    simp only [sixV,hg]
    rw [show ixI ([x0,y1,y2,y3]:List PV).length 1=some 1 from rfl]
    simp
   rw [sS3]
   simp! [f_qsome_row,et,i0,i1,i2,i3,hq,zmw,j0,j1,s0,zje,s1,zhj]
 rw [decide_eq_false k4] at et
 have r3:exs (callT T (k+3)) [some (.loc 0),some (.loc C),p2,some (.str s),some (.int q),some (.loc st.length)] (st++[.lst [y0,y1,y2,y3]]) srT3=exs (callT T (k+3)) [some (.loc 0),some (.loc C),p2,some (.str s),some (.int q),some (.loc st.length)] (st++[.lst [y0,y1,y2,y3]]) srT4:=by
  rw [sS3]
  simp! [f_qsome_row,et]
 rw [r3,sS4]
 rcases hk with hk|hk|hk|hk|⟨_,hk⟩
 ·exact absurd hk k1
 ·exact absurd hk k2
 ·exact absurd hk k3
 ·exact absurd hk k4
 have hi:cmpV .isin (.str s) (.tp false four)=some (.bl (inL (.str s) four)):=rfl
 rcases hk with ⟨hk,e⟩|⟨hk,e⟩
 ·rw [e] at hi
  simp only [four] at hi
  refine ⟨[y0,y1],[y0,y1,y2,y3],.one hk m0 m1,?_⟩
  simp! [f_qsome_row,hi,i0,i1]
 ·rw [e] at hi
  simp only [four] at hi
  refine ⟨[y0,y1,y2],[y0,y1,y2,y3],.two hk m0 m1 m2,?_⟩
  simp! [f_qsome_row,hi,i0,i1,i2]
theorem zl6 {ns:List Int}(hns:ns.length<=1000)(k:Nat){st:Store}(h:Drw ns 0 st){xs:List PV}{C:Nat}(hC:C≠0)(hs:st[C]?=some (.lst xs))(hx:∀x∈xs,isC2 x)(hx2:two xs)(hl:2<=xs.length)(hl2:xs.length<=30) :
  ∃s ps s3 zs,Rww xs s ps/\Onl ns 0 st s3/\callT T (k+4) zeT [.loc 0,.loc C] st=.ok (.tp false (.str s::ps)) (s3++[.lst zs]):=by
 have hT:T zeT=some ⟨2,6,false,f_qsome_row.body⟩:=rfl
 obtain ⟨w,s1,w0,w1,o1,e1⟩:=takeD k hns (m:=13) (by omega) (by omega) h
 obtain ⟨x,hx',hi⟩:=zg8 (k:=false) (xs:=names13) w0 (show w<((13:Nat):Int) from w1)
 obtain ⟨s,rfl,ts,hk⟩:=zjF x hx'
 obtain ⟨q,s2,q0,q1,o2,e2⟩:=takeD k hns (m:=2) (by omega) (by omega) (o1.drw h)
 obtain ⟨ys,s3,l3,t3,o3,e3⟩:=somes hns k (xs:=xs) hC (by omega) (by omega) 4 0 s2 (o2.drw (o1.drw h)) (by rw [o2.get hC,o1.get hC];exact hs)
 obtain ⟨x0,x1,xr,rfl⟩:∃x0 x1 xr,xs=x0::x1::xr:=by
  match xs,hl with
  |x0::x1::xr,_=>exact ⟨x0,x1,xr,rfl⟩
 obtain ⟨y0,y1,y2,y3,rfl⟩:∃y0 y1 y2 y3,ys=[y0,y1,y2,y3]:=by
  match ys,l3 with
  | [y0,y1,y2,y3],_=>exact ⟨y0,y1,y2,y3,rfl⟩
 obtain ⟨ps,zs,r4,e4⟩:=zl8 k (st:=s3) (p2:=some (.tp false names13)) (C:=C) (by rw [o3.get hC,o2.get hC,o1.get hC];exact hs) hx hx2 t3 q0 q1 ts hk
 refine ⟨s,ps,s3,zs,r4,(o1.trans o2).trans o3,?_⟩
 have hr:rng1 (.int 4)=some (rangeL 4 0 1):=rfl
 have hlr:lstR (.ok [y0,y1,y2,y3] s3)=.ok (.lst [y0,y1,y2,y3]) s3:=zcc _ (by simp) _
 have hth:thwV (.lst [y0,y1,y2,y3]) s3=.ok (.loc s3.length) (s3++[.lst [y0,y1,y2,y3]]):=rfl
 have hb:f_qsome_row.body=(match f_qsome_row.body with
  | .cons a (.cons b (.cons c (.cons (.asg t (.thw (.comp sl tg it c2 _))) _)))=>.cons a (.cons b (.cons c (.cons (.asg t (.thw (.comp sl tg it c2 someE))) srT)))
  |_=>.nil):=rfl
 rw [zaC hT rfl rfl]
 dsimp only
 rw [hb]
 simp only [names13] at hi e4
 simp! [f_qsome_row,zbR,Nat.zero_le,e1,hi,e2,ev.eq_30,hr,e3,hlr,hth,e4]
noncomputable def trB:Css:=match f_qsome_telling_row.body with
 | .cons _ (.cons (.for _ _ b) _)=>b
 |_=>.nil
noncomputable def trT:Css:=match f_qsome_telling_row.body with
 | .cons _ (.cons _ r)=>r
 |_=>.nil
theorem ziI {ns:List Int}(hns:ns.length<=1000)(k:Nat){B:Store}{L:Nat}(hL:L≠0)(hB:B.length<=L):∀(N:Nat) (a:Int) (acc:List PV) (p2 p3:Option PV) (st:Store),(∀y∈acc,isC2 y)->two acc->acc.length+N<=20->Frm ns B st->st[L]?=some (.lst acc) ->
  ∃acc' q2 q3 st',(∀y∈acc',isC2 y)/\two acc'/\acc'.length<=acc.length+N/\(0<acc.length+N->0<acc'.length)/\Frm ns B st'/\st'[L]?=some (.lst acc') /\
   forB (callT T (k+4)) (.n 2) trB (rangeL N a 1) [some (.loc 0),some (.loc L),p2,p3] st=.nx [some (.loc 0),some (.loc L),q2,q3] st'
 |0,a,acc,p2,p3,st,h1,h2,h3,h,hs=>⟨acc,p2,p3,st,h1,h2,by omega,by omega,h,hs,by rw [rangeL,zce]⟩
 |N+1,a,acc,p2,p3,st,h1,h2,h3,h,hs=>by
  obtain ⟨c,s1,c0,c1,o1,e1⟩:=ze0 hns k h.dr
  have g1:=o1.frm h
  have hL1:L<st.length:=(List.getElem?_eq_some_iff.1 hs).1
  have ln1:=o1.len
  obtain ⟨x,s2,hx,f2,e2⟩:=zfA hns k (Frm.refl g1.dr)
  have g2:=g1.trans f2
  have hs2:s2[L]?=some (.lst acc):=by rw [f2.get L hL (by omega),o1.get hL];exact hs
  obtain ⟨v,hv'⟩:∃v:PV,v=.tp false [.str ⟨#[c]⟩,x]:=⟨_,rfl⟩
  have hv:isC2 v:=⟨c,x,c0,c1,hx,hv'⟩
  have hn:ninV s2 v (.loc L)=some (.bl (!inL v acc)):=by
   simp only [ninV,hs2]
   rw [if_pos (by rw [zdv (zil hv) (by omega),zmQ h1];rfl)]
  cases q:inL v acc with
  |true =>
   rw [q] at hn
   obtain ⟨acc',q2,q3,st',r1,r2,r3,r4,r5,r6,r7⟩:=ziI hns k hL hB N (a+1) acc (some (.int a)) (some v) s2 h1 h2 (by omega) g2 hs2
   have:0<acc.length:=by
    cases acc with
    |nil=>simp [inL] at q
    |cons x r=>simp
   refine ⟨acc',q2,q3,st',r1,r2,by omega,fun _=>r4 (by omega),r5,r6,?_⟩
   rw [hv'] at hn
   have hb:exs (callT T (k+4)) [some (.loc 0),some (.loc L),some (.int a),p3] st trB=.nx [some (.loc 0),some (.loc L),some (.int a),some v] s2:=by
    rw [hv']
    simp! [trB,f_qsome_telling_row,e1,e2,IC.ev.eq_31,hn,Nat.zero_le]
   rw [rangeL,zbD (ρ1:=[some (.loc 0),some (.loc L),some (.int a),p3]) rfl,hb]
   exact r7
  |false =>
   rw [q] at hn
   obtain ⟨m1,m2⟩:=zeH (v:=v) hs2 (by omega)
   obtain ⟨acc',q2,q3,st',r1,r2,r3,r4,r5,r6,r7⟩:=ziI hns k hL hB N (a+1) (acc++[v]) (some (.int a)) (some v) (s2.set L (.lst (acc++[v]))) (fun y hy=>by
    rcases List.mem_append.1 hy with hy|hy
    ·exact h1 y hy
    ·simp at hy;rw [hy];exact hv) (zk2 h2 q) (by simp;omega) (g2.put hL hB _) (rdS hs2)
   rw [List.length_append,List.length_singleton] at r3 r4
   refine ⟨acc',q2,q3,st',r1,r2,by omega,fun _=>r4 (by omega),r5,r6,?_⟩
   have hb:exs (callT T (k+4)) [some (.loc 0),some (.loc L),some (.int a),p3] st trB=.nx [some (.loc 0),some (.loc L),some (.int a),some v] (s2.set L (.lst (acc++[v]))):=by
    rw [hv'] at hn m2 ⊢
    simp! [trB,f_qsome_telling_row,e1,e2,IC.ev.eq_31,hn,m1,m2,Nat.zero_le]
   rw [rangeL,zbD (ρ1:=[some (.loc 0),some (.loc L),some (.int a),p3]) rfl,hb]
   exact r7
def isR (v:PV):Prop:=rowS v=true/\tam 4 10 v=true
theorem zmv {ns:List Int}(hns:ns.length<=1000)(k:Nat){B st:Store}(h:Frm ns B st){L:Nat}(hL:L≠0){xs:List PV}(hs:st[L]?=some (.lst xs))(hx:∀x∈xs,isC2 x)(hx2:two xs)(hl:2<=xs.length)(hl2:xs.length<=30):∃v st',isR v/\Frm ns B st'/\callT T (k+4) zeT [.loc 0,.loc L] st=.ok v st':=by
 obtain ⟨s,ps,s3,zs,r,o,e⟩:=zl6 hns k h.dr hL hs hx hx2 hl hl2
 exact ⟨_,_,zn2 r hx,(o.frm h).app _,e⟩
theorem zio {ns:List Int}(hns:ns.length<=1000)(k:Nat){B st:Store}(h:Frm ns B st):∃v st',isR v/\Frm ns B st'/\callT T (k+5) zbK [.loc 0] st=.ok v st':=by
 have hT:T zbK=some ⟨1,4,false,f_qsome_telling_row.body⟩:=rfl
 have pos:=h.pos
 have hL:st.length≠0:=by omega
 have g0:=h.app (.lst [])
 obtain ⟨n,s1,n0,n1,o1,e1⟩:=takeF (k+1) hns (m:=3) (by omega) (by omega) g0
 have e1:callT T (k+4) zaf [.loc 0,.int 3] (st++[.lst []])=_:=e1
 have g1:=o1.frm g0
 have hs1:s1[st.length]?=some (.lst []):=by rw [o1.get (by omega)];simp
 obtain ⟨n,rfl⟩:=zfD n0
 obtain ⟨xs,q2,q3,s2,r1,r2,r3,r4,r5,r6,r7⟩:=ziI hns k hL h.len (2+n) 0 [] none none s1 (by simp) List.Pairwise.nil (by simp;omega) g1 hs1
 have r4:=r4 (by omega)
 simp only [List.length_nil,Nat.zero_add] at r3
 have hr:rng1 (.int (2+(n:Int)))=some (rangeL (2+n) 0 1):=by
  have:=zek (2+n) (by omega)
  rw [<- this];congr 2
 have hb:f_qsome_telling_row.body=(match f_qsome_telling_row.body with
  | .cons a (.cons (.for t i _) _)=>.cons a (.cons (.for t i trB) trT)
  |x=>x):=rfl
 have hlen:=lenC r6
 by_cases cz:xs.length=1
 ·obtain ⟨x,rfl⟩:∃x,xs=[x]:=by
   match xs,cz with
   | [x],_=>exact ⟨x,rfl⟩
  obtain ⟨c,x4,c0,c1,hx4,rfl⟩:=r1 x (by simp)
  have hx4':=hx4
  obtain ⟨a,b,d,e,rfl,b1,b2,b3,b4,b5,b6,b7,b8⟩:=hx4
  have i0:idxV s2 (.loc st.length) (.int 0)=some (.tp false [.str ⟨#[c]⟩,.tp false [.int a,.int b,.int d,.int e]]):=by simp only [idxV,r6];rfl
  have hmod:binV .mod (.int a) (.int 90)=some (.int (a % 90)):=znC (by omega)
  obtain ⟨v,hv⟩:∃v:PV,v=.tp false [.str ⟨#[c]⟩,.tp false [.int (a % 90+1),.int 0,.int 0,.int 1]]:=⟨_,rfl⟩
  have cv:isC2 v:=⟨c,_,c0,c1,⟨a % 90+1,0,0,1,rfl,by omega,by omega,by omega,by omega,by omega,by omega,by omega,by omega⟩,hv⟩
  obtain ⟨m1,m2⟩:=zeH (v:=v) r6 (by simp)
  obtain ⟨w,s4,hw,g4,e4⟩:=zmv hns k (r5.put hL h.len (.lst ([.tp false [.str ⟨#[c]⟩,.tp false [.int a,.int b,.int d,.int e]]]++[v]))) hL (rdS r6) (fun y hy=>by
   rcases List.mem_append.1 hy with hy|hy
   ·exact r1 y hy
   ·simp at hy;rw [hy];exact cv) (zk2 r2 (by
    rw [hv]
    have:(a == a % 90+1)=false:=by simp;omega
    simp [inL,peq,peqs,this])) (by simp) (by simp)
  refine ⟨w,s4,hw,g4,?_⟩
  rw [zaC hT rfl rfl]
  dsimp only
  rw [hb]
  have hlen:bltV .len s2 [.loc st.length]=some (.int 1):=hlen
  rw [hv] at m2 e4
  simp only [List.cons_append,List.nil_append] at m2 e4
  simp! [f_qsome_telling_row,zbR,Nat.zero_le,e1,hr,r7]
  simp! [trT,f_qsome_telling_row,zbR,hlen,c_eq,beq_self_eq_true,m1,i0,ix0,ix1,hmod,m2,e4,Nat.zero_le]
 ·obtain ⟨w,s4,hw,g4,e4⟩:=zmv hns k r5 hL r6 r1 r2 (by omega) (by omega)
  refine ⟨w,s4,hw,g4,?_⟩
  rw [zaC hT rfl rfl]
  dsimp only
  rw [hb]
  have hq2:((xs.length:Int) == 1)=false:=by simp;omega
  simp! [f_qsome_telling_row,zbR,Nat.zero_le,e1,hr,r7]
  simp! [trT,f_qsome_telling_row,zbR,hlen,hq2,e4]
theorem zlE {ok:Bool}{f:PV->Bool}{r:PV}(h:rowS r=true):prt ok f (.tp false [.str sRow,r])=true:=by
 have h1:peq (.str sRow) (.str sRow)=true:=by with_unfolding_all rfl
 simp only [prt,h1,if_true,in1,h]
theorem zl7 {f:PV->Bool}{c s:PV}{ps:List PV}(hc:told 3 c=true)(hs:sen s=true)(hp:∀p∈ps,f p=true):prt true f (.tp false [.str sRnd,c,s,.tp false ps])=true:=by
 have h1:peq (.str sRnd) (.str sRow)=false:=by with_unfolding_all rfl
 have h2:peq (.str sRnd) (.str sRnd)=true:=by with_unfolding_all rfl
 simp only [prt,h1,h2,Bool.false_eq_true,if_false,in3,hc,hs,parsS,List.all_eq_true.2 hp,Bool.and_self]
def isQ (f:PV->Bool)(d:Nat)(v:PV):Prop:=f v=true/\tam d 10 v=true
theorem znw {ok:Bool}{f:PV->Bool}{r:PV}{d:Nat}(hd:5<=d)(h:isR r):isQ (prt ok f) d (.tp false [.str sRow,r]):=by
 refine ⟨zlE h.1,zap.2 ⟨by omega,by simp,fun x hx=>?_⟩⟩
 simp only [List.mem_cons,List.not_mem_nil,or_false] at hx
 rcases hx with rfl|rfl
 ·exact zbL (d:=0) (m:=10) (by omega) (by omega) _ (by decide +kernel)
 ·exact zbL (by omega) (by omega) _ h.2
theorem znH {f:PV->Bool}{c s:PV}{ps:List PV}{d:Nat}(hd:5<=d)(hc:isX3 c)(hs:isS s)(hl:ps.length<=10)(hp:∀p∈ps,isQ f d p):isQ (prt true f) (d+2) (.tp false [.str sRnd,c,s,.tp false ps]):=by
 refine ⟨zl7 (zmN hc) hs.1 fun p h=>(hp p h).1,zap.2 ⟨by omega,by simp,fun x hx=>?_⟩⟩
 simp only [List.mem_cons,List.not_mem_nil,or_false] at hx
 rcases hx with rfl|rfl|rfl|rfl
 ·exact zbL (d:=0) (m:=10) (by omega) (by omega) _ (by decide +kernel)
 ·exact zbL (by omega) (by omega) _ (znZ hc)
 ·exact zbL (by omega) (by omega) _ hs.2
 ·exact zap.2 ⟨by omega,by omega,fun x hx=>zbL (by omega) (by omega) _ (hp x hx).2⟩
noncomputable def deE:Ce:=.tup (.cons (.cst (.str sRow)) (.cons (.call zbK (.cons (.var 1) .nil)) .nil))
theorem deeps {ns:List Int}(hns:ns.length<=1000)(k:Nat){B:Store}:∀(N:Nat) (a:Int) (st:Store),Frm ns B st->∃ys st',ys.length=N/\(∀y∈ys,∃r,isR r/\y=.tp false [.str sRow,r])/\Frm ns B st' /\
  compB (callT T (k+5)) [none,some (.loc 0)] (.n 0) (.cst (.bl true)) deE (rangeL N a 1) st=.ok ys st'
 |0,a,st,h=>⟨[],st,rfl,by simp,h,by rw [rangeL,zdT]⟩
 |N+1,a,st,h=>by
  obtain ⟨r,s1,hr,g1,e1⟩:=zio hns k h
  obtain ⟨ys,s3,l,t,g3,e3⟩:=deeps hns k N (a+1) s1 g1
  refine ⟨.tp false [.str sRow,r]::ys,s3,by simp [l],fun y hy=>?_,g3,?_⟩
  ·rcases List.mem_cons.1 hy with rfl|hy
   ·exact ⟨r,hr,rfl⟩
   ·exact t y hy
  ·have one:oneB (callT T (k+5)) [none,some (.loc 0)] (.n 0) (.cst (.bl true)) deE (.int a) st=.ok (some (.tp false [.str sRow,r])) s1:=by
    simp! [oneB,deE,e1,Nat.zero_le]
   rw [rangeL,zdg,one,bd_ok,e3,bd_ok]
   rfl
noncomputable def teB:Css:=match f_qsome_telling.body with
 | .cons _ (.cons (.for _ _ b) _)=>b
 |_=>.nil
noncomputable def inB:Css:=match teB with
 | .cons (.ite _ _ (.cons _ (.cons (.for _ _ b) _))) _=>b
 |_=>.nil
noncomputable def inT:Css:=match inB with
 | .cons _ r=>r
 |x=>x
theorem inE:inB=(match f_qsome_telling.body with
 | .cons _ (.cons (.for _ _ (.cons (.ite _ _ (.cons _ (.cons (.for _ _ (.cons (.asg t (.comp sl tg it c _)) _)) _))) _)) _)=>.cons (.asg t (.comp sl tg it c deE)) inT
 |x=>x):=rfl
theorem zkc {ns:List Int}(hns:ns.length<=1000)(k:Nat){w n:Int}(w0:0<=w)(w1:w<=1000){B st:Store}(h:Frm ns B st){L:Nat}(hL:L≠0)(hB:B.length<=L){acc:List PV}(hs:st[L]?=some (.lst acc))(hl:acc.length<9)(ha:∀y∈acc,isQ part1 7 y){p3 p4 p6 p7:Option PV} :
  ∃L' acc' q7 st',L'≠0/\B.length<=L'/\acc'.length<=acc.length+1/\(∀y∈acc',isQ part1 7 y)/\Frm ns B st'/\st'[L']?=some (.lst acc') /\
   exs (callT T (k+5)) [some (.loc 0),some (.int w),some (.int n),p3,p4,some (.loc L),p6,p7] st inB=.nx [some (.loc 0),some (.int w),some (.int n),p3,p4,some (.loc L'),p6,q7] st':=by
 have hL1:L<st.length:=(List.getElem?_eq_some_iff.1 hs).1
 obtain ⟨m,s1,m0,m1,o1,e1⟩:=takeF (k+2) hns (m:=3) (by omega) (by omega) (Frm.refl h.dr)
 have e1:callT T (k+5) zaf [.loc 0,.int 3] st=_:=e1
 obtain ⟨m,rfl⟩:=zfD m0
 obtain ⟨ys,s2,l2,t2,f2,e2⟩:=deeps hns k (B:=st) m 0 s1 (o1.frm (Frm.refl h.dr))
 obtain ⟨u,s3,u0,u1,o3,e3⟩:=takeF (k+2) hns (m:=2) (by omega) (by omega) f2
 have e3:callT T (k+5) zaf [.loc 0,.int 2] s2=_:=e3
 have f3:=o3.frm f2
 have hs3:s3[L]?=some (.lst acc):=by rw [f3.get L hL hL1];exact hs
 have g3:=h.trans f3
 have hr:=zek m (by omega)
 have hE:lstR (.ok ys s2)=.ok (.lst ys) s2:=zcc _ (by omega) _
 have hd:∀y∈ys,isQ part1 7 y:=fun y hy=>by
  obtain ⟨r,hr,rfl⟩:=t2 y hy
  exact znw (by omega) hr
 have hd0:∀y∈ys,isQ part0 5 y:=fun y hy=>by
  obtain ⟨r,hr,rfl⟩:=t2 y hy
  exact znw (by omega) hr
 have go:exs (callT T (k+5)) [some (.loc 0),some (.int w),some (.int n),p3,p4,some (.loc L),p6,p7] st inB=exs (callT T (k+5)) [some (.loc 0),some (.int w),some (.int n),p3,p4,some (.loc L),p6,some (.lst ys)] s2 inT:=by
  rw [inE]
  simp! [f_qsome_telling,e1,hr,e2,hE]
 rw [go]
 cases hq:(u == 0) with
 |true =>
  have cl:=zj7 ys none (some 1)
  have hf:frzV (.loc L) s3=.ok (.lst acc) (s3.set L .dead):=by simp only [frzV,hs3]
  have hsl:slcO (.lst ys) none (some 1)=some (.lst (cut ys none (some 1))):=rfl
  have c1:(cut ys none (some 1)).length<=1:=by
   unfold cut
   rw [List.length_take]
   have:hiOf ys.length (some 1)<=1:=by simp [hiOf,clampI];omega
   omega
  have had:binV .add (.lst acc) (.lst (cut ys none (some 1)))=some (.lst (acc++cut ys none (some 1))):=by
   simp only [binV]
   rw [if_pos (by simp only [sizeMax];omega)]
  refine ⟨(s3.set L .dead).length,acc++cut ys none (some 1),some (.lst ys),(s3.set L .dead)++[.lst (acc++cut ys none (some 1))],?_,?_,by rw [List.length_append];omega,fun y hy=>?_,(g3.put hL hB _).app _,by simp,?_⟩
  ·rw [List.length_set];have:=g3.pos;omega
  ·rw [List.length_set];exact g3.len
  ·rcases List.mem_append.1 hy with hy|hy
   ·exact ha y hy
   ·exact hd y (zky hy)
  ·have hth:∀v s,thwV (.lst v) s=.ok (.loc s.length) (s++[.lst v]):=fun _ _=>rfl
   simp! [inT,inB,teB,f_qsome_telling,e3,hq,ev.eq_30,hf,zeO,zcm,zgD,hsl,had,hth]
 |false =>
  obtain ⟨c,s4,hc,g4,e4⟩:=zhc (n:=n) hns (k+1) (Frm.refl f3.dr) w0 w1
  obtain ⟨s,s5,hss,g5,e5⟩:=zfm hns k (Frm.refl g4.dr)
  have e4:callT T (k+5) zcq [.loc 0,.int w,.int n] s3=_:=e4
  have ln3:=f3.len
  have ln4:=g4.len
  have hs5:s5[L]?=some (.lst acc):=by rw [g5.get L hL (by omega),g4.get L hL (by omega)];exact hs3
  have tu:∀s,bltV .tuple s [.lst ys]=some (.tp false ys):=fun s=>rfl
  obtain ⟨m1',m2'⟩:=zeH (v:=.tp false [.str sRnd,c,s,.tp false ys]) hs5 (by omega)
  have hmk:mthOk .append s3 (.loc L)=some true:=(zeH (v:=.non) hs3 (by omega)).1
  refine ⟨L,acc++[.tp false [.str sRnd,c,s,.tp false ys]],some (.lst ys),s5.set L (.lst (acc++[.tp false [.str sRnd,c,s,.tp false ys]])),hL,hB,by simp,fun y hy=>?_,((g3.trans g4).trans g5).put hL hB _,rdS hs5,?_⟩
  ·rcases List.mem_append.1 hy with hy|hy
   ·exact ha y hy
   ·simp only [List.mem_cons,List.not_mem_nil,or_false] at hy
    rw [hy];exact znH (d:=5) (by omega) hc hss (by omega) hd0
  ·simp! [inT,inB,teB,f_qsome_telling,e3,hq,hmk,e4,e5,tu,m2',Nat.zero_le]
theorem inners {ns:List Int}(hns:ns.length<=1000)(k:Nat){w n:Int}(w0:0<=w)(w1:w<=1000){B:Store}{p3 p4:Option PV}:∀(N:Nat) (a:Int) (acc:List PV) (L:Nat) (p6 p7:Option PV) (st:Store),Frm ns B st->L≠0->B.length<=L->st[L]?=some (.lst acc)->acc.length+N<=9->(∀y∈acc,isQ part1 7 y) ->
  ∃L' acc' q6 q7 st',L'≠0/\acc'.length<=9/\(∀y∈acc',isQ part1 7 y)/\Frm ns B st'/\st'[L']?=some (.lst acc') /\
   forB (callT T (k+5)) (.n 6) inB (rangeL N a 1) [some (.loc 0),some (.int w),some (.int n),p3,p4,some (.loc L),p6,p7] st=.nx [some (.loc 0),some (.int w),some (.int n),p3,p4,some (.loc L'),q6,q7] st'
 |0,a,acc,L,p6,p7,st,h,h0,hB,hs,hl,ha=>⟨L,acc,p6,p7,st,h0,by omega,ha,h,hs,by rw [rangeL,zce]⟩
 |N+1,a,acc,L,p6,p7,st,h,h0,hB,hs,hl,ha=>by
  obtain ⟨L1,acc1,q7,s1,a1,a2,a3,a4,a5,a6,e1⟩:=zkc (n:=n) hns k w0 w1 h h0 hB hs (by omega) ha (p3:=p3) (p4:=p4) (p6:=some (.int a)) (p7:=p7)
  obtain ⟨L',acc',q6,q7,st',b1,b2,b3,b4,b5,b6⟩:=inners (n:=n) hns k w0 w1 (p3:=p3) (p4:=p4) N (a+1) acc1 L1 (some (.int a)) q7 s1 a5 a1 a2 a6 (by omega) a4
  refine ⟨L',acc',q6,q7,st',b1,b2,b3,b4,b5,?_⟩
  rw [rangeL,zbD (ρ1:=[some (.loc 0),some (.int w),some (.int n),p3,p4,some (.loc L),some (.int a),p7]) rfl,e1]
  exact b6
noncomputable def teT:Css:=match teB with
 | .cons (.ite _ _ b) _=>b
 |_=>.nil
noncomputable def teT2:Css:=match teT with
 | .cons _ (.cons _ r)=>r
 |_=>.nil
theorem teE:teB=(match f_qsome_telling.body with
 | .cons _ (.cons (.for _ _ (.cons (.ite c a _) r)) _)=>.cons (.ite c a teT) r
 |x=>x):=rfl
theorem teE2:teT=(match f_qsome_telling.body with
 | .cons _ (.cons (.for _ _ (.cons (.ite _ _ (.cons a (.cons (.for t i _) _))) _)) _)=>.cons a (.cons (.for t i inB) teT2)
 |x=>x):=rfl
theorem zl5 {ns:List Int}(hns:ns.length<=1000)(k:Nat){w n:Int}(w0:0<=w)(w1:w<=1000){B st:Store}(h:Frm ns B st){L:Nat}(hL:L≠0)(hB:B.length<=L){acc:List PV}(hs:st[L]?=some (.lst acc))(hl:acc.length<9)(ha:∀y∈acc,isQ part2 9 y){p4 p5 p6 p7:Option PV} :
  ∃v q5 q6 q7 st',isQ part2 9 v/\Frm ns B st'/\st'[L]?=some (.lst (acc++[v])) /\
   exs (callT T (k+5)) [some (.loc 0),some (.int w),some (.int n),some (.loc L),p4,p5,p6,p7] st teB=.nx [some (.loc 0),some (.int w),some (.int n),some (.loc L),p4,q5,q6,q7] st':=by
 have hL1:L<st.length:=(List.getElem?_eq_some_iff.1 hs).1
 obtain ⟨u,s1,u0,u1,o1,e1⟩:=takeF (k+2) hns (m:=2) (by omega) (by omega) (Frm.refl h.dr)
 have e1:callT T (k+5) zaf [.loc 0,.int 2] st=_:=e1
 have f1:=o1.frm (Frm.refl h.dr)
 have hs1:s1[L]?=some (.lst acc):=by rw [f1.get L hL hL1];exact hs
 have ln1:=o1.len
 cases hq:(u == 0) with
 |true =>
  obtain ⟨r,s2,hr,f2,e2⟩:=zio hns k (Frm.refl f1.dr)
  have hs2:s2[L]?=some (.lst acc):=by rw [f2.get L hL (by omega)];exact hs1
  have m1:=(zeH (v:=.non) hs1 (by omega)).1
  have m2:=(zeH (v:=.tp false [.str sRow,r]) hs2 (by omega)).2
  refine ⟨_,p5,p6,p7,s2.set L (.lst (acc++[.tp false [.str sRow,r]])),znw (by omega) hr,((h.trans f1).trans f2).put hL hB _,rdS hs2,?_⟩
  rw [teE]
  simp! [f_qsome_telling,e1,hq,m1,e2,m2,Nat.zero_le]
 |false =>
  have pos:=f1.pos
  have g0:=f1.app (.lst [])
  obtain ⟨m,s2,m0,m1,o2,e2⟩:=takeF (k+2) hns (m:=3) (by omega) (by omega) g0
  have e2:callT T (k+5) zaf [.loc 0,.int 3] (s1++[.lst []])=_:=e2
  obtain ⟨m,rfl⟩:=zfD m0
  have g2:Frm ns s1 s2:=o2.frm ((Frm.refl f1.dr).app (.lst []))
  have hs2:s2[s1.length]?=some (.lst []):=by rw [o2.get (by omega)];simp
  obtain ⟨L',ys,q6,q7,s3,b1,b2,b3,b4,b5,e3⟩:=inners (n:=n) hns k w0 w1 (B:=s1) (p3:=some (.loc L)) (p4:=p4) m 0 [] s1.length p6 p7 s2 g2 (by omega) (Nat.le_refl _) hs2 (by simp;omega) (by simp)
  have hr:=zek m (by omega)
  obtain ⟨c,s4,hc,g4,e4⟩:=zhc (n:=n) hns (k+1) (Frm.refl b4.dr) w0 w1
  have e4:callT T (k+5) zcq [.loc 0,.int w,.int n] s3=_:=e4
  obtain ⟨s,s5,hss,g5,e5⟩:=zfm hns k (Frm.refl g4.dr)
  have ln3:=b4.len
  have ln4:=g4.len
  have hs3:s3[L]?=some (.lst acc):=by rw [b4.get L hL (by omega)];exact hs1
  have hs5:s5[L]?=some (.lst acc):=by rw [g5.get L hL (by omega),g4.get L hL (by omega)];exact hs3
  have hL':L' < s3.length:=(List.getElem?_eq_some_iff.1 b5).1
  have hi5:s5[L']?=some (.lst ys):=by rw [g5.get L' b1 (by omega),g4.get L' b1 (by omega)];exact b5
  have tu:bltV .tuple s5 [.loc L']=some (.tp false ys):=by simp [bltV,tupV,lstOf,hi5]
  have m1:=(zeH (v:=.non) hs3 (by omega)).1
  have m2:=(zeH (v:=.tp false [.str sRnd,c,s,.tp false ys]) hs5 (by omega)).2
  refine ⟨_,some (.loc L'),q6,q7,s5.set L (.lst (acc++[.tp false [.str sRnd,c,s,.tp false ys]])),znH (d:=7) (by omega) hc hss (by omega) b3,((((h.trans f1).trans b4).trans g4).trans g5).put hL hB _,rdS hs5,?_⟩
  rw [teE]
  simp! [f_qsome_telling,e1,hq]
  rw [teE2]
  simp! [f_qsome_telling,Nat.zero_le,e2,hr,e3]
  simp! [teT2,teT,teB,f_qsome_telling,Nat.zero_le,m1,e4,e5,tu,m2]
theorem parts {ns:List Int}(hns:ns.length<=1000)(k:Nat){w n:Int}(w0:0<=w)(w1:w<=1000){B:Store}{L:Nat}(hL:L≠0)(hB:B.length<=L):∀(N:Nat) (a:Int) (acc:List PV) (p4 p5 p6 p7:Option PV) (st:Store),Frm ns B st->st[L]?=some (.lst acc)->acc.length+N<=9->(∀y∈acc,isQ part2 9 y) ->
  ∃acc' ρ st',acc'.length<=9/\(∀y∈acc',isQ part2 9 y)/\Frm ns B st'/\st'[L]?=some (.lst acc') /\
   forB (callT T (k+5)) (.n 4) teB (rangeL N a 1) [some (.loc 0),some (.int w),some (.int n),some (.loc L),p4,p5,p6,p7] st=.nx (some (.loc 0)::some (.int w)::some (.int n)::some (.loc L)::ρ) st'
 |0,a,acc,p4,p5,p6,p7,st,h,hs,hl,ha=>⟨acc,_,st,by omega,ha,h,hs,by rw [rangeL,zce]⟩
 |N+1,a,acc,p4,p5,p6,p7,st,h,hs,hl,ha=>by
  obtain ⟨v,q5,q6,q7,s1,hv,g1,r1,e1⟩:=zl5 (n:=n) hns k w0 w1 h hL hB hs (by omega) ha (p4:=some (.int a)) (p5:=p5) (p6:=p6) (p7:=p7)
  obtain ⟨acc',ρ,st',b1,b2,b3,b4,b5⟩:=parts (n:=n) hns k w0 w1 hL hB N (a+1) (acc++[v]) (some (.int a)) q5 q6 q7 s1 g1 r1 (by simp;omega) (fun y hy=>by
   rcases List.mem_append.1 hy with hy|hy
   ·exact ha y hy
   ·simp only [List.mem_cons,List.not_mem_nil,or_false] at hy
    rw [hy];exact hv)
  refine ⟨acc',ρ,st',b1,b2,b3,b4,?_⟩
  rw [rangeL,zbD (ρ1:=[some (.loc 0),some (.int w),some (.int n),some (.loc L),some (.int a),p5,p6,p7]) rfl,e1]
  exact b5
theorem zhR {ns:List Int}(hns:ns.length<=1000)(k:Nat){w n:Int}(w0:0<=w)(w1:w<=1000){B st:Store}(h:Frm ns B st):∃ps st',ps.length<=9/\(∀y∈ps,isQ part2 9 y)/\Frm ns B st'/\callT T (k+6) zcE [.loc 0,.int w,.int n] st=.ok (.tp false ps) st':=by
 have hT:T zcE=some ⟨3,8,false,f_qsome_telling.body⟩:=rfl
 have pos:=h.pos
 have g0:=h.app (.lst [])
 obtain ⟨m,s1,m0,m1,o1,e1⟩:=takeF (k+2) hns (m:=4) (by omega) (by omega) g0
 have e1:callT T (k+5) zaf [.loc 0,.int 4] (st++[.lst []])=_:=e1
 have g1:=o1.frm g0
 have hs1:s1[st.length]?=some (.lst []):=by rw [o1.get (by omega)];simp
 obtain ⟨m,rfl⟩:=zfD m0
 obtain ⟨ps,ρ,s2,l2,t2,g2,r2,e2⟩:=parts (n:=n) hns k w0 w1 (L:=st.length) (by omega) h.len m 0 [] none none none none s1 g1 hs1 (by simp;omega) (by simp)
 have hr:=zek m (by omega)
 have tu:bltV .tuple s2 [.loc st.length]=some (.tp false ps):=by simp [bltV,tupV,lstOf,r2]
 refine ⟨ps,s2,l2,t2,g2,?_⟩
 have hb:f_qsome_telling.body=(match f_qsome_telling.body with
  | .cons a (.cons (.for t i _) r)=>.cons a (.cons (.for t i teB) r)
  |x=>x):=rfl
 rw [zaC hT rfl rfl]
 dsimp only
 rw [hb]
 simp! [f_qsome_telling,zbR,Nat.zero_le,e1,hr,e2,tu]
noncomputable def str0 (c:Nat)(g:Int):List PV:=[.non,.bl true,.bl false,.int (-1),.int g,.str "",.str ⟨#[c]⟩,.str ((⟨#[c]⟩:Str)++(⟨#[c]⟩:Str)),.str "A",.str "?",.tp false [],.tp false [.str ⟨#[c]⟩]]
noncomputable def str1 (c:Nat)(g:Int):List PV:=[.tp false [.str ⟨#[c]⟩,.int 0,.int 0],.tp false [.str ⟨#[c]⟩,.int (-1)],.tp false [.str ⟨#[c]⟩,.int g],.tp false [.str "A",.int 0],.tp false [.str ((⟨#[c]⟩:Str)++Str.ofString "b"),.int 0]]
noncomputable def str2 (c:Nat):List PV:=[.tp false [.str "",.int 0],.tp false [.str ⟨#[c]⟩,.bl true],.tp false [.str ⟨#[c]⟩,.str "0"],.lst [.str ⟨#[c]⟩,.int 0],.tp false [.str ⟨#[c]⟩,.tp false [.int 0,.int 0,.int 0,.int 0]]]
noncomputable def str3 (c:Nat):List PV:=[.int 0,.int 1,.int 2,.tp false [.str ⟨#[c]⟩,.int 0],.str "sum",.str "marks",.tp false [.str "mark",.int 0],.tp false [.tp false [.str ⟨#[c]⟩,.int 0],.int 1]]
theorem zkN (a b:Str):(a++b).cps.toList=a.cps.toList++b.cps.toList:=by
 show (a.cps++b.cps).toList=_
 simp
theorem znr {c:Nat}(h:c<128)(g:Int):∀x∈str0 c g++str1 c g++str2 c++str3 c,tam 3 10 x=true:=by
 have hc:∀d m,1<=m->tam d m (.str ⟨#[c]⟩)=true:=fun d m hm=>zkS h hm
 have h2:∀d,tam d 10 (.str ((⟨#[c]⟩:Str)++(⟨#[c]⟩:Str)))=true:=fun d=>by simp [tam,zkN,h]
 have h3:∀d,tam d 10 (.str ((⟨#[c]⟩:Str)++Str.ofString "b"))=true:=fun d=>by
  simp only [tam,zkN]
  rw [show (Str.ofString "b").cps.toList=[98] by decide +kernel]
  simp [h]
 have hs:∀d,tam d 10 (.str "")=true/\tam d 10 (.str "A")=true/\tam d 10 (.str "?")=true/\tam d 10 (.str "0")=true/\tam d 10 (.str "sum")=true/\tam d 10 (.str "marks")=true/\tam d 10 (.str "mark")=true:=fun d=>by
  simp only [tam]
  exact ⟨by decide +kernel,by decide +kernel,by decide +kernel,by decide +kernel,by decide +kernel,by decide +kernel,by decide +kernel⟩
 have hi:∀d m i,tam d m (.int i)=true:=fun _ _ _=>rfl
 have hb:∀d m i,tam d m (.bl i)=true:=fun _ _ _=>rfl
 have hn:∀d m,tam d m .non=true:=fun _ _=>rfl
 have ht:∀d m k xs,tam (d+1) m (.tp k xs)=(decide (xs.length<=m) && tams d m xs):=fun d m k xs=>by simp [tam]
 have hl:∀d m xs,tam (d+1) m (.lst xs)=(decide (xs.length<=m) && tams d m xs):=fun d m xs=>by simp [tam]
 rw [<- zfg]
 simp only [str0,str1,str2,str3,List.cons_append,List.nil_append,tams,ht 2 10,hl 2 10,ht 1 10,hi,hb,hn,hc _ 10 (by omega),h2,h3,(hs _).1,(hs _).2.1,(hs _).2.2.1,(hs _).2.2.2.1,(hs _).2.2.2.2.1,(hs _).2.2.2.2.2.1,(hs _).2.2.2.2.2.2,Bool.and_true,Bool.true_and,List.length_cons,List.length_nil]
 rfl
theorem zmX {c:Nat}(g:Int):∀x∈str0 c g++str1 c g++str2 c++str3 c,parsS part2 x=peq x (.tp false []):=by
 have hp:∀{s:Str} {r:List PV},s.cps.size=1->part2 (.tp false (.str s::r))=false:=fun {s r} h=>by
  have h1:∀u:Str,u.cps.size≠1->peq (.str s) (.str u)=false:=fun u hu=>by
   rw [zb9]
   exact decide_eq_false fun e=>hu (e ▸ h)
  simp only [part2,prt,h1 sRow (by decide +kernel),h1 sRnd (by decide +kernel),Bool.false_and,Bool.false_eq_true,if_false]
 have hs:∀s:Str,part2 (.str s)=false:=fun _=>rfl
 have hc:∀r:List PV,part2 (.tp false (.str ⟨#[c]⟩ :: r))=false:=fun r=>hp rfl
 intro x hx
 simp only [str0,str1,str2,str3,List.cons_append,List.nil_append,List.mem_cons,List.not_mem_nil,or_false] at hx
 rcases hx with rfl|rfl|rfl|rfl|rfl|rfl|rfl|rfl|rfl|rfl|rfl|rfl|rfl|rfl|rfl|rfl|rfl|rfl|rfl|rfl|rfl|rfl|rfl|rfl|rfl|rfl|rfl|rfl|rfl|rfl <;> simp only [parsS,peq,peqs,List.all_cons,List.all_nil,hs,hc,Bool.false_and]
theorem zjT {st:Store}{L:Nat}{xs ys:List PV}(h:st[L]?=some (.lst xs))(hl:xs.length+ys.length<=1000):mthOk .extend st (.loc L)=some true/\mthV .extend st (.loc L) [.lst ys]=.ok .non (st.set L (.lst (xs++ys))):=by
 constructor
 ·simp [mthOk,lstOf,h]
 ·simp only [mthV,extV,h]
  rw [if_pos (by omega)]
theorem znv {a b:Nat}:binV .add (.str ⟨#[a]⟩) (.str ⟨#[b]⟩)=some (.str ((⟨#[a]⟩:Str)++(⟨#[b]⟩:Str))):=rfl
theorem zo1 {a:Nat}:binV .add (.str ⟨#[a]⟩) (.str "b")=some (.str ((⟨#[a]⟩:Str)++Str.ofString "b")):=by
 simp only [binV]
 rw [if_pos]
 show _<=16777216
 have:(Str.ofString "b").length=1:=by decide +kernel
 rw [this]
 show 1+1<=_
 omega
theorem neg1 {call:Cl}{ρ:IC.Env}{st:Store}:ev call ρ st (.neg (.cst (.int 1)))=.ok (.int (-1)) st:=by simp only [ev,R.bind]
noncomputable def tgS:Css:=match f_qstrange.body with
 | .cons _ (.cons _ r)=>r
 |_=>.nil
noncomputable def tgS1:Css:=match tgS with | .cons _ r=>r|x=>x
noncomputable def tgS2:Css:=match tgS1 with | .cons _ r=>r|x=>x
noncomputable def tgS3:Css:=match tgS2 with | .cons _ r=>r|x=>x
noncomputable def tgS4:Css:=match tgS3 with | .cons _ r=>r|x=>x
theorem gS0:tgS=(match f_qstrange.body with | .cons _ (.cons _ (.cons a _))=>.cons a tgS1|x=>x):=rfl
theorem gS1:tgS1=(match f_qstrange.body with | .cons _ (.cons _ (.cons _ (.cons a _)))=>.cons a tgS2|x=>x):=rfl
theorem gS2:tgS2=(match f_qstrange.body with | .cons _ (.cons _ (.cons _ (.cons _ (.cons a _))))=>.cons a tgS3|x=>x):=rfl
theorem gS3:tgS3=(match f_qstrange.body with | .cons _ (.cons _ (.cons _ (.cons _ (.cons _ (.cons a _)))))=>.cons a tgS4|x=>x):=rfl
theorem gS4:tgS4=(match f_qstrange.body with | .cons _ (.cons _ (.cons _ (.cons _ (.cons _ (.cons _ r)))))=>r|x=>x):=rfl
theorem strange {B:Store}{ns:List Int}(hns:ns.length<=1000)(k:Nat){st:Store}(h:Frm ns B st):∃v st',tam 3 10 v=true/\parsS part2 v=peq v (.tp false [])/\Frm ns B st'/\callT T (k+5) zfw [.loc 0] st=.ok v st':=by
 have hT:T zfw=some ⟨1,4,false,f_qstrange.body⟩:=rfl
 obtain ⟨c,s1,c0,c1,o1,e1⟩:=ze0 hns k h.dr
 obtain ⟨a,s2,a0,a1,o2,e2⟩:=takeF (k+1) hns (m:=3) (by omega) (by omega) (o1.frm h)
 obtain ⟨b,s3,b0,b1,o3,e3⟩:=takeF (k+1) hns (m:=1000000000) (by omega) (by omega) (o2.frm (o1.frm h))
 have e2:callT T (k+4) zaf [.loc 0,.int 3] s1=_:=e2
 have e3:callT T (k+4) zaf [.loc 0,.int 1000000000] s2=_:=e3
 have g3:=o3.frm (o2.frm (o1.frm h))
 have hL:s3.length≠0:=by have:=g3.pos;omega
 have hpw:binV .pow (.int 10) (.int 9)=some (.int 1000000000):=by with_unfolding_all rfl
 have hml:binV .mul (.int a) (.int b)=some (.int (a*b)):=zkQ (by omega)
 generalize hg:100+a*b=g
 have hb:f_qstrange.body=(match f_qstrange.body with
  | .cons a (.cons b _)=>.cons a (.cons b tgS)
  |_=>.nil):=rfl
 have q0:(s3++[Ob.lst (str0 c g)])[s3.length]?=some (.lst (str0 c g)):=by simp
 obtain ⟨m1,n1⟩:=zjT (ys:=str1 c g) q0 (by simp [str0,str1])
 obtain ⟨t1,ht1⟩:∃t,t=(s3++[Ob.lst (str0 c g)]).set s3.length (.lst (str0 c g++str1 c g)):=⟨_,rfl⟩
 have q1:t1[s3.length]?=some (.lst (str0 c g++str1 c g)):=by rw [ht1];exact rdS q0
 have d1:Frm ns B t1:=by rw [ht1];exact (g3.app _).put hL g3.len _
 rw [<- ht1] at n1
 obtain ⟨m2,n2⟩:=zjT (ys:=str2 c) q1 (by simp [str0,str1,str2])
 obtain ⟨t2,ht2⟩:∃t,t=t1.set s3.length (.lst (str0 c g++str1 c g++str2 c)):=⟨_,rfl⟩
 have q2:t2[s3.length]?=some (.lst (str0 c g++str1 c g++str2 c)):=by rw [ht2];exact rdS q1
 have d2:Frm ns B t2:=by rw [ht2];exact d1.put hL g3.len _
 rw [<- ht2] at n2
 obtain ⟨m3,n3⟩:=zjT (ys:=str3 c) q2 (by simp [str0,str1,str2,str3])
 obtain ⟨t3,ht3⟩:∃t,t=t2.set s3.length (.lst (str0 c g++str1 c g++str2 c++str3 c)):=⟨_,rfl⟩
 have q3:t3[s3.length]?=some (.lst (str0 c g++str1 c g++str2 c++str3 c)):=by rw [ht3];exact rdS q2
 have d3:Frm ns B t3:=by rw [ht3];exact d2.put hL g3.len _
 rw [<- ht3] at n3
 have hlen:bltV .len t3 [.loc s3.length]=some (.int 30):=by simp [bltV,lenV,seqOf,q3,str0,str1,str2,str3]
 obtain ⟨w,s4,w0,w1,o4,e4⟩:=takeF (k+1) hns (m:=30) (by omega) (by omega) d3
 have e4:callT T (k+4) zaf [.loc 0,.int 30] t3=_:=e4
 have q4:s4[s3.length]?=some (.lst (str0 c g++str1 c g++str2 c++str3 c)):=by rw [o4.get hL];exact q3
 obtain ⟨x,hx,hi⟩:=ziG (st:=s4) (xs:=str0 c g++str1 c g++str2 c++str3 c) w0 (by simp [str0,str1,str2,str3];omega)
 have hi':idxV s4 (.loc s3.length) (.int w)=some x:=by
  simp only [idxV,q4]
  simp only [idxV] at hi
  exact hi
 refine ⟨x,s4,znr (by omega) g x hx,zmX g x hx,o4.frm d3,?_⟩
 rw [zaC hT rfl rfl]
 dsimp only
 rw [hb]
 have f0:exs (callT T (k+4)) [some (.loc 0),some (.str ⟨#[c]⟩),some (.int g),none] s3 tgS=exs (callT T (k+4)) [some (.loc 0),some (.str ⟨#[c]⟩),some (.int g),some (.loc s3.length)] (s3++[.lst (str0 c g)]) tgS1:=by
  rw [gS0]
  simp! [f_qstrange,neg1,znv,Nat.zero_le,str0]
 have f1:exs (callT T (k+4)) [some (.loc 0),some (.str ⟨#[c]⟩),some (.int g),some (.loc s3.length)] (s3++[.lst (str0 c g)]) tgS1=exs (callT T (k+4)) [some (.loc 0),some (.str ⟨#[c]⟩),some (.int g),some (.loc s3.length)] t1 tgS2:=by
  rw [gS1]
  simp only [str1] at n1
  simp! [f_qstrange,neg1,zo1,m1,n1]
 have f2:exs (callT T (k+4)) [some (.loc 0),some (.str ⟨#[c]⟩),some (.int g),some (.loc s3.length)] t1 tgS2=exs (callT T (k+4)) [some (.loc 0),some (.str ⟨#[c]⟩),some (.int g),some (.loc s3.length)] t2 tgS3:=by
  rw [gS2]
  simp only [str2] at n2
  simp! [f_qstrange,m2,n2]
 have f3:exs (callT T (k+4)) [some (.loc 0),some (.str ⟨#[c]⟩),some (.int g),some (.loc s3.length)] t2 tgS3=exs (callT T (k+4)) [some (.loc 0),some (.str ⟨#[c]⟩),some (.int g),some (.loc s3.length)] t3 tgS4:=by
  rw [gS3]
  simp only [str3] at n3
  simp! [f_qstrange,m3,n3]
 have f4:exs (callT T (k+4)) [some (.loc 0),some (.str ⟨#[c]⟩),some (.int g),some (.loc s3.length)] t3 tgS4=.rt x s4:=by
  rw [gS4]
  simp! [f_qstrange,hlen,e4,hi']
 simp! [f_qstrange,e1,e2,hpw,e3,hml,hg]
 rw [f0,f1,f2,f3,f4]
 rfl
theorem cat3 {b:Bool}{xs:List PV}{v:PV}{o1 o2 p1 p2:Option Int}(hl:xs.length<=400):∃a c u j ys,slcO (.tp b xs) o1 o2=some a/\slcO (.tp b xs) p1 p2=some c/\binV .add a (.tp false [v])=some u/\binV .add u c=some (.tp j ys)/\ys.length<=2*xs.length+1/\∀y∈ys,y∈xs \/ y=v:=by
 obtain ⟨j1,y1,e1,l1,m1⟩:=zjb (k:=b) (xs:=xs) o1 o2
 obtain ⟨j2,y2,e2,l2,m2⟩:=zjb (k:=b) (xs:=xs) p1 p2
 obtain ⟨j3,y3,e3,l3,m3⟩:=zjS (k:=j1) (j:=false) (a:=y1) (b:=[v]) (by simp [sizeMax];omega)
 obtain ⟨j4,y4,e4,l4,m4⟩:=zjS (k:=j3) (j:=j2) (a:=y3) (b:=y2) (by simp [sizeMax,l3];omega)
 refine ⟨_,_,_,j4,y4,e1,e2,e3,e4,by simp only [List.length_singleton] at l3;omega,fun y hy=>?_⟩
 rcases m4 y hy with h|h
 ·rcases m3 y h with h|h
  ·exact .inl (m1 y h)
  ·exact .inr (by simpa using h)
 ·exact .inl (m2 y h)
theorem cat2 {b:Bool}{xs:List PV}{o1 o2 p1 p2:Option Int}(hl:xs.length<=400):∃a c j ys,slcO (.tp b xs) o1 o2=some a/\slcO (.tp b xs) p1 p2=some c/\binV .add a c=some (.tp j ys)/\ys.length<=2*xs.length+1/\∀y∈ys,y∈xs:=by
 obtain ⟨j1,y1,e1,l1,m1⟩:=zjb (k:=b) (xs:=xs) o1 o2
 obtain ⟨j2,y2,e2,l2,m2⟩:=zjb (k:=b) (xs:=xs) p1 p2
 obtain ⟨j4,y4,e4,l4,m4⟩:=zjS (k:=j1) (j:=j2) (a:=y1) (b:=y2) (by simp [sizeMax];omega)
 refine ⟨_,_,j4,y4,e1,e2,e4,by omega,fun y hy=>?_⟩
 rcases m4 y hy with h|h
 ·exact m1 y h
 ·exact m2 y h
noncomputable def tpS:Css:=match f_qspoilt_tuple.body with
 | .cons _ (.cons _ (.cons _ (.cons _ r)))=>r
 |_=>.nil
noncomputable def tpS1:Css:=match tpS with | .cons _ r=>r|x=>x
noncomputable def tpS2:Css:=match tpS1 with | .cons _ r=>r|x=>x
noncomputable def tpS3:Css:=match tpS2 with | .cons _ r=>r|x=>x
noncomputable def tpS4:Css:=match tpS3 with | .cons _ r=>r|x=>x
theorem pS0:tpS=(match f_qspoilt_tuple.body with | .cons _ (.cons _ (.cons _ (.cons _ (.cons a _))))=>.cons a tpS1|x=>x):=rfl
theorem pS1:tpS1=(match f_qspoilt_tuple.body with | .cons _ (.cons _ (.cons _ (.cons _ (.cons _ (.cons a _)))))=>.cons a tpS2|x=>x):=rfl
theorem pS2:tpS2=(match f_qspoilt_tuple.body with | .cons _ (.cons _ (.cons _ (.cons _ (.cons _ (.cons _ (.cons a _))))))=>.cons a tpS3|x=>x):=rfl
theorem pS3:tpS3=(match f_qspoilt_tuple.body with | .cons _ (.cons _ (.cons _ (.cons _ (.cons _ (.cons _ (.cons _ (.cons a _)))))))=>.cons a tpS4|x=>x):=rfl
theorem pS4:tpS4=(match f_qspoilt_tuple.body with | .cons _ (.cons _ (.cons _ (.cons _ (.cons _ (.cons _ (.cons _ (.cons _ r)))))))=>r|x=>x):=rfl
theorem zmi {st:Store}{L:Nat}{xs:List PV}{i:Int}{v:PV}(h:st[L]?=some (.lst xs))(i0:0<=i)(i1:i<xs.length):sixV st (.loc L) (.int i) v=some (st.set L (.lst (xs.set i.toNat v))):=by
 simp only [sixV,h,zjn i0 i1]
theorem zmg {st:Store}{L:Nat}{xs:List PV}{i:Int}(h:st[L]?=some (.lst xs))(i0:0<=i)(i1:i<xs.length):∃x,x∈xs/\idxV st (.loc L) (.int i)=some x:=by
 obtain ⟨x,hx,e⟩:=ziG (st:=st) i0 i1
 refine ⟨x,hx,?_⟩
 simp only [idxV,h]
 simp only [idxV] at e
 exact e
theorem zkV {xs:List PV}{i:Nat}{v y:PV}(h:y∈xs.set i v):y∈xs \/ y=v:=List.mem_or_eq_of_mem_set h
theorem zfQ {B:Store}{ns:List Int}(hns:ns.length<=1000)(k:Nat){b:Bool}{xs:List PV}{D M:Nat}(hx:∀x∈xs,tam D M x=true)(hD:3<=D)(hM:10<=M)(hl:xs.length<=400){st:Store}(h:Frm ns B st) :
  ∃j ys st',(∀y∈ys,tam D M y=true)/\ys.length<=2*xs.length+1/\Frm ns B st'/\callT T (k+6) zcC [.loc 0,.tp b xs] st=.ok (.tp j ys) st':=by
 have hT:T zcC=some ⟨2,8,false,f_qspoilt_tuple.body⟩:=rfl
 obtain ⟨a,s1,a0,a1,o1,e1⟩:=takeF (k+2) hns (m:=6) (by omega) (by omega) h
 have g1:=o1.frm h
 obtain ⟨w,s2,w0,w1,o2,e2⟩:=takeF (k+2) hns (m:=(xs.length:Int)+1) (by omega) (by omega) g1
 have g2:=o2.frm g1
 obtain ⟨v,s3,tv,_,g3,e3⟩:=strange hns k g2
 have tv:tam D M v=true:=zbL hD hM v tv
 have e1:callT T (k+5) zaf [.loc 0,.int 6] st=_:=e1
 have e2:callT T (k+5) zaf [.loc 0,.int ((xs.length:Int)+1)] s1=_:=e2
 obtain ⟨hr,hr1,hmin⟩:∃hr:Int,(0<xs.length->0<=hr/\hr<xs.length)/\∀s,bltV .min s [.int w,.int ((xs.length:Int) - 1)]=some (.int hr):=by
  refine ⟨if (xs.length:Int) - 1<w then (xs.length:Int) - 1 else w,fun hp=>?_,fun s=>rfl⟩
  split <;> omega
 have hb:f_qspoilt_tuple.body=(match f_qspoilt_tuple.body with
  | .cons a (.cons b (.cons c (.cons d _)))=>.cons a (.cons b (.cons c (.cons d tpS)))
  |_=>.nil):=rfl
 have key:∃j ys st',(∀y∈ys,tam D M y=true)/\ys.length<=2*xs.length+1/\Frm ns B st'/\exs (callT T (k+5)) [some (.loc 0),some (.tp b xs),some (.int a),some (.int w),some v,some (.int hr),none,none] s3 tpS=.rt (.tp j ys) st':=by
  by_cases c0:xs.length=0 \/ a=0
  ·obtain ⟨u1,u2,u3,j,ys,q1,q2,q3,q4,l,m⟩:=cat3 (b:=b) (xs:=xs) (v:=v) (o1:=none) (o2:=some w) (p1:=some w) (p2:=none) hl
   refine ⟨j,ys,s3,fun y hy=>(m y hy).elim (hx y) (fun e=>e ▸ tv),l,g3,?_⟩
   rw [pS0]
   by_cases c1:xs.length=0
   ·have hz:((xs.length:Int) == 0)=true:=by simp [c1]
    simp! [f_qspoilt_tuple,zy,hz,zcm,zeO,zgD,zhh,q1,q2,q3,q4]
   ·have hz:((xs.length:Int) == 0)=false:=beq_eq_false_iff_ne.2 (by omega)
    have ha:(a == 0)=true:=by simp;omega
    simp! [f_qspoilt_tuple,zy,hz,ha,zcm,zeO,zgD,zhh,q1,q2,q3,q4]
  have c1:xs.length≠0:=fun e=>c0 (.inl e)
  have ca:a≠0:=fun e=>c0 (.inr e)
  have hz:((xs.length:Int) == 0)=false:=beq_eq_false_iff_ne.2 (by omega)
  have ha:(a == 0)=false:=by simp;omega
  obtain ⟨h0,h1⟩:=hr1 (by omega)
  have r0:exs (callT T (k+5)) [some (.loc 0),some (.tp b xs),some (.int a),some (.int w),some v,some (.int hr),none,none] s3 tpS=exs (callT T (k+5)) [some (.loc 0),some (.tp b xs),some (.int a),some (.int w),some v,some (.int hr),none,none] s3 tpS1:=by
   rw [pS0]
   simp! [f_qspoilt_tuple,zy,hz,ha]
  rw [r0]
  by_cases k1:a=1
  ·obtain ⟨u1,u2,j,ys,q1,q2,q3,l,m⟩:=cat2 (b:=b) (xs:=xs) (o1:=none) (o2:=some hr) (p1:=some (hr+1)) (p2:=none) hl
   refine ⟨j,ys,s3,fun y hy=>hx y (m y hy),l,g3,?_⟩
   have hb1:(a == 1)=true:=by simp [k1]
   rw [pS1]
   simp! [f_qspoilt_tuple,hb1,zcm,zeO,zgD,zhh,q1,q2,q3]
  have hb1:(a == 1)=false:=by simp;omega
  have r1:exs (callT T (k+5)) [some (.loc 0),some (.tp b xs),some (.int a),some (.int w),some v,some (.int hr),none,none] s3 tpS1=exs (callT T (k+5)) [some (.loc 0),some (.tp b xs),some (.int a),some (.int w),some v,some (.int hr),none,none] s3 tpS2:=by
   rw [pS1]
   simp! [f_qspoilt_tuple,hb1]
  rw [r1]
  by_cases k2:a=2
  ·obtain ⟨x,xm,xi⟩:=zg8 (k:=b) (xs:=xs) h0 h1
   obtain ⟨u1,u2,u3,j,ys,q1,q2,q3,q4,l,m⟩:=cat3 (b:=b) (xs:=xs) (v:=x) (o1:=none) (o2:=some hr) (p1:=some hr) (p2:=none) hl
   refine ⟨j,ys,s3,fun y hy=>(m y hy).elim (hx y) (fun e=>e ▸ hx x xm),l,g3,?_⟩
   have hb2:(a == 2)=true:=by simp [k2]
   rw [pS2]
   simp! [f_qspoilt_tuple,hb2,zcm,zeO,zgD,zhh,xi,q1,q2,q3,q4]
  have hb2:(a == 2)=false:=by simp;omega
  have r2:exs (callT T (k+5)) [some (.loc 0),some (.tp b xs),some (.int a),some (.int w),some v,some (.int hr),none,none] s3 tpS2=exs (callT T (k+5)) [some (.loc 0),some (.tp b xs),some (.int a),some (.int w),some v,some (.int hr),none,none] s3 tpS3:=by
   rw [pS2]
   simp! [f_qspoilt_tuple,hb2]
  rw [r2]
  by_cases k3:a=3
  ·obtain ⟨o,s4,p0,p1,o4,e4⟩:=takeF (k+2) hns (m:=(xs.length:Int)) (by omega) (by omega) g3
   have e4:callT T (k+5) zaf [.loc 0,.int (xs.length:Int)] s3=_:=e4
   have g4:=o4.frm g3
   have hL:s4.length≠0:=by have:=g4.pos;omega
   have t0:(s4++[Ob.lst xs])[s4.length]?=some (.lst xs):=by simp
   obtain ⟨x,xm,xi⟩:=zmg t0 p0 p1
   obtain ⟨y,ym,yi⟩:=zmg t0 h0 h1
   have z1:=zmi (v:=x) t0 h0 h1
   obtain ⟨s5,hs5⟩:∃s5,s5=(s4++[Ob.lst xs]).set s4.length (.lst (xs.set hr.toNat x)):=⟨_,rfl⟩
   have t5:s5[s4.length]?=some (.lst (xs.set hr.toNat x)):=by rw [hs5];exact rdS t0
   have z2:=zmi (v:=y) t5 p0 (by rw [List.length_set];exact p1)
   obtain ⟨s6,hs6⟩:∃s6,s6=s5.set s4.length (.lst ((xs.set hr.toNat x).set o.toNat y)):=⟨_,rfl⟩
   have t6:s6[s4.length]?=some (.lst ((xs.set hr.toNat x).set o.toNat y)):=by rw [hs6];exact rdS t5
   rw [<- hs5] at z1
   rw [<- hs6] at z2
   have g6:Frm ns B s6:=by rw [hs6,hs5];exact ((g4.app _).put hL g4.len _).put hL g4.len _
   have htu:bltV .tuple s6 [.loc s4.length]=some (.tp false ((xs.set hr.toNat x).set o.toNat y)):=by simp [bltV,tupV,lstOf,t6]
   have hli:∀s,bltV .list s [.tp b xs]=some (.lst xs):=fun s=>rfl
   have hth:thwV (.lst xs) s4=.ok (.loc s4.length) (s4++[.lst xs]):=rfl
   refine ⟨false,(xs.set hr.toNat x).set o.toNat y,s6,fun u hu=>?_,by rw [List.length_set,List.length_set];omega,g6,?_⟩
   ·rcases zkV hu with hu|rfl
    ·rcases zkV hu with hu|rfl
     ·exact hx u hu
     ·exact hx _ xm
    ·exact hx _ ym
   ·have hb3:(a == 3)=true:=by simp [k3]
    rw [pS3]
    simp! [f_qspoilt_tuple,hb3,zy,e4,ev.eq_30,hli,hth,zmw,xi,yi,z1,zje,z2,zhj,htu]
  have hb3:(a == 3)=false:=by simp;omega
  have r3:exs (callT T (k+5)) [some (.loc 0),some (.tp b xs),some (.int a),some (.int w),some v,some (.int hr),none,none] s3 tpS3=exs (callT T (k+5)) [some (.loc 0),some (.tp b xs),some (.int a),some (.int w),some v,some (.int hr),none,none] s3 tpS4:=by
   rw [pS3]
   simp! [f_qspoilt_tuple,hb3]
  rw [r3]
  obtain ⟨u1,u2,u3,j,ys,q1,q2,q3,q4,l,m⟩:=cat3 (b:=b) (xs:=xs) (v:=v) (o1:=none) (o2:=some hr) (p1:=some (hr+1)) (p2:=none) hl
  refine ⟨j,ys,s3,fun y hy=>(m y hy).elim (hx y) (fun e=>e ▸ tv),l,g3,?_⟩
  rw [pS4]
  simp! [f_qspoilt_tuple,zcm,zeO,zgD,zhh,q1,q2,q3,q4]
 obtain ⟨j,ys,s4,m,l,g4,e4⟩:=key
 refine ⟨j,ys,s4,m,l,g4,?_⟩
 rw [zaC hT rfl rfl]
 dsimp only
 rw [hb]
 simp! [f_qspoilt_tuple,zy,e1,e2,e3,hmin]
 rw [e4]
 rfl
noncomputable def swT:Css:=match f_qspoilt_within.body with
 | .cons _ (.cons _ r)=>r
 |_=>.nil
theorem zht {ns:List Int}(hns:ns.length<=1000)(k:Nat){B:Store}{M:Nat}(hM:10<=M)(hM2:M<=300):∀(j:Nat) (D:Nat) (b:Bool) (xs:List PV) (st:Store),j<=9->tam D M (.tp b xs)=true->Frm ns B st ->
  ∃v st',tam (D+4) (2*M+1) v=true/\Frm ns B st'/\callT T (k+7+j) zcl [.loc 0,.tp b xs,.int (9 - (j:Int))] st=.ok v st':=by
 have hT:T zcl=some ⟨3,4,false,f_qspoilt_within.body⟩:=rfl
 have hb:f_qspoilt_within.body=(match f_qspoilt_within.body with
  | .cons a (.cons b _)=>.cons a (.cons b swT)
  |x=>x):=rfl
 intro j
 induction j with
 |zero =>
  intro D b xs st hj ht h
  obtain ⟨t0,t1,t2⟩:=zap.1 ht
  have hmx:∀s,bltV .max s [.int 1,.int (xs.length:Int)]=some (.int (if 1<(xs.length:Int) then (xs.length:Int) else 1)):=fun s=>rfl
  obtain ⟨w,s1,w0,w1,o1,e1⟩:=takeF (k+3) hns (m:=if 1<(xs.length:Int) then (xs.length:Int) else 1) (by split <;> omega) (by split <;> omega) h
  have e1:callT T (k+6) zaf [.loc 0,.int (if 1<(xs.length:Int) then (xs.length:Int) else 1)] st=_:=e1
  have g1:=o1.frm h
  obtain ⟨i,ys,s2,m2,l2,g2,e2⟩:=zfQ hns k (b:=b) (xs:=xs) (D:=D+3) (M:=M) (fun x hx=>zbL (by omega) (by omega) _ (t2 x hx)) (by omega) hM (by omega) g1
  refine ⟨.tp i ys,s2,zap.2 ⟨by omega,by omega,fun x hx=>zbL (by omega) (by omega) _ (m2 x hx)⟩,g2,?_⟩
  have hd:decide ((9:Int) - ((0:Nat):Int)<9)=false:=by decide
  show callT T (k+6+1) _ _ _=_
  rw [zaC hT rfl rfl]
  dsimp only
  rw [hb]
  simp! [f_qspoilt_within,zy,hmx,e1,hd]
  simp! [swT,f_qspoilt_within,e2,zbR]
 |succ j ih =>
  intro D b xs st hj ht h
  obtain ⟨t0,t1,t2⟩:=zap.1 ht
  have hmx:∀s,bltV .max s [.int 1,.int (xs.length:Int)]=some (.int (if 1<(xs.length:Int) then (xs.length:Int) else 1)):=fun s=>rfl
  obtain ⟨w,s1,w0,w1,o1,e1⟩:=takeF (k+4+j) hns (m:=if 1<(xs.length:Int) then (xs.length:Int) else 1) (by split <;> omega) (by split <;> omega) h
  have e1:callT T (k+7+j) zaf [.loc 0,.int (if 1<(xs.length:Int) then (xs.length:Int) else 1)] st=_:=(show k+7+j=k+4+j+3 by omega) ▸ e1
  have g1:=o1.frm h
  obtain ⟨u,s2,u0,u1,o2,e2⟩:=takeF (k+4+j) hns (m:=3) (by omega) (by omega) g1
  have e2:callT T (k+7+j) zaf [.loc 0,.int 3] s1=_:=(show k+7+j=k+4+j+3 by omega) ▸ e2
  have g2:=o2.frm g1
  have hd:decide ((9:Int) - ((j+1:Nat):Int)<9)=true:=decide_eq_true (by omega)
  have base:∀{s:Store},Frm ns B s->∃v st',tam (D+4) (2*M+1) v=true/\Frm ns B st'/\exs (callT T (k+7+j)) [some (.loc 0),some (.tp b xs),some (.int (9 - ((j+1:Nat):Int))),some (.int w)] s swT=.rt v st':=fun {s} g=>by
   obtain ⟨i,ys,s3,m3,l3,g3,e3⟩:=zfQ hns (k+1+j) (b:=b) (xs:=xs) (D:=D+3) (M:=M) (fun x hx=>zbL (by omega) (by omega) _ (t2 x hx)) (by omega) hM (by omega) g
   have e3:callT T (k+7+j) zcC [.loc 0,.tp b xs] s=_:=(show k+7+j=k+1+j+6 by omega) ▸ e3
   refine ⟨.tp i ys,s3,zap.2 ⟨by omega,by omega,fun x hx=>zbL (by omega) (by omega) _ (m3 x hx)⟩,g3,?_⟩
   simp! [swT,f_qspoilt_within,e3]
  obtain ⟨v,s3,tv,g3,e3⟩:=base g2
  cases h1:decide (0<u) with
  |false =>
   refine ⟨v,s3,tv,g3,?_⟩
   show callT T (k+7+j+1) _ _ _=_
   rw [zaC hT rfl rfl]
   dsimp only
   rw [hb]
   simp! [f_qspoilt_within,zy,hmx,e1,hd,e2,h1,e3,zbR]
  |true =>
  cases h2:decide (w<(xs.length:Int)) with
  |false =>
   refine ⟨v,s3,tv,g3,?_⟩
   show callT T (k+7+j+1) _ _ _=_
   rw [zaC hT rfl rfl]
   dsimp only
   rw [hb]
   simp! [f_qspoilt_within,zy,hmx,e1,hd,e2,h1,h2,e3,zbR]
  |true =>
  obtain ⟨x,xm,xi⟩:=zg8 (k:=b) (xs:=xs) w0 (of_decide_eq_true h2)
  have tx:=t2 x xm
  by_cases hx:∃c zs,x=.tp c zs
  ·obtain ⟨c,zs,rfl⟩:=hx
   have hi:isiV (.tp c zs) [.tuple]=some (.bl true):=rfl
   obtain ⟨y,s4,ty,g4,e4⟩:=ih (D - 1) c zs s2 (by omega) tx g2
   have hdeep:(9:Int) - ((j+1:Nat):Int)+1=9 - (j:Int):=by omega
   obtain ⟨a1,a2,a3,i,ys,q1,q2,q3,q4,l,m⟩:=cat3 (b:=b) (xs:=xs) (v:=y) (o1:=none) (o2:=some w) (p1:=some (w+1)) (p2:=none) (by omega)
   refine ⟨.tp i ys,s4,zap.2 ⟨by omega,by omega,fun z hz=>?_⟩,g4,?_⟩
   ·rcases m z hz with hz|rfl
    ·exact zbL (by omega) (by omega) _ (t2 z hz)
    ·exact zbL (by omega) (by omega) _ ty
   ·show callT T (k+7+j+1) _ _ _=_
    rw [zaC hT rfl rfl]
    dsimp only
    rw [hb]
    simp! [f_qspoilt_within,zy,hmx,e1,hd,e2,h1,h2,xi,hi,hdeep,zcm,zeO,zgD,zhh,e4,q1,q2,q3,q4,zbR]
  ·have hi:isiV x [.tuple]=some (.bl false):=by
    cases x with
    |tp c zs=>exact absurd ⟨c,zs,rfl⟩ hx
    |loc _=>simp [tam] at tx
    |exn _=>simp [tam] at tx
    |scr _=>simp [tam] at tx
    |_=>rfl
   refine ⟨v,s3,tv,g3,?_⟩
   show callT T (k+7+j+1) _ _ _=_
   rw [zaC hT rfl rfl]
   dsimp only
   rw [hb]
   simp! [f_qspoilt_within,zy,hmx,e1,hd,e2,h1,h2,xi,hi,e3,zbR]
theorem sizes (k:Nat){ns:List Int}(hns:ns.length<=1000){st:Store}(h:Drw ns 0 st):∃w z st',0<=w/\w<=1000/\Onl ns 0 st st'/\callT T (k+4) zhH [.loc 0,.int 4] st=.ok (.tup [.int w,.int z]) st':=by
 have hT:T zhH=some zga:=rfl
 obtain ⟨d,s1,d1,d2,o1,e1⟩:=takeD k hns (m:=13) (by omega) (by omega) h
 obtain ⟨e,s2,d3,d4,o2,e2⟩:=takeD k hns (m:=4) (by omega) (by omega) (o1.drw h)
 refine ⟨4+d,1+e,s2,by omega,by omega,o1.trans o2,?_⟩
 rw [zaC hT rfl rfl]
 simp! [zga,e1,e2,zbR,Nat.zero_le]
noncomputable def lawB:Css:=match f_law.body with
 | .cons _ (.cons _ (.cons _ (.cons _ (.cons (.for _ _ b) _))))=>b
 |_=>.nil
noncomputable def lawT:Css:=match f_law.body with
 | .cons _ (.cons _ (.cons _ (.cons _ (.cons _ r))))=>r
 |_=>.nil
noncomputable def lawT2:Css:=match lawT with
 | .cons _ (.cons _ (.cons _ r))=>r
 |_=>.nil
theorem turns {ns:List Int}(hns:ns.length<=1000){p0 p2 p3:Option PV}{xs:List PV}(tx:tam 10 10 (.tp false xs)=true){r:List (Option PV)}:∀(N:Nat) (a:Int) (p5 p6 p7:Option PV) (st:Store),Drw ns 0 st ->
  ∃st' v5 v6 v7,Drw ns 0 st'/\forB (callT T 16) (.n 5) lawB (rangeL N a 1) (p0::some (.loc 0)::p2::p3::some (.tp false xs)::p5::p6::p7::r) st=.nx (p0::some (.loc 0)::p2::p3::some (.tp false xs)::v5::v6::v7::r) st'
 |0,a,p5,p6,p7,st,h=>⟨st,p5,p6,p7,h,by rw [rangeL,zce]⟩
 |N+1,a,p5,p6,p7,st,h=>by
  obtain ⟨v,s1,tv,g1,e1⟩:=zht hns 0 (M:=10) (by omega) (by omega) 9 10 false xs st (by omega) tx (Frm.refl h)
  have e1:callT T 16 zcl [.loc 0,.tp false xs,.int 0] st=.ok v s1:=e1
  have tv:tam 60 1000 v=true:=zbL (by omega) (by omega) _ tv
  have hA:callT T 16 za5 [v] s1=.ok (.bl (parsS part2 v)) s1:=zbu 3 tv (by omega) (by omega) s1
  have hB:callT T 16 zds [v] s1=.ok (.bl (parsS part2 v)) s1:=zgM 8 tv (by omega) (by omega) s1
  have hne:cmpV .ne (.bl (parsS part2 v)) (.bl (parsS part2 v))=some (.bl false):=by simp [cmpV,shd,peq]
  obtain ⟨s2,w5,w6,w7,g2,e2⟩:=turns hns (p0:=p0) (p2:=p2) (p3:=p3) tx (r:=r) N (a+1) (some (.int a)) (some v) (some (.bl (parsS part2 v))) s1 g1.dr
  refine ⟨s2,w5,w6,w7,g2,?_⟩
  have hb:exs (callT T 16) (p0::some (.loc 0)::p2::p3::some (.tp false xs)::some (.int a)::p6::p7::r) st lawB=.nx (p0::some (.loc 0)::p2::p3::some (.tp false xs)::some (.int a)::some v::some (.bl (parsS part2 v))::r) s1:=by
   simp! [lawB,f_law,e1,hA,isiV,isTy,isBl,hB,hne]
  rw [rangeL,zbD (ρ1:=p0::some (.loc 0)::p2::p3::some (.tp false xs)::some (.int a)::p6::p7::r) rfl,hb]
  exact e2
noncomputable def rIn:PV:=.tp false [.str sRnd,.tp false [.int 1,.int 0,.int 0],.tp false [],.tp false [.tp false [.str sRow,.tp false [.str sMark,.int 0]]]]
noncomputable def rDe:PV:=.tp false [.str sRnd,.tp false [.int 1,.int 0,.int 0],.tp false [],.tp false [rIn]]
noncomputable def rD3:PV:=.tp false [.str sRnd,.tp false [.int 1,.int 0,.int 0],.tp false [],.tp false [rDe]]
theorem r_ok:parsS part2 (.tp false [rDe])=true/\parsS part2 (.tp false [rD3])=false/\tam 60 1000 (.tp false [rDe])=true/\tam 60 1000 (.tp false [rD3])=true:=by
 refine ⟨by decide +kernel,by decide +kernel,by decide +kernel,by decide +kernel⟩
theorem zm4 {ns:List Int}(hns:ns.length<=1000){p0 p2 p3 p5 p6 p7 p8 p9 p10:Option PV}{xs:List PV}(tx:tam 10 10 (.tp false xs)=true){st:Store}(h:Drw ns 0 st) :
  ∃st',exs (callT T 16) [p0,some (.loc 0),p2,p3,some (.tp false xs),p5,p6,p7,p8,p9,p10] st lawT=.rt (.bl true) st':=by
 obtain ⟨k1,k2,k3,k4⟩:=r_ok
 have hA:callT T 16 za5 [.tp false [rDe]] st=.ok (.bl true) st:=k1 ▸ zbu 3 k3 (by omega) (by omega) st
 have hB:callT T 16 za5 [.tp false [rD3]] st=.ok (.bl false) st:=k2 ▸ zbu 3 k4 (by omega) (by omega) st
 obtain ⟨v,s1,tv,pv,g1,e1⟩:=strange hns 11 (Frm.refl h)
 have e1:callT T 16 zfw [.loc 0] st=.ok v s1:=e1
 have tv:tam 60 1000 v=true:=zbL (by omega) (by omega) _ tv
 have hC:callT T 16 za5 [v] s1=.ok (.bl (parsS part2 v)) s1:=zbu 3 tv (by omega) (by omega) s1
 have tl:tam 60 1000 (.lst xs)=true:=by
  obtain ⟨a,b,c⟩:=zap.1 tx
  exact znq.2 ⟨by omega,by omega,fun x hx=>zbL (by omega) (by omega) _ (c x hx)⟩
 have hD:callT T 16 za5 [.lst xs] s1=.ok (.bl false) s1:=zbu 3 tl (by omega) (by omega) s1
 have q1:cmpV .isnot (.bl true) (.bl true)=some (.bl false):=rfl
 have q2:cmpV .isnot (.bl false) (.bl false)=some (.bl false):=rfl
 have q3:cmpV .is (.bl false) (.bl false)=some (.bl true):=rfl
 have q4:cmpV .eq v (.tp false [])=some (.bl (peq v (.tp false []))):=by
  simp only [cmpV]
  rw [if_pos (by rw [zdv tv (by omega)];rfl)]
 have q5:cmpV .eq (.bl (parsS part2 v)) (.bl (peq v (.tp false [])))=some (.bl true):=by
  rw [pv]
  simp [cmpV,shd,peq]
 have hli:∀s,bltV .list s [.tp false xs]=some (.lst xs):=fun s=>rfl
 refine ⟨s1,?_⟩
 have hb:lawT=(match f_law.body with
  | .cons _ (.cons _ (.cons _ (.cons _ (.cons _ (.cons a (.cons b (.cons c _)))))))=>.cons a (.cons b (.cons c lawT2))
  |x=>x):=rfl
 simp only [rDe,rD3,rIn] at hA hB
 rw [hb]
 simp! [f_law,Nat.zero_le,hA,q1,hB,q2]
 simp! [lawT2,lawT,f_law,Nat.zero_le,e1,hC,hli,hD,q3,isiV,isTy,isBl,q4,q5]
theorem zlQ (ns:List Int)(hn:ns.length<=63):callT T 17 zkx [.scr (ns.map .int)] []=.ok (.bl true) []:=by
 obtain ⟨o,e1,ho⟩:=fresh 15 ns hn []
 have h0:Drw ns 0 [o]:=⟨0,0,false,by omega,by rw [ho];rfl⟩
 have hns:ns.length<=1000:=by omega
 have hT:T zkx=some ⟨1,11,true,f_law.body⟩:=rfl
 have e1:callT T 16 zhl [.scr (ns.map .int)] []=.ok (.loc 0) [o]:=e1
 obtain ⟨w,z,s1,w0,w1,o1,e2⟩:=sizes 12 hns h0
 have e2:callT T 16 zhH [.loc 0,.int 4] [o]=.ok (.tp false [.int w,.int z]) s1:=e2
 have d1:=o1.drw h0
 obtain ⟨xs,s2,l2,t2,g2,e3⟩:=zhR (n:=z) hns 10 w0 w1 (Frm.refl d1)
 have e3:callT T 16 zcE [.loc 0,.int w,.int z] s1=.ok (.tp false xs) s2:=e3
 have tx:tam 10 10 (.tp false xs)=true:=zap.2 ⟨by omega,by omega,fun x hx=>(t2 x hx).2⟩
 have hp:parsS part2 (.tp false xs)=true:=List.all_eq_true.2 fun x hx=>(t2 x hx).1
 have hA:callT T 16 za5 [.tp false xs] s2=.ok (.bl true) s2:=hp ▸ zbu 3 tx (by omega) (by omega) s2
 have q1:cmpV .isnot (.bl true) (.bl true)=some (.bl false):=rfl
 obtain ⟨s3,v5,v6,v7,g3,e4⟩:=turns hns (p0:=some (.scr (ns.map .int))) (p2:=some (.int w)) (p3:=some (.int z)) tx (r:=[none,none,none]) 4 0 none none none s2 g2.dr
 obtain ⟨s4,e5⟩:=zm4 hns (p0:=some (.scr (ns.map .int))) (p2:=some (.int w)) (p3:=some (.int z)) (p5:=v5) (p6:=v6) (p7:=v7) (p8:=none) (p9:=none) (p10:=none) tx g3
 have hb:f_law.body=(match f_law.body with
  | .cons a (.cons b (.cons c (.cons d (.cons (.for t i _) _))))=>.cons a (.cons b (.cons c (.cons d (.cons (.for t i lawB) lawT))))
  |_=>.nil):=rfl
 have hr:rng1 (.int 4)=some (rangeL 4 0 1):=rfl
 have hbt:∀(ρ:IC.Env),bindT (.t [2,3]) (.tp false [.int w,.int z]) ρ=some ((ρ.set 2 (some (.int w))).set 3 (some (.int z))):=fun ρ=>rfl
 rw [zY hT rfl rfl (zjr ns)]
 dsimp only
 rw [hb]
 simp! [f_law,Nat.zero_le,e1,e2,hbt,e3,hA,q1,hr,e4,e5,zr]
end WK
namespace WK
open PySem L2 IC
section
variable {P:Program}{w:World}{K:PySem.W.Frag}{mg:Str->Option Value}{base:Heap}{cl:Nat->Addr}{fa:Nat->Addr}{fdd:Nat->FuncData}
theorem zR (Z:Facts w K mg cl fa fdd):∀k,Fns P w K mg base cl fa fdd k
 |0=>fun i ps _=>znB rfl
 |k+1=>fun i ps h=>match i,h with
  |0,h=>by cases h;exact ziT Z (zR Z k)
  |1,h=>by cases h;exact zis Z (zR Z k)
  |2,h=>by cases h;exact ziH Z (zR Z k)
  |3,h=>by cases h;exact zgR Z (zR Z k)
  |4,h=>by cases h;exact ziu Z (zR Z k)
  |5,h=>by cases h;exact ziw Z (zR Z k)
  |6,h=>by cases h;exact zhv Z (zR Z k)
  |7,h=>by cases h;exact zgf Z (zR Z k)
  |8,h=>by cases h;exact zgX Z (zR Z k)
  |9,h=>by cases h;exact zgQ Z (zR Z k)
  |10,h=>by cases h;exact zjG Z (zR Z k)
  |11,h=>by cases h;exact zhs Z (zR Z k)
  |12,h=>by cases h;exact ziV Z (zR Z k)
  |13,h=>by cases h;exact zhJ Z (zR Z k)
  |14,h=>by cases h;exact zhT Z (zR Z k)
  |15,h=>by cases h;exact zjD Z (zR Z k)
  |16,h=>by cases h;exact zkU Z (zR Z k)
  |17,h=>by cases h;exact zkA Z (zR Z k)
  |18,h=>by cases h;exact zll Z (zR Z k)
  |19,h=>by cases h;exact zlU Z (zR Z k)
  |20,h=>by cases h;exact zkI Z (zR Z k)
  |21,h=>by cases h;exact zkh Z (zR Z k)
  |22,h=>by cases h;exact zjx Z (zR Z k)
  |23,h=>by cases h;exact zjC Z (zR Z k)
  |24,h=>by cases h;exact zgT Z (zR Z k)
  |25,h=>by cases h;exact zgK Z (zR Z k)
  |26,h=>by cases h;exact zkJ Z (zR Z k)
  |27,h=>by cases h;exact zgu Z (zR Z k)
  |28,h=>by cases h;exact zlH Z (zR Z k)
  |29,h=>by cases h;exact zg0 Z (zR Z k)
  |30,h=>by cases h;exact zgA Z (zR Z k)
  |31,h=>by cases h;exact zik Z (zR Z k)
  |32,h=>by cases h;exact ziJ Z (zR Z k)
  |33,h=>by cases h;exact zf4 Z (zR Z k)
  |34,h=>by cases h;exact zgL Z (zR Z k)
  |35,h=>by cases h;exact zet Z (zR Z k)
  |36,h=>by cases h;exact zfC Z (zR Z k)
  |37,h=>by cases h;exact zg1 Z (zR Z k)
  |38,h=>by cases h;exact zfV Z (zR Z k)
  |39,h=>by cases h;exact zfx Z (zR Z k)
  |40,h=>by cases h;exact zoL Z (zR Z k)
  |i+41,h=>by cases h
end
set_option maxHeartbeats 0 in
noncomputable abbrev FN (x:Str)(s:Stmt)(d kV dc pm:Value)(an:Option Addr)(cd ct:Value):=PySem.W.fnOf x x (defArgs s) (defBody s) (defScope s) d kV dc pm an cd ct
noncomputable abbrev lN (K:PySem.W.Frag)(f:Addr)(x:Str)(s:Stmt)(d oc:Value)(od:Option Addr)(kV dc pm:Value)(an:Option Addr)(cd ct:Value)(sl:Array (Option Value)) := K.lookup f=some ⟨oc,od,.func (FN x s d kV dc pm an cd ct),sl⟩
noncomputable abbrev aN (K:PySem.W.Frag)(x:Str)(f:Addr):=PySem.W.nsIn K mainGlobals x=some (some (.ref f))
noncomputable abbrev cN (K:PySem.W.Frag)(c:Value)(x:Str):=PySem.W.codeIn K c x=true
noncomputable abbrev pN (K:PySem.W.Frag)(f:Addr):=PySem.W.keepIn K (.ref f)=true
theorem kl0 {α:Type}(l:List α)(h:l.length=0):l=[] := List.eq_nil_of_length_eq_zero h
theorem kl1 {α:Type}(l:List α)(h:l.length=1):∃a,l=[a] := match l,h with | [a],_ => ⟨a,rfl⟩
theorem kl2 {α:Type}(l:List α)(h:l.length=2):∃a b,l=[a,b] := match l,h with | [a,b],_ => ⟨a,b,rfl⟩
theorem kl3 {α:Type}(l:List α)(h:l.length=3):∃a b c,l=[a,b,c] := match l,h with | [a,b,c],_ => ⟨a,b,c,rfl⟩
theorem kl5 {α:Type}(l:List α)(h:l.length=5):∃a b c d e,l=[a,b,c,d,e] := match l,h with | [a,b,c,d,e],_ => ⟨a,b,c,d,e,rfl⟩
theorem kl6 {α:Type}(l:List α)(h:l.length=6):∃a b c d e f,l=[a,b,c,d,e,f] := match l,h with | [a,b,c,d,e,f],_ => ⟨a,b,c,d,e,f,rfl⟩
theorem kl7 {α:Type}(l:List α)(h:l.length=7):∃a b c d e f g,l=[a,b,c,d,e,f,g] := match l,h with | [a,b,c,d,e,f,g],_ => ⟨a,b,c,d,e,f,g,rfl⟩
theorem kl8 {α:Type}(l:List α)(h:l.length=8):∃a b c d e f g k,l=[a,b,c,d,e,f,g,k] := match l,h with | [a,b,c,d,e,f,g,k],_ => ⟨a,b,c,d,e,f,g,k,rfl⟩
theorem kl4 {α:Type}(l:List α)(h:l.length=4):∃a b c d,l=[a,b,c,d] := match l,h with | [a,b,c,d],_ => ⟨a,b,c,d,rfl⟩
theorem all_mk {l:PySem.W.OpenLaw}{w:World}{K:PySem.W.Frag}{h:Heap}{mg:Str->Option Value}{fx:Addr}(X:K.In h)(G:h.Ns mainGlobals mg)(hfa:mg "law"=some (.ref fx))(a0:aN K "is_whole" f0)(l0:lN K f0 "is_whole" zbw .none oc0 od0 kV0 dc0 pm0 an0 cd0 ct0 sl0)(c0:cN K cd0 "is_whole")(p0:pN K f0)(a1:aN K "is_letter" f1)(l1:lN K f1 "is_letter" zba .none oc1 od1 kV1 dc1 pm1 an1 cd1 ct1 sl1)(c1:cN K cd1 "is_letter")(p1:pN K f1)(a2:aN K "are_told" f2)(l2:lN K f2 "are_told" zaZ .none oc2 od2 kV2 dc2 pm2 an2 cd2 ct2 sl2)(c2:cN K cd2 "are_told")(p2:pN K f2)(a3:aN K "is_told_row" f3)(l3:lN K f3 "is_told_row" zbf .none oc3 od3 kV3 dc3 pm3 an3 cd3 ct3 sl3)(c3:cN K cd3 "is_told_row")(p3:pN K f3)(a4:aN K "has_form" f4)(l4:lN K f4 "has_form" zaX .none oc4 od4 kV4 dc4 pm4 an4 cd4 ct4 sl4)(c4:cN K cd4 "has_form")(p4:pN K f4)(a5:aN K "is_named" f5)(l5:lN K f5 "is_named" zaW .none oc5 od5 kV5 dc5 pm5 an5 cd5 ct5 sl5)(c5:cN K cd5 "is_named")(p5:pN K f5)(a6:aN K "is_operand" f6)(l6:lN K f6 "is_operand" za7 .none oc6 od6 kV6 dc6 pm6 an6 cd6 ct6 sl6)(c6:cN K cd6 "is_operand")(p6:pN K f6)(a7:aN K "is_told_cell" f7)(l7:lN K f7 "is_told_cell" zaE .none oc7 od7 kV7 dc7 pm7 an7 cd7 ct7 sl7)(c7:cN K cd7 "is_told_cell")(p7:pN K f7)(a8:aN K "is_lettered" f8)(l8:lN K f8 "is_lettered" zay .none oc8 od8 kV8 dc8 pm8 an8 cd8 ct8 sl8)(c8:cN K cd8 "is_lettered")(p8:pN K f8)(a9:aN K "is_sentence" f9)(l9:lN K f9 "is_sentence" zah .none oc9 od9 kV9 dc9 pm9 an9 cd9 ct9 sl9)(c9:cN K cd9 "is_sentence")(p9:pN K f9)(a10:aN K "is_term" f10)(l10:lN K f10 "is_term" za3 .none oc10 od10 kV10 dc10 pm10 an10 cd10 ct10 sl10)(c10:cN K cd10 "is_term")(p10:pN K f10)(a11:aN K "are_things" f11)(l11:lN K f11 "are_things" zaq .none oc11 od11 kV11 dc11 pm11 an11 cd11 ct11 sl11)(c11:cN K cd11 "are_things")(p11:pN K f11)(a12:aN K "is_thing" f12)(l12:lN K f12 "is_thing" zaV .none oc12 od12 kV12 dc12 pm12 an12 cd12 ct12 sl12)(c12:cN K cd12 "is_thing")(p12:pN K f12)(a13:aN K "is_telling" f13)(l13:lN K f13 "is_telling" za6 .none oc13 od13 kV13 dc13 pm13 an13 cd13 ct13 sl13)(c13:cN K cd13 "is_telling")(p13:pN K f13)(a14:aN K "are_parts" f14)(l14:lN K f14 "are_parts" zaO .none oc14 od14 kV14 dc14 pm14 an14 cd14 ct14 sl14)(c14:cN K cd14 "are_parts")(p14:pN K f14)(a15:aN K "is_part" f15)(l15:lN K f15 "is_part" za2 .none oc15 od15 kV15 dc15 pm15 an15 cd15 ct15 sl15)(c15:cN K cd15 "is_part")(p15:pN K f15)(a16:aN K "_law_fresh" f16)(l16:lN K f16 "_law_fresh" zem .none oc16 od16 kV16 dc16 pm16 an16 cd16 ct16 sl16)(c16:cN K cd16 "_law_fresh")(p16:pN K f16)(a17:aN K "_law_mixed" f17)(l17:lN K f17 "_law_mixed" zdk .none oc17 od17 kV17 dc17 pm17 an17 cd17 ct17 sl17)(c17:cN K cd17 "_law_mixed")(p17:pN K f17)(a18:aN K "_law_fill" f18)(l18:lN K f18 "_law_fill" zdQ .none oc18 od18 kV18 dc18 pm18 an18 cd18 ct18 sl18)(c18:cN K cd18 "_law_fill")(p18:pN K f18)(a19:aN K "_law_take" f19)(l19:lN K f19 "_law_take" zeQ .none oc19 od19 kV19 dc19 pm19 an19 cd19 ct19 sl19)(c19:cN K cd19 "_law_take")(p19:pN K f19)(a20:aN K "_law_sizes" f20)(l20:lN K f20 "_law_sizes" zdq .none oc20 od20 kV20 dc20 pm20 an20 cd20 ct20 sl20)(c20:cN K cd20 "_law_sizes")(p20:pN K f20)(a21:aN K "_law_whole" f21)(l21:lN K f21 "_law_whole" zcs .none oc21 od21 kV21 dc21 pm21 an21 cd21 ct21 sl21)(c21:cN K cd21 "_law_whole")(p21:pN K f21)(a22:aN K "_law_wholes" f22)(l22:lN K f22 "_law_wholes" zbr .none oc22 od22 kV22 dc22 pm22 an22 cd22 ct22 sl22)(c22:cN K cd22 "_law_wholes")(p22:pN K f22)(a23:aN K "_law_letter" f23)(l23:lN K f23 "_law_letter" zbT .none oc23 od23 kV23 dc23 pm23 an23 cd23 ct23 sl23)(c23:cN K cd23 "_law_letter")(p23:pN K f23)(a24:aN K "_law_index_cell" f24)(l24:lN K f24 "_law_index_cell" zao .none oc24 od24 kV24 dc24 pm24 an24 cd24 ct24 sl24)(c24:cN K cd24 "_law_index_cell")(p24:pN K f24)(a25:aN K "_law_telling_row" f25)(l25:lN K f25 "_law_telling_row" zW .none oc25 od25 kV25 dc25 pm25 an25 cd25 ct25 sl25)(c25:cN K cd25 "_law_telling_row")(p25:pN K f25)(a26:aN K "_law_thing" f26)(l26:lN K f26 "_law_thing" zbV .none oc26 od26 kV26 dc26 pm26 an26 cd26 ct26 sl26)(c26:cN K cd26 "_law_thing")(p26:pN K f26)(a27:aN K "_law_is_sentence" f27)(l27:lN K f27 "_law_is_sentence" zX .none oc27 od27 kV27 dc27 pm27 an27 cd27 ct27 sl27)(c27:cN K cd27 "_law_is_sentence")(p27:pN K f27)(a28:aN K "_law_part" f28)(l28:lN K f28 "_law_part" zbN .none oc28 od28 kV28 dc28 pm28 an28 cd28 ct28 sl28)(c28:cN K cd28 "_law_part")(p28:pN K f28)(a29:aN K "_law_is_telling" f29)(l29:lN K f29 "_law_is_telling" zaw .none oc29 od29 kV29 dc29 pm29 an29 cd29 ct29 sl29)(c29:cN K cd29 "_law_is_telling")(p29:pN K f29)(a30:aN K "_law_some_letter" f30)(l30:lN K f30 "_law_some_letter" zaP .none oc30 od30 kV30 dc30 pm30 an30 cd30 ct30 sl30)(c30:cN K cd30 "_law_some_letter")(p30:pN K f30)(a31:aN K "_law_some_row" f31)(l31:lN K f31 "_law_some_row" za9 .none oc31 od31 kV31 dc31 pm31 an31 cd31 ct31 sl31)(c31:cN K cd31 "_law_some_row")(p31:pN K f31)(a32:aN K "_law_strange" f32)(l32:lN K f32 "_law_strange" zbx .none oc32 od32 kV32 dc32 pm32 an32 cd32 ct32 sl32)(c32:cN K cd32 "_law_strange")(p32:pN K f32)(a33:aN K "_law_spoilt_tuple" f33)(l33:lN K f33 "_law_spoilt_tuple" z3 .none oc33 od33 kV33 dc33 pm33 an33 cd33 ct33 sl33)(c33:cN K cd33 "_law_spoilt_tuple")(p33:pN K f33)(a34:aN K "_law_some_index" f34)(l34:lN K f34 "_law_some_index" zax .none oc34 od34 kV34 dc34 pm34 an34 cd34 ct34 sl34)(c34:cN K cd34 "_law_some_index")(p34:pN K f34)(a35:aN K "_law_some_telling_row" f35)(l35:lN K f35 "_law_some_telling_row" zM .none oc35 od35 kV35 dc35 pm35 an35 cd35 ct35 sl35)(c35:cN K cd35 "_law_some_telling_row")(p35:pN K f35)(a36:aN K "_law_some_sentence" f36)(l36:lN K f36 "_law_some_sentence" zQ .none oc36 od36 kV36 dc36 pm36 an36 cd36 ct36 sl36)(c36:cN K cd36 "_law_some_sentence")(p36:pN K f36)(a37:aN K "_law_some_count" f37)(l37:lN K f37 "_law_some_count" zaN .none oc37 od37 kV37 dc37 pm37 an37 cd37 ct37 sl37)(c37:cN K cd37 "_law_some_count")(p37:pN K f37)(a38:aN K "_law_some_telling" f38)(l38:lN K f38 "_law_some_telling" zT .none oc38 od38 kV38 dc38 pm38 an38 cd38 ct38 sl38)(c38:cN K cd38 "_law_some_telling")(p38:pN K f38)(a39:aN K "_law_spoilt_within" f39)(l39:lN K f39 "_law_spoilt_within" zP .none oc39 od39 kV39 dc39 pm39 an39 cd39 ct39 sl39)(c39:cN K cd39 "_law_spoilt_within")(p39:pN K f39)(a40:aN K "law" f40)(l40:lN K f40 "law" zdN .none oc40 od40 kV40 dc40 pm40 an40 cd40 ct40 sl40)(c40:cN K cd40 "law")(p40:pN K f40)(z_abs:PySem.W.nsIn K mainGlobals "abs"=some none)(z_all:PySem.W.nsIn K mainGlobals "all"=some none)(z_bool:PySem.W.nsIn K mainGlobals "bool"=some none)(z_enumerate:PySem.W.nsIn K mainGlobals "enumerate"=some none)(z_int:PySem.W.nsIn K mainGlobals "int"=some none)(z_isinstance:PySem.W.nsIn K mainGlobals "isinstance"=some none)(z_len:PySem.W.nsIn K mainGlobals "len"=some none)(z_list:PySem.W.nsIn K mainGlobals "list"=some none)(z_max:PySem.W.nsIn K mainGlobals "max"=some none)(z_min:PySem.W.nsIn K mainGlobals "min"=some none)(z_range:PySem.W.nsIn K mainGlobals "range"=some none)(z_str:PySem.W.nsIn K mainGlobals "str"=some none)(z_tuple:PySem.W.nsIn K mainGlobals "tuple"=some none)(z_zip:PySem.W.nsIn K mainGlobals "zip"=some none)(k_bool_n:PySem.W.kitOne K (.type "NoneType") (.type "bool")=some false)(k_bool_b:PySem.W.kitOne K (.type "bool") (.type "bool")=some true)(k_bool_i:PySem.W.kitOne K (.type "int") (.type "bool")=some false)(k_bool_s:PySem.W.kitOne K (.type "str") (.type "bool")=some false)(k_bool_p:PySem.W.kitOne K (.type "tuple") (.type "bool")=some false)(k_bool_l:PySem.W.kitOne K (.type "list") (.type "bool")=some false)(k_int_n:PySem.W.kitOne K (.type "NoneType") (.type "int")=some false)(k_int_b:PySem.W.kitOne K (.type "bool") (.type "int")=some true)(k_int_i:PySem.W.kitOne K (.type "int") (.type "int")=some true)(k_int_s:PySem.W.kitOne K (.type "str") (.type "int")=some false)(k_int_p:PySem.W.kitOne K (.type "tuple") (.type "int")=some false)(k_int_l:PySem.W.kitOne K (.type "list") (.type "int")=some false)(k_str_n:PySem.W.kitOne K (.type "NoneType") (.type "str")=some false)(k_str_b:PySem.W.kitOne K (.type "bool") (.type "str")=some false)(k_str_i:PySem.W.kitOne K (.type "int") (.type "str")=some false)(k_str_s:PySem.W.kitOne K (.type "str") (.type "str")=some true)(k_str_p:PySem.W.kitOne K (.type "tuple") (.type "str")=some false)(k_str_l:PySem.W.kitOne K (.type "list") (.type "str")=some false)(k_tuple_n:PySem.W.kitOne K (.type "NoneType") (.type "tuple")=some false)(k_tuple_b:PySem.W.kitOne K (.type "bool") (.type "tuple")=some false)(k_tuple_i:PySem.W.kitOne K (.type "int") (.type "tuple")=some false)(k_tuple_s:PySem.W.kitOne K (.type "str") (.type "tuple")=some false)(k_tuple_p:PySem.W.kitOne K (.type "tuple") (.type "tuple")=some true)(k_tuple_l:PySem.W.kitOne K (.type "list") (.type "tuple")=some false)(g_FACTOR_LIMIT_a:PySem.W.nsIn K mainGlobals "FACTOR_LIMIT"=some (some (.int 10000000000000000000000000000000000000000 g_FACTOR_LIMIT_t)))(g_MOST_NESTS_a:PySem.W.nsIn K mainGlobals "MOST_NESTS"=some (some (.int 2 g_MOST_NESTS_t)))(g_MOST_TERMS_a:PySem.W.nsIn K mainGlobals "MOST_TERMS"=some (some (.int 20 g_MOST_TERMS_t)))(g_MOST_THINGS_a:PySem.W.nsIn K mainGlobals "MOST_THINGS"=some (some (.int 2 g_MOST_THINGS_t)))(g_MOST_TOLD_a:PySem.W.nsIn K mainGlobals "MOST_TOLD"=some (some (.int 200 g_MOST_TOLD_t)))(gd_ROWS_a:aN K "ROWS" gd_ROWS_y)(gd_ROWS_l:K.lookup gd_ROWS_y=some ⟨.type "dict",none,.dict #[⟨PyData.keyHash w.params "set",.str "set" gd_ROWS_t0,.ref gd_ROWS_0_y0⟩,⟨PyData.keyHash w.params "move",.str "move" gd_ROWS_t1,.ref gd_ROWS_1_y0⟩,⟨PyData.keyHash w.params "bare",.str "bare" gd_ROWS_t2,.ref gd_ROWS_2_y0⟩,⟨PyData.keyHash w.params "sum",.str "sum" gd_ROWS_t3,.ref gd_ROWS_3_y0⟩,⟨PyData.keyHash w.params "less",.str "less" gd_ROWS_t4,.ref gd_ROWS_4_y0⟩,⟨PyData.keyHash w.params "both",.str "both" gd_ROWS_t5,.ref gd_ROWS_5_y0⟩,⟨PyData.keyHash w.params "any",.str "any" gd_ROWS_t6,.ref gd_ROWS_6_y0⟩,⟨PyData.keyHash w.params "odd",.str "odd" gd_ROWS_t7,.ref gd_ROWS_7_y0⟩,⟨PyData.keyHash w.params "twice",.str "twice" gd_ROWS_t8,.ref gd_ROWS_8_y0⟩,⟨PyData.keyHash w.params "half",.str "half" gd_ROWS_t9,.ref gd_ROWS_9_y0⟩,⟨PyData.keyHash w.params "times",.str "times" gd_ROWS_t10,.ref gd_ROWS_10_y0⟩,⟨PyData.keyHash w.params "mark",.str "mark" gd_ROWS_t11,.ref gd_ROWS_11_y0⟩,⟨PyData.keyHash w.params "ask",.str "ask" gd_ROWS_t12,.ref gd_ROWS_12_y0⟩] gd_ROWS_n,#[]⟩)(gd_ROWS_s:(gd_ROWS_y == sysModules)=false)(gd_ROWS_0_l0:K.lookup gd_ROWS_0_y0=some ⟨.type "tuple",gd_ROWS_0_d0,.seq #[.str "cell" gd_ROWS_0_t0_0,.str "figure" gd_ROWS_0_t0_1] gd_ROWS_0_n0,gd_ROWS_0_s0⟩)(gd_ROWS_1_l0:K.lookup gd_ROWS_1_y0=some ⟨.type "tuple",gd_ROWS_1_d0,.seq #[.str "cell" gd_ROWS_1_t0_0,.str "cell" gd_ROWS_1_t0_1] gd_ROWS_1_n0,gd_ROWS_1_s0⟩)(gd_ROWS_2_l0:K.lookup gd_ROWS_2_y0=some ⟨.type "tuple",gd_ROWS_2_d0,.seq #[.str "cell" gd_ROWS_2_t0_0,.str "cell" gd_ROWS_2_t0_1] gd_ROWS_2_n0,gd_ROWS_2_s0⟩)(gd_ROWS_3_l0:K.lookup gd_ROWS_3_y0=some ⟨.type "tuple",gd_ROWS_3_d0,.seq #[.str "cell" gd_ROWS_3_t0_0,.str "cell" gd_ROWS_3_t0_1,.str "cell" gd_ROWS_3_t0_2] gd_ROWS_3_n0,gd_ROWS_3_s0⟩)(gd_ROWS_4_l0:K.lookup gd_ROWS_4_y0=some ⟨.type "tuple",gd_ROWS_4_d0,.seq #[.str "cell" gd_ROWS_4_t0_0,.str "cell" gd_ROWS_4_t0_1,.str "cell" gd_ROWS_4_t0_2] gd_ROWS_4_n0,gd_ROWS_4_s0⟩)(gd_ROWS_5_l0:K.lookup gd_ROWS_5_y0=some ⟨.type "tuple",gd_ROWS_5_d0,.seq #[.str "cell" gd_ROWS_5_t0_0,.str "cell" gd_ROWS_5_t0_1,.str "cell" gd_ROWS_5_t0_2] gd_ROWS_5_n0,gd_ROWS_5_s0⟩)(gd_ROWS_6_l0:K.lookup gd_ROWS_6_y0=some ⟨.type "tuple",gd_ROWS_6_d0,.seq #[.str "cell" gd_ROWS_6_t0_0,.str "cell" gd_ROWS_6_t0_1,.str "cell" gd_ROWS_6_t0_2] gd_ROWS_6_n0,gd_ROWS_6_s0⟩)(gd_ROWS_7_l0:K.lookup gd_ROWS_7_y0=some ⟨.type "tuple",gd_ROWS_7_d0,.seq #[.str "cell" gd_ROWS_7_t0_0,.str "cell" gd_ROWS_7_t0_1,.str "cell" gd_ROWS_7_t0_2] gd_ROWS_7_n0,gd_ROWS_7_s0⟩)(gd_ROWS_8_l0:K.lookup gd_ROWS_8_y0=some ⟨.type "tuple",gd_ROWS_8_d0,.seq #[.str "cell" gd_ROWS_8_t0_0,.str "cell" gd_ROWS_8_t0_1] gd_ROWS_8_n0,gd_ROWS_8_s0⟩)(gd_ROWS_9_l0:K.lookup gd_ROWS_9_y0=some ⟨.type "tuple",gd_ROWS_9_d0,.seq #[.str "cell" gd_ROWS_9_t0_0,.str "cell" gd_ROWS_9_t0_1] gd_ROWS_9_n0,gd_ROWS_9_s0⟩)(gd_ROWS_10_l0:K.lookup gd_ROWS_10_y0=some ⟨.type "tuple",gd_ROWS_10_d0,.seq #[.str "cell" gd_ROWS_10_t0_0,.str "cell" gd_ROWS_10_t0_1,.str "cell" gd_ROWS_10_t0_2,.str "cell" gd_ROWS_10_t0_3] gd_ROWS_10_n0,gd_ROWS_10_s0⟩)(gd_ROWS_11_l0:K.lookup gd_ROWS_11_y0=some ⟨.type "tuple",gd_ROWS_11_d0,.seq #[.str "figure" gd_ROWS_11_t0_0] gd_ROWS_11_n0,gd_ROWS_11_s0⟩)(gd_ROWS_12_l0:K.lookup gd_ROWS_12_y0=some ⟨.type "tuple",gd_ROWS_12_d0,.seq #[.str "cell" gd_ROWS_12_t0_0] gd_ROWS_12_n0,gd_ROWS_12_s0⟩)
   :∃fd:FuncData,(∀(s:Shared) (v:Value),BindsTo s fd ⟨[v],[]⟩ [("_law_script",v)])/\∀base:Heap,K.In base->base.Ns mainGlobals mg->FnOk l.prog w K mg base (CX1 l.prog w) 17 fx fd ["_law_script"] (spX K (callT T 17) zkx):=by
 have e:=Value.ref.inj (Option.some.inj (hfa.symm.trans (PySem.W.mg_of X G a40)))
 subst e
 have Z:Facts w K mg (fun i=>([0,0,0,0,0,0,0,0,0,0,0,0,0,0,0]:List Addr).getD i 0) (fun i=>([f0,f1,f2,f3,f4,f5,f6,f7,f8,f9,f10,f11,f12,f13,f14,f15,f16,f17,f18,f19,f20,f21,f22,f23,f24,f25,f26,f27,f28,f29,f30,f31,f32,f33,f34,f35,f36,f37,f38,f39,fx]:List Addr).getD i 0) (fun i=>match i with
  |0=>(FN "is_whole" zbw .none kV0 dc0 pm0 an0 cd0 ct0)
  |1=>(FN "is_letter" zba .none kV1 dc1 pm1 an1 cd1 ct1)
  |2=>(FN "are_told" zaZ .none kV2 dc2 pm2 an2 cd2 ct2)
  |3=>(FN "is_told_row" zbf .none kV3 dc3 pm3 an3 cd3 ct3)
  |4=>(FN "has_form" zaX .none kV4 dc4 pm4 an4 cd4 ct4)
  |5=>(FN "is_named" zaW .none kV5 dc5 pm5 an5 cd5 ct5)
  |6=>(FN "is_operand" za7 .none kV6 dc6 pm6 an6 cd6 ct6)
  |7=>(FN "is_told_cell" zaE .none kV7 dc7 pm7 an7 cd7 ct7)
  |8=>(FN "is_lettered" zay .none kV8 dc8 pm8 an8 cd8 ct8)
  |9=>(FN "is_sentence" zah .none kV9 dc9 pm9 an9 cd9 ct9)
  |10=>(FN "is_term" za3 .none kV10 dc10 pm10 an10 cd10 ct10)
  |11=>(FN "are_things" zaq .none kV11 dc11 pm11 an11 cd11 ct11)
  |12=>(FN "is_thing" zaV .none kV12 dc12 pm12 an12 cd12 ct12)
  |13=>(FN "is_telling" za6 .none kV13 dc13 pm13 an13 cd13 ct13)
  |14=>(FN "are_parts" zaO .none kV14 dc14 pm14 an14 cd14 ct14)
  |15=>(FN "is_part" za2 .none kV15 dc15 pm15 an15 cd15 ct15)
  |16=>(FN "_law_fresh" zem .none kV16 dc16 pm16 an16 cd16 ct16)
  |17=>(FN "_law_mixed" zdk .none kV17 dc17 pm17 an17 cd17 ct17)
  |18=>(FN "_law_fill" zdQ .none kV18 dc18 pm18 an18 cd18 ct18)
  |19=>(FN "_law_take" zeQ .none kV19 dc19 pm19 an19 cd19 ct19)
  |20=>(FN "_law_sizes" zdq .none kV20 dc20 pm20 an20 cd20 ct20)
  |21=>(FN "_law_whole" zcs .none kV21 dc21 pm21 an21 cd21 ct21)
  |22=>(FN "_law_wholes" zbr .none kV22 dc22 pm22 an22 cd22 ct22)
  |23=>(FN "_law_letter" zbT .none kV23 dc23 pm23 an23 cd23 ct23)
  |24=>(FN "_law_index_cell" zao .none kV24 dc24 pm24 an24 cd24 ct24)
  |25=>(FN "_law_telling_row" zW .none kV25 dc25 pm25 an25 cd25 ct25)
  |26=>(FN "_law_thing" zbV .none kV26 dc26 pm26 an26 cd26 ct26)
  |27=>(FN "_law_is_sentence" zX .none kV27 dc27 pm27 an27 cd27 ct27)
  |28=>(FN "_law_part" zbN .none kV28 dc28 pm28 an28 cd28 ct28)
  |29=>(FN "_law_is_telling" zaw .none kV29 dc29 pm29 an29 cd29 ct29)
  |30=>(FN "_law_some_letter" zaP .none kV30 dc30 pm30 an30 cd30 ct30)
  |31=>(FN "_law_some_row" za9 .none kV31 dc31 pm31 an31 cd31 ct31)
  |32=>(FN "_law_strange" zbx .none kV32 dc32 pm32 an32 cd32 ct32)
  |33=>(FN "_law_spoilt_tuple" z3 .none kV33 dc33 pm33 an33 cd33 ct33)
  |34=>(FN "_law_some_index" zax .none kV34 dc34 pm34 an34 cd34 ct34)
  |35=>(FN "_law_some_telling_row" zM .none kV35 dc35 pm35 an35 cd35 ct35)
  |36=>(FN "_law_some_sentence" zQ .none kV36 dc36 pm36 an36 cd36 ct36)
  |37=>(FN "_law_some_count" zaN .none kV37 dc37 pm37 an37 cd37 ct37)
  |38=>(FN "_law_some_telling" zT .none kV38 dc38 pm38 an38 cd38 ct38)
  |39=>(FN "_law_spoilt_within" zP .none kV39 dc39 pm39 an39 cd39 ct39)
  |40=>(FN "law" zdN .none kV40 dc40 pm40 an40 cd40 ct40)
  |_=>(FN "law" zdN .none kV40 dc40 pm40 an40 cd40 ct40)):={
  F0:=zaY (st:=zbw) (ps:=["thing","low","high"]) X G a0 l0 c0 p0 fun _ _ _ _ _ _ us hl=>by obtain ⟨a,b,c,rfl⟩ := kl3 us hl;exact rfl
  F1:=zaY (st:=zba) (ps:=["thing"]) X G a1 l1 c1 p1 fun _ _ _ _ _ _ us hl=>by obtain ⟨a,rfl⟩ := kl1 us hl;exact rfl
  F2:=zaY (st:=zaZ) (ps:=["thing","many"]) X G a2 l2 c2 p2 fun _ _ _ _ _ _ us hl=>by obtain ⟨a,b,rfl⟩ := kl2 us hl;exact rfl
  F3:=zaY (st:=zbf) (ps:=["thing"]) X G a3 l3 c3 p3 fun _ _ _ _ _ _ us hl=>by obtain ⟨a,rfl⟩ := kl1 us hl;exact rfl
  F4:=zaY (st:=zaX) (ps:=["thing","told"]) X G a4 l4 c4 p4 fun _ _ _ _ _ _ us hl=>by obtain ⟨a,b,rfl⟩ := kl2 us hl;exact rfl
  F5:=zaY (st:=zaW) (ps:=["thing"]) X G a5 l5 c5 p5 fun _ _ _ _ _ _ us hl=>by obtain ⟨a,rfl⟩ := kl1 us hl;exact rfl
  F6:=zaY (st:=za7) (ps:=["kind","thing","told"]) X G a6 l6 c6 p6 fun _ _ _ _ _ _ us hl=>by obtain ⟨a,b,c,rfl⟩ := kl3 us hl;exact rfl
  F7:=zaY (st:=zaE) (ps:=["thing"]) X G a7 l7 c7 p7 fun _ _ _ _ _ _ us hl=>by obtain ⟨a,rfl⟩ := kl1 us hl;exact rfl
  F8:=zaY (st:=zay) (ps:=["thing"]) X G a8 l8 c8 p8 fun _ _ _ _ _ _ us hl=>by obtain ⟨a,rfl⟩ := kl1 us hl;exact rfl
  F9:=zaY (st:=zah) (ps:=["thing"]) X G a9 l9 c9 p9 fun _ _ _ _ _ _ us hl=>by obtain ⟨a,rfl⟩ := kl1 us hl;exact rfl
  F10:=zaY (st:=za3) (ps:=["thing"]) X G a10 l10 c10 p10 fun _ _ _ _ _ _ us hl=>by obtain ⟨a,rfl⟩ := kl1 us hl;exact rfl
  F11:=zaY (st:=zaq) (ps:=["thing"]) X G a11 l11 c11 p11 fun _ _ _ _ _ _ us hl=>by obtain ⟨a,rfl⟩ := kl1 us hl;exact rfl
  F12:=zaY (st:=zaV) (ps:=["thing"]) X G a12 l12 c12 p12 fun _ _ _ _ _ _ us hl=>by obtain ⟨a,rfl⟩ := kl1 us hl;exact rfl
  F13:=zaY (st:=za6) (ps:=["thing"]) X G a13 l13 c13 p13 fun _ _ _ _ _ _ us hl=>by obtain ⟨a,rfl⟩ := kl1 us hl;exact rfl
  F14:=zaY (st:=zaO) (ps:=["thing","nests"]) X G a14 l14 c14 p14 fun _ _ _ _ _ _ us hl=>by obtain ⟨a,b,rfl⟩ := kl2 us hl;exact rfl
  F15:=zaY (st:=za2) (ps:=["thing","nests"]) X G a15 l15 c15 p15 fun _ _ _ _ _ _ us hl=>by obtain ⟨a,b,rfl⟩ := kl2 us hl;exact rfl
  F16:=zaY (st:=zem) (ps:=["_law_script"]) X G a16 l16 c16 p16 fun _ _ _ _ _ _ us hl=>by obtain ⟨a,rfl⟩ := kl1 us hl;exact rfl
  F17:=zaY (st:=zdk) (ps:=["_law_seed"]) X G a17 l17 c17 p17 fun _ _ _ _ _ _ us hl=>by obtain ⟨a,rfl⟩ := kl1 us hl;exact rfl
  F18:=zaY (st:=zdQ) (ps:=["_law_state"]) X G a18 l18 c18 p18 fun _ _ _ _ _ _ us hl=>by obtain ⟨a,rfl⟩ := kl1 us hl;exact rfl
  F19:=zaY (st:=zeQ) (ps:=["_law_state","_law_many"]) X G a19 l19 c19 p19 fun _ _ _ _ _ _ us hl=>by obtain ⟨a,b,rfl⟩ := kl2 us hl;exact rfl
  F20:=zaY (st:=zdq) (ps:=["_law_state","_law_most"]) X G a20 l20 c20 p20 fun _ _ _ _ _ _ us hl=>by obtain ⟨a,b,rfl⟩ := kl2 us hl;exact rfl
  F21:=zaY (st:=zcs) (ps:=["_law_thing_here"]) X G a21 l21 c21 p21 fun _ _ _ _ _ _ us hl=>by obtain ⟨a,rfl⟩ := kl1 us hl;exact rfl
  F22:=zaY (st:=zbr) (ps:=["_law_thing_here","_law_many","_law_most"]) X G a22 l22 c22 p22 fun _ _ _ _ _ _ us hl=>by obtain ⟨a,b,c,rfl⟩ := kl3 us hl;exact rfl
  F23:=zaY (st:=zbT) (ps:=["_law_thing_here"]) X G a23 l23 c23 p23 fun _ _ _ _ _ _ us hl=>by obtain ⟨a,rfl⟩ := kl1 us hl;exact rfl
  F24:=zaY (st:=zao) (ps:=["_law_thing_here"]) X G a24 l24 c24 p24 fun _ _ _ _ _ _ us hl=>by obtain ⟨a,rfl⟩ := kl1 us hl;exact rfl
  F25:=zaY (st:=zW) (ps:=["_law_row"]) X G a25 l25 c25 p25 fun _ _ _ _ _ _ us hl=>by obtain ⟨a,rfl⟩ := kl1 us hl;exact rfl
  F26:=zaY (st:=zbV) (ps:=["_law_thing_here"]) X G a26 l26 c26 p26 fun _ _ _ _ _ _ us hl=>by obtain ⟨a,rfl⟩ := kl1 us hl;exact rfl
  F27:=zaY (st:=zX) (ps:=["_law_told"]) X G a27 l27 c27 p27 fun _ _ _ _ _ _ us hl=>by obtain ⟨a,rfl⟩ := kl1 us hl;exact rfl
  F28:=zaY (st:=zbN) (ps:=["_law_part_here","_law_deep"]) X G a28 l28 c28 p28 fun _ _ _ _ _ _ us hl=>by obtain ⟨a,b,rfl⟩ := kl2 us hl;exact rfl
  F29:=zaY (st:=zaw) (ps:=["_law_told"]) X G a29 l29 c29 p29 fun _ _ _ _ _ _ us hl=>by obtain ⟨a,rfl⟩ := kl1 us hl;exact rfl
  F30:=zaY (st:=zaP) (ps:=["_law_state"]) X G a30 l30 c30 p30 fun _ _ _ _ _ _ us hl=>by obtain ⟨a,rfl⟩ := kl1 us hl;exact rfl
  F31:=zaY (st:=za9) (ps:=["_law_state","_law_cells"]) X G a31 l31 c31 p31 fun _ _ _ _ _ _ us hl=>by obtain ⟨a,b,rfl⟩ := kl2 us hl;exact rfl
  F32:=zaY (st:=zbx) (ps:=["_law_state"]) X G a32 l32 c32 p32 fun _ _ _ _ _ _ us hl=>by obtain ⟨a,rfl⟩ := kl1 us hl;exact rfl
  F33:=zaY (st:=z3) (ps:=["_law_state","_law_told"]) X G a33 l33 c33 p33 fun _ _ _ _ _ _ us hl=>by obtain ⟨a,b,rfl⟩ := kl2 us hl;exact rfl
  F34:=zaY (st:=zax) (ps:=["_law_state"]) X G a34 l34 c34 p34 fun _ _ _ _ _ _ us hl=>by obtain ⟨a,rfl⟩ := kl1 us hl;exact rfl
  F35:=zaY (st:=zM) (ps:=["_law_state"]) X G a35 l35 c35 p35 fun _ _ _ _ _ _ us hl=>by obtain ⟨a,rfl⟩ := kl1 us hl;exact rfl
  F36:=zaY (st:=zQ) (ps:=["_law_state"]) X G a36 l36 c36 p36 fun _ _ _ _ _ _ us hl=>by obtain ⟨a,rfl⟩ := kl1 us hl;exact rfl
  F37:=zaY (st:=zaN) (ps:=["_law_state","_law_w","_law_n"]) X G a37 l37 c37 p37 fun _ _ _ _ _ _ us hl=>by obtain ⟨a,b,c,rfl⟩ := kl3 us hl;exact rfl
  F38:=zaY (st:=zT) (ps:=["_law_state","_law_w","_law_n"]) X G a38 l38 c38 p38 fun _ _ _ _ _ _ us hl=>by obtain ⟨a,b,c,rfl⟩ := kl3 us hl;exact rfl
  F39:=zaY (st:=zP) (ps:=["_law_state","_law_told","_law_deep"]) X G a39 l39 c39 p39 fun _ _ _ _ _ _ us hl=>by obtain ⟨a,b,c,rfl⟩ := kl3 us hl;exact rfl
  F40:=zaY (st:=zdN) (ps:=["_law_script"]) X G a40 l40 c40 p40 fun _ _ _ _ _ _ us hl=>by obtain ⟨a,rfl⟩ := kl1 us hl;exact rfl
  z_abs:=PySem.W.mg_none_of X G z_abs
  z_all:=PySem.W.mg_none_of X G z_all
  z_bool:=PySem.W.mg_none_of X G z_bool
  z_enumerate:=PySem.W.mg_none_of X G z_enumerate
  z_int:=PySem.W.mg_none_of X G z_int
  z_isinstance:=PySem.W.mg_none_of X G z_isinstance
  z_len:=PySem.W.mg_none_of X G z_len
  z_list:=PySem.W.mg_none_of X G z_list
  z_max:=PySem.W.mg_none_of X G z_max
  z_min:=PySem.W.mg_none_of X G z_min
  z_range:=PySem.W.mg_none_of X G z_range
  z_str:=PySem.W.mg_none_of X G z_str
  z_tuple:=PySem.W.mg_none_of X G z_tuple
  z_zip:=PySem.W.mg_none_of X G z_zip
  k_bool:=⟨k_bool_n,k_bool_b,k_bool_i,k_bool_s,k_bool_p,k_bool_l⟩
  k_int:=⟨k_int_n,k_int_b,k_int_i,k_int_s,k_int_p,k_int_l⟩
  k_str:=⟨k_str_n,k_str_b,k_str_i,k_str_s,k_str_p,k_str_l⟩
  k_tuple:=⟨k_tuple_n,k_tuple_b,k_tuple_i,k_tuple_s,k_tuple_p,k_tuple_l⟩
  c_FACTOR_LIMIT:=⟨_,PySem.W.mg_of X G g_FACTOR_LIMIT_a⟩
  c_MOST_NESTS:=⟨_,PySem.W.mg_of X G g_MOST_NESTS_a⟩
  c_MOST_TERMS:=⟨_,PySem.W.mg_of X G g_MOST_TERMS_a⟩
  c_MOST_THINGS:=⟨_,PySem.W.mg_of X G g_MOST_THINGS_a⟩
  c_MOST_TOLD:=⟨_,PySem.W.mg_of X G g_MOST_TOLD_a⟩
  d_ROWS:=⟨gd_ROWS_y,_,_,PySem.W.mg_of X G gd_ROWS_a,gd_ROWS_l,gd_ROWS_s,.cons (x:=.ref gd_ROWS_0_y0) rfl (fun B φ H=>zda (xs:=[.str "cell",.str "figure"]) gd_ROWS_0_l0 (Nat.le_of_ble_eq_true rfl) (.cons ⟨_,rfl⟩ (.cons ⟨_,rfl⟩ .nil)) (zac (by simp only [RepV]) (zac (by simp only [RepV]) zcx))) (.cons (x:=.ref gd_ROWS_1_y0) rfl (fun B φ H=>zda (xs:=[.str "cell",.str "cell"]) gd_ROWS_1_l0 (Nat.le_of_ble_eq_true rfl) (.cons ⟨_,rfl⟩ (.cons ⟨_,rfl⟩ .nil)) (zac (by simp only [RepV]) (zac (by simp only [RepV]) zcx))) (.cons (x:=.ref gd_ROWS_2_y0) rfl (fun B φ H=>zda (xs:=[.str "cell",.str "cell"]) gd_ROWS_2_l0 (Nat.le_of_ble_eq_true rfl) (.cons ⟨_,rfl⟩ (.cons ⟨_,rfl⟩ .nil)) (zac (by simp only [RepV]) (zac (by simp only [RepV]) zcx))) (.cons (x:=.ref gd_ROWS_3_y0) rfl (fun B φ H=>zda (xs:=[.str "cell",.str "cell",.str "cell"]) gd_ROWS_3_l0 (Nat.le_of_ble_eq_true rfl) (.cons ⟨_,rfl⟩ (.cons ⟨_,rfl⟩ (.cons ⟨_,rfl⟩ .nil))) (zac (by simp only [RepV]) (zac (by simp only [RepV]) (zac (by simp only [RepV]) zcx)))) (.cons (x:=.ref gd_ROWS_4_y0) rfl (fun B φ H=>zda (xs:=[.str "cell",.str "cell",.str "cell"]) gd_ROWS_4_l0 (Nat.le_of_ble_eq_true rfl) (.cons ⟨_,rfl⟩ (.cons ⟨_,rfl⟩ (.cons ⟨_,rfl⟩ .nil))) (zac (by simp only [RepV]) (zac (by simp only [RepV]) (zac (by simp only [RepV]) zcx)))) (.cons (x:=.ref gd_ROWS_5_y0) rfl (fun B φ H=>zda (xs:=[.str "cell",.str "cell",.str "cell"]) gd_ROWS_5_l0 (Nat.le_of_ble_eq_true rfl) (.cons ⟨_,rfl⟩ (.cons ⟨_,rfl⟩ (.cons ⟨_,rfl⟩ .nil))) (zac (by simp only [RepV]) (zac (by simp only [RepV]) (zac (by simp only [RepV]) zcx)))) (.cons (x:=.ref gd_ROWS_6_y0) rfl (fun B φ H=>zda (xs:=[.str "cell",.str "cell",.str "cell"]) gd_ROWS_6_l0 (Nat.le_of_ble_eq_true rfl) (.cons ⟨_,rfl⟩ (.cons ⟨_,rfl⟩ (.cons ⟨_,rfl⟩ .nil))) (zac (by simp only [RepV]) (zac (by simp only [RepV]) (zac (by simp only [RepV]) zcx)))) (.cons (x:=.ref gd_ROWS_7_y0) rfl (fun B φ H=>zda (xs:=[.str "cell",.str "cell",.str "cell"]) gd_ROWS_7_l0 (Nat.le_of_ble_eq_true rfl) (.cons ⟨_,rfl⟩ (.cons ⟨_,rfl⟩ (.cons ⟨_,rfl⟩ .nil))) (zac (by simp only [RepV]) (zac (by simp only [RepV]) (zac (by simp only [RepV]) zcx)))) (.cons (x:=.ref gd_ROWS_8_y0) rfl (fun B φ H=>zda (xs:=[.str "cell",.str "cell"]) gd_ROWS_8_l0 (Nat.le_of_ble_eq_true rfl) (.cons ⟨_,rfl⟩ (.cons ⟨_,rfl⟩ .nil)) (zac (by simp only [RepV]) (zac (by simp only [RepV]) zcx))) (.cons (x:=.ref gd_ROWS_9_y0) rfl (fun B φ H=>zda (xs:=[.str "cell",.str "cell"]) gd_ROWS_9_l0 (Nat.le_of_ble_eq_true rfl) (.cons ⟨_,rfl⟩ (.cons ⟨_,rfl⟩ .nil)) (zac (by simp only [RepV]) (zac (by simp only [RepV]) zcx))) (.cons (x:=.ref gd_ROWS_10_y0) rfl (fun B φ H=>zda (xs:=[.str "cell",.str "cell",.str "cell",.str "cell"]) gd_ROWS_10_l0 (Nat.le_of_ble_eq_true rfl) (.cons ⟨_,rfl⟩ (.cons ⟨_,rfl⟩ (.cons ⟨_,rfl⟩ (.cons ⟨_,rfl⟩ .nil)))) (zac (by simp only [RepV]) (zac (by simp only [RepV]) (zac (by simp only [RepV]) (zac (by simp only [RepV]) zcx))))) (.cons (x:=.ref gd_ROWS_11_y0) rfl (fun B φ H=>zda (xs:=[.str "figure"]) gd_ROWS_11_l0 (Nat.le_of_ble_eq_true rfl) (.cons ⟨_,rfl⟩ .nil) (zac (by simp only [RepV]) zcx)) (.cons (x:=.ref gd_ROWS_12_y0) rfl (fun B φ H=>zda (xs:=[.str "cell"]) gd_ROWS_12_l0 (Nat.le_of_ble_eq_true rfl) (.cons ⟨_,rfl⟩ .nil) (zac (by simp only [RepV]) zcx)) (.nil))))))))))))),by decide +kernel⟩
 }
 exact ⟨_,fun s v=>.of_eq rfl,fun base XB _=>(zR Z 17 40 _ rfl).imp fun _ _ _ _ h=>h _⟩
theorem walk {l:PySem.W.OpenLaw}{q:Program}{loose:List Str}{XP:(Str->Option Value)->Heap->Prop}{YP:World->Heap->Prop}{d:DefRec}{K:Params->PySem.W.Frag}(hn:l.most=some 63)(hdf:d.params.defaults=[])
  (hY:∀(w:World) (h:Heap),YP w h->(K w.params).In h)
  (F:∀(w:World) (mg:Str->Option Value) (fa:Addr) (h:Heap),(K w.params).In h->h.Ns mainGlobals mg->mg d.name=some (.ref fa) ->
   ∃fd:FuncData,(∀(s:Shared) (u:Value),BindsTo s fd ⟨[u],[]⟩ [("_law_script",u)])/\∀base:Heap,(K w.params).In base->base.Ns mainGlobals mg->FnOk l.prog w (K w.params) mg base (CX1 l.prog w) 17 fa fd ["_law_script"] (spX (K w.params) (callT T 17) zkx)) :
  PySem.W.WalkO q loose XP YP l.row.toRowW d [] (fun f vs=>PySem.call f vs) :=
 L2.walk_of (n:=63) (k:=17) (x:="_law_script") (CX:=fun w=>CX1 l.prog w) (sp:=fun w=>spX (K w.params) (callT T 17) zkx) hn (by decide) hdf ⟨rfl,by decide,by decide⟩ hY F (fun w H a ns hl _ hS=>zkD zlQ hl hS) fun _ _ _ _ _ z=>zn3 z
end WK
open PySem PySem.W PyProof.Rows
namespace PySem.W.Fast
def tw10669415369526478302:=Nat
def tw7814026700181676279:=Nat
def tw16600292423838583476:=Nat
def tw16195586312672782739:=Nat
def tw10997227904361277852:=Nat
def tw14767805533459496115:=Nat
def tw1130694131983064535:=Nat
def tw14375936089642246125:=Nat
def tw9351647502281523292:=Nat
def tw3603384611198586689:=Nat
def tw6706957609545788635:=Nat
def tw15735844681587740295:=Nat
def tw9239517633639494157:=Nat
def tw9770015222004966508:=Nat
def tw7542353071240883786:=Nat
def tw5880868117633329706:=Nat
def tw16359366947191273713:=Nat
def tw10160644404229410136:=Nat
def tw8660432439845315846:=Nat
def tw11583147650096700117:=Nat
def tw3049260016396300672:=Nat
def tw4788852063235778535:=Nat
def tw18148382655477969668:=Nat
def tw17597126014950444560:=Nat
def tw15098677099013371231:=Nat
def tw13668277422383046581:=Nat
def tw6115651925271422787:=Nat
def tw7298301383675847949:=Nat
def tw8664526322281268487:=Nat
def tw17274467598068242123:=Nat
def tw10885812672081908910:=Nat
def tw1031190978268445297:=Nat
def tw1456395638547117683:=Nat
def tw4464021683997243946:=Nat
def tw11227910273920940467:=Nat
def tw2065313474134729190:=Nat
def tw6389054686011072088:=Nat
def tw4242269965578905535:=Nat
def tw10687550875379343686:=Nat
def tw17146580516525112044:=Nat
def tw13081302274579478718:=Nat
def tw99393488690267677:=Nat
def tw8345477729979340888:=Nat
def tw3284250243210169839:=Nat
def tw3700718520973496435:=Nat
def tw9215234500066757379:=Nat
def tw12538404694973236626:=Nat
def tw12010576994440787403:=Nat
def tw3009462179337081060:=Nat
def tw4200404786227945378:=Nat
def tw15620363264637370828:=Nat
def tw12663357115689279823:=Nat
def tw12112754544504867673:=Nat
def tw8848575577383253508:=Nat
def tw161593730254335436:=Nat
def tw12981077691013085390:=Nat
def tw13760303305576177447:=Nat
def tw11456954533051420330:=Nat
def tw1855202342005805701:=Nat
def tw6736275546495830519:=Nat
def tw7233769397272536212:=Nat
def tw18121134817804612077:=Nat
def tw1275762622963335081:=Nat
def tw17592065159571329557:=Nat
def tw18374014546263169688:=Nat
def tw17433380437143811549:=Nat
def tw11939214602653026104:=Nat
def tw5789220817196783503:=Nat
def tw9238729761339382837:=Nat
def tw8600560366155357763:=Nat
def tw6204068969454023018:=Nat
def tw6047116761139462134:=Nat
def tw2000130773493299377:=Nat
def tw13563230804502300687:=Nat
def tw7916296124559552847:=Nat
def tw12441858639045288914:=Nat
def tw13601189558896009189:=Nat
def tw2466883021026614686:=Nat
def tw7527635728605699030:=Nat
def tw13267587049164507110:=Nat
def tw10054278818350319290:=Nat
def tw449840823235618532:=Nat
def tw5559166697911074232:=Nat
def tw10941997074257483148:=Nat
def tw4400416845215585080:=Nat
def tw8801385619953411201:=Nat
def tw16553195881278202071:=Nat
def tw6537012817136913076:=Nat
def tw3601529122292632895:=Nat
def tw9138970839305578307:=Nat
def tw2828077403810517413:=Nat
def tw17320469040409850462:=Nat
def tw4909295061726539820:=Nat
def tw2428617422021999921:=Nat
def tw17719221479412015833:=Nat
def tw12935368710674462284:=Nat
def tw8742157227750488765:=Nat
def tw459610979460107405:=Nat
def tw3598470330024399993:=Nat
def tw17290348839174254865:=Nat
def tw823882437092505662:=Nat
def tw10939954216206614069:=Nat
def tw877219952865029293:=Nat
def tw5592085940359310001:=Nat
def tw16160007316082129341:=Nat
def tw288639504525899971:=Nat
def tw14778498640137439457:=Nat
def tw4852873598917818706:=Nat
def tw6168486369016799508:=Nat
def tw9222967657472784545:=Nat
def tw16970384511300462089:=Nat
def tw8368764504355611354:=Nat
def tw1983814107846296165:=Nat
def tw18327913701197481964:=Nat
def tw10971474112550528150:=Nat
def tw7607097287947048996:=Nat
def tw17372804957735204057:=Nat
def tw1170864038382417083:=Nat
def tw10036088904399267897:=Nat
def tw7452172479766521700:=Nat
def tw7636322747369985574:=Nat
def tw796443781128915358:=Nat
def tw13987312067016566764:=Nat
def tw1592536928723598335:=Nat
def tw3329704958565219355:=Nat
def tw7414171197578752901:=Nat
def tw8436813951269194675:=Nat
def tw6963451121606227244:=Nat
def tw10343716521223482007:=Nat
def tw10831874742215366519:=Nat
def tw3820254169121637905:=Nat
def tw10543675221833237244:=Nat
def tw8257600659295368018:=Nat
def tw4947110712157592376:=Nat
def tw2539203081691729552:=Nat
def tw2388885252067269972:=Nat
def tw390886519905885318:=Nat
def tw4936170676189935608:=Nat
def tw7566566995041855413:=Nat
def tw11490565022074762754:=Nat
def tw16145019943611186605:=Nat
def tw4225061178618909902:=Nat
def tw12143518479867294249:=Nat
def tw8021617848720290895:=Nat
def tw8630813285685370813:=Nat
def tw18173166794576421303:=Nat
def tw4931972550823331653:=Nat
def tw10626938213426075799:=Nat
def tw718471444080153942:=Nat
def tw6259461915900335905:=Nat
def tw275133725438610945:=Nat
def tw11817312786734979046:=Nat
def tw10465183755437144173:=Nat
def tw3469042187534653269:=Nat
def tw5698325562953586432:=Nat
def tw3210045020192384442:=Nat
def tw9226322370309152119:=Nat
def tw13514260677188309619:=Nat
def tw13628552908002135116:=Nat
def tw14969937306182648245:=Nat
def tw6846832171279900205:=Nat
def tw2003963546224259733:=Nat
def tw13243600348435711388:=Nat
def tw11558996898704265836:=Nat
def tw1283793569326371713:=Nat
def tw11045350022203738619:=Nat
def tw13398114682528292493:=Nat
def tw2945041340435066715:=Nat
def tw14875890674996200571:=Nat
end PySem.W.Fast
set_option maxRecDepth 100000 in
set_option maxHeartbeats 0 in
theorem PySem.Challenge.cw_widewords_k12_tellings_looked_at_holds : PySem.Challenge.rw_widewords_k12_tellings_looked_at.Holds := by
 w_on;o_law;k_head;(case hw=>w_witness2)
 k_fill
 refine WK.walk (l:=PySem.Challenge.rw_widewords_k12_tellings_looked_at) rfl rfl (fun w h Y=>PySem.W.kIn_of Y) ?F
 case F =>
  intro w mg fa h KX G hmg
  refine' WK.all_mk KX G hmg ?a0 ?l0 ?c0 ?p0 ?a1 ?l1 ?c1 ?p1 ?a2 ?l2 ?c2 ?p2 ?a3 ?l3 ?c3 ?p3 ?a4 ?l4 ?c4 ?p4 ?a5 ?l5 ?c5 ?p5 ?a6 ?l6 ?c6 ?p6 ?a7 ?l7 ?c7 ?p7 ?a8 ?l8 ?c8 ?p8 ?a9 ?l9 ?c9 ?p9 ?a10 ?l10 ?c10 ?p10 ?a11 ?l11 ?c11 ?p11 ?a12 ?l12 ?c12 ?p12 ?a13 ?l13 ?c13 ?p13 ?a14 ?l14 ?c14 ?p14 ?a15 ?l15 ?c15 ?p15 ?a16 ?l16 ?c16 ?p16 ?a17 ?l17 ?c17 ?p17 ?a18 ?l18 ?c18 ?p18 ?a19 ?l19 ?c19 ?p19 ?a20 ?l20 ?c20 ?p20 ?a21 ?l21 ?c21 ?p21 ?a22 ?l22 ?c22 ?p22 ?a23 ?l23 ?c23 ?p23 ?a24 ?l24 ?c24 ?p24 ?a25 ?l25 ?c25 ?p25 ?a26 ?l26 ?c26 ?p26 ?a27 ?l27 ?c27 ?p27 ?a28 ?l28 ?c28 ?p28 ?a29 ?l29 ?c29 ?p29 ?a30 ?l30 ?c30 ?p30 ?a31 ?l31 ?c31 ?p31 ?a32 ?l32 ?c32 ?p32 ?a33 ?l33 ?c33 ?p33 ?a34 ?l34 ?c34 ?p34 ?a35 ?l35 ?c35 ?p35 ?a36 ?l36 ?c36 ?p36 ?a37 ?l37 ?c37 ?p37 ?a38 ?l38 ?c38 ?p38 ?a39 ?l39 ?c39 ?p39 ?a40 ?l40 ?c40 ?p40 ?z_abs ?z_all ?z_bool ?z_enumerate ?z_int ?z_isinstance ?z_len ?z_list ?z_max ?z_min ?z_range ?z_str ?z_tuple ?z_zip ?k_bool_n ?k_bool_b ?k_bool_i ?k_bool_s ?k_bool_p ?k_bool_l ?k_int_n ?k_int_b ?k_int_i ?k_int_s ?k_int_p ?k_int_l ?k_str_n ?k_str_b ?k_str_i ?k_str_s ?k_str_p ?k_str_l ?k_tuple_n ?k_tuple_b ?k_tuple_i ?k_tuple_s ?k_tuple_p ?k_tuple_l ?g_FACTOR_LIMIT_a ?g_MOST_NESTS_a ?g_MOST_TERMS_a ?g_MOST_THINGS_a ?g_MOST_TOLD_a ?gd_ROWS_a ?gd_ROWS_l ?gd_ROWS_s ?gd_ROWS_0_l0 ?gd_ROWS_1_l0 ?gd_ROWS_2_l0 ?gd_ROWS_3_l0 ?gd_ROWS_4_l0 ?gd_ROWS_5_l0 ?gd_ROWS_6_l0 ?gd_ROWS_7_l0 ?gd_ROWS_8_l0 ?gd_ROWS_9_l0 ?gd_ROWS_10_l0 ?gd_ROWS_11_l0 ?gd_ROWS_12_l0
  all_goals try delta WK.aN WK.cN WK.pN WK.lN
  (case a0|l0|c0|p0|a1|l1|c1|p1|a2|l2|c2|p2|a3|l3|c3|p3|a4|l4|c4|p4|a5|l5|c5|p5|a6|l6|c6|p6|a7|l7|c7|p7|a8|l8|c8|p8|a9|l9|c9|p9|a10|l10|c10|p10|a11|l11|c11|p11|a12|l12|c12|p12|a13|l13|c13|p13|a14|l14|c14|p14|a15|l15|c15|p15|a16|l16|c16|p16|a17|l17|c17|p17|a18|l18|c18|p18|a19|l19|c19|p19|a20|l20|c20|p20|a21|l21|c21|p21|a22|l22|c22|p22|a23|l23|c23|p23|a24|l24|c24|p24|a25|l25|c25|p25|a26|l26|c26|p26|a27|l27|c27|p27|a28|l28|c28|p28|a29|l29|c29|p29|a30|l30|c30|p30|a31|l31|c31|p31|a32|l32|c32|p32|a33|l33|c33|p33|a34|l34|c34|p34|a35|l35|c35|p35|a36|l36|c36|p36|a37|l37|c37|p37|a38|l38|c38|p38|a39|l39|c39|p39|a40|l40|c40|p40|z_abs|z_all|z_bool|z_enumerate|z_int|z_isinstance|z_len|z_list|z_max|z_min|z_range|z_str|z_tuple|z_zip=>k_is);(case k_bool_n|k_bool_b|k_bool_i|k_bool_s|k_bool_p|k_bool_l|k_int_n|k_int_b|k_int_i|k_int_s|k_int_p|k_int_l|k_str_n|k_str_b|k_str_i|k_str_s|k_str_p|k_str_l|k_tuple_n|k_tuple_b|k_tuple_i|k_tuple_s|k_tuple_p|k_tuple_l=>kit_is);(case g_FACTOR_LIMIT_a|g_MOST_NESTS_a|g_MOST_TERMS_a|g_MOST_THINGS_a|g_MOST_TOLD_a|gd_ROWS_a|gd_ROWS_l=>k_is);(case gd_ROWS_s=>rfl);(case gd_ROWS_0_l0|gd_ROWS_1_l0|gd_ROWS_2_l0|gd_ROWS_3_l0|gd_ROWS_4_l0|gd_ROWS_5_l0|gd_ROWS_6_l0|gd_ROWS_7_l0|gd_ROWS_8_l0|gd_ROWS_9_l0|gd_ROWS_10_l0|gd_ROWS_11_l0|gd_ROWS_12_l0=>k_is)
