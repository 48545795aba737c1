import PyProof.Rows.All
import Wide.All
import OpenK.AllK
import Wide.FinOn
import Lean
import PyProof.EqAt
import PyProof.EqKinds
import PyProof.TupleCall
import KE.LcSums
import PyProof.ZipIter
import PyProof.AutoSeq1
import KE.KRevIter
import PyProof.Rows.FactsT2
import PyProof.FactsAll.range_2
import KE.KTryMore
import PyProof.Rows.CountFlat
import PyProof.Rows.SeqMore2
import PySem.Builtin.Int.W1All
import PyProof.FString5
import PyProof.StrLawsIn
import PyProof.StrBlockI
import PyProof.Rows.Range3
import KE.KRevSl
import KE.KxWritten
import PyProof.StrBlock2
import PyProof.ListMulRoad
import PyProof.Rows.ListMulCarried
import PyProof.StrWalks
import PyProof.StrCalls2
import PyProof.StrLawsChain
import PyProof.StrLawsTight
import PyProof.CallStr
import PyProof.Rows.StrJoin2
import PyProof.Rows.StrFin3
import PySem.Challenge.RW_widewords_k05_texts_refused
import PyProof.FitsInt
import PyProof.Fits
import PyProof.StrLaws
import KE.KBits
set_option Elab.async false
set_option linter.all false
set_option maxRecDepth 100000
set_option maxHeartbeats 0
namespace L2
open PySem PySem.Spec PyProof.Rows
abbrev Key:=Sum Int Str
def keyIs:Key->Value->Bool
 | .inl k,v=>Value.isInt k v
 | .inr x,v=>Value.isStrOf x v
def keyH (w:World):Key->Int
 | .inl k=>hashInt k
 | .inr x=>hashStr w x
theorem zO:∀{k:Key} {v:Value},keyIs k v=true->(∃i t,k=Sum.inl i/\v=Value.int i t) \/ (∃x t,k=Sum.inr x/\v=Value.str x t)
 | .inl i,v,h=>by
  obtain ⟨t,e⟩:=Value.isInt_shape (k:=i) (v:=v) h
  exact .inl ⟨i,t,rfl,e⟩
 | .inr x,v,h=>by
  obtain ⟨t,e⟩:=Value.isStrOf_shape (x:=x) (v:=v) h
  exact .inr ⟨x,t,rfl,e⟩
theorem zlM (a b:Int):decide ((Sum.inl a:Key)=Sum.inl b)=(a == b):=by
 by_cases e:a=b
 ·subst e;simp
 ·have h:¬(Sum.inl a:Key)=Sum.inl b:=fun q=>e (Sum.inl.inj q)
  rw [decide_eq_false h]
  exact (beq_eq_false_iff_ne.mpr e).symm
theorem zlI (a b:Str):decide ((Sum.inr a:Key)=Sum.inr b)=decide (a=b):=by
 by_cases e:a=b
 ·subst e;simp
 ·have h:¬(Sum.inr a:Key)=Sum.inr b:=fun q=>e (Sum.inr.inj q)
  rw [decide_eq_false h,decide_eq_false e]
theorem zlr (a:Int)(b:Str):decide ((Sum.inl a:Key)=Sum.inr b)=false:=decide_eq_false (fun q=>nomatch q)
theorem zl6 (a:Str)(b:Int):decide ((Sum.inr a:Key)=Sum.inl b)=false:=decide_eq_false (fun q=>nomatch q)
def mixKind (prog:Program)(w:World):PySem.KeyKind prog w Key where
 is:=keyIs
 hash:=keyH w
 inj:=fun v a b ha hb=>by
  rcases zO ha with ⟨i,t,rfl,rfl⟩|⟨x,t,rfl,rfl⟩
  ·rcases zO hb with ⟨j,u,rfl,e⟩|⟨y,u,rfl,e⟩
   ·injection e with e1 _;rw [e1]
   ·exact nomatch e
  ·rcases zO hb with ⟨j,u,rfl,e⟩|⟨y,u,rfl,e⟩
   ·exact nomatch e
   ·injection e with e1 _;rw [e1]
 byValue:=fun k v h=>by
  rcases zO h with ⟨i,t,rfl,rfl⟩|⟨x,t,rfl,rfl⟩ <;> rfl
 pyHash:=fun hv h=>by
  rcases zO hv with ⟨i,t,rfl,rfl⟩|⟨x,t,rfl,rfl⟩
  ·exact wpAny_pyHash_int h
  ·exact wpAny_pyHash_str h
 eqBool:=fun hu hv h=>by
  rcases zO hu with ⟨i,t,rfl,rfl⟩|⟨x,t,rfl,rfl⟩
  ·rcases zO hv with ⟨j,u,rfl,rfl⟩|⟨y,u,rfl,rfl⟩
   ·rw [zlM] at h;exact wpAny_eqBool_int h
   ·rw [zlr] at h;exact SeqAt.EqAt.int_str i t y u _ _ _ _ h
  ·rcases zO hv with ⟨j,u,rfl,rfl⟩|⟨y,u,rfl,rfl⟩
   ·rw [zl6] at h;exact SeqAt.EqAt.str_int x t j u _ _ _ _ h
   ·rw [zlI] at h;exact wpAny_eqBool_str h
 «strs»:=fun k x t v h=>by
  rcases zO h with ⟨i,u,rfl,e⟩|⟨y,u,rfl,e⟩
  ·exact nomatch e
  ·injection e with e1 _
   subst e1
   cases v <;> rfl
inductive V where
 | non|bl (b:Bool)|int (i:Int)|str (x:Str)|byt (b:Array UInt8)|flt (b:UInt64)|ref (a:Addr)|ty (n:String)
 deriving DecidableEq
def RelV:V->Value->Prop
 | .non,u=>u=Value.none
 | .bl b,u=>u=Value.bool b
 | .int i,u=>∃t,u=Value.int i t
 | .str x,u=>∃t,u=Value.str x t
 | .byt b,u=>∃t,u=Value.bytes b t
 | .flt b,u=>∃t,u=Value.float b t
 | .ref a,u=>u=Value.ref a
 | .ty n,u=>u=Value.type n
abbrev Vals:List V->List Value->Prop:=Paired RelV
theorem Vals.length {xs:List V}{us:List Value}(r:Vals xs us):xs.length=us.length:=Paired.length r
theorem Vals.get:∀{xs:List V} {us:List Value} {i:Nat} {x:V},Vals xs us->xs[i]?=some x->∃u,us[i]?=some u/\RelV x u
 |_,_,_,_,.nil,e=>by simp at e
 |_,_,0,_,.cons r _,e=>by simp at e;subst e;exact ⟨_,rfl,r⟩
 |_,_,i+1,x,.cons _ t,e=>by
  obtain ⟨u,h1,h2⟩:=Vals.get (i:=i) (x:=x) t (by simpa using e)
  exact ⟨u,by simpa using h1,h2⟩
theorem Vals.set {x:V}{u:Value}(r:RelV x u):∀{xs:List V} {us:List Value} (i:Nat),Vals xs us->Vals (xs.set i x) (us.set i u)
 |_,_,_,.nil=>.nil
 |_,_,0,.cons _ t=>.cons r t
 |_,_,i+1,.cons q t=>.cons q (Vals.set r i t)
theorem Vals.append:∀{xs ys:List V} {us ws:List Value},Vals xs us->Vals ys ws->Vals (xs++ys) (us++ws)
 |_,_,_,_,.nil,s=>s
 |_,_,_,_,.cons r t,s=>.cons r (Vals.append t s)
theorem Vals.take:∀{xs:List V} {us:List Value} (n:Nat),Vals xs us->Vals (xs.take n) (us.take n)
 |_,_,0,_=>.nil
 |_,_,_+1,.nil=>.nil
 |_,_,n+1,.cons r t=>.cons r (Vals.take n t)
theorem Vals.drop:∀{xs:List V} {us:List Value} (n:Nat),Vals xs us->Vals (xs.drop n) (us.drop n)
 |_,_,0,r=>r
 |_,_,_+1,.nil=>.nil
 |_,_,n+1,.cons _ t=>Vals.drop n t
def RelO:Option V->Option Value->Prop
 |some v,some u=>RelV v u
 |none,none=>True
 |_,_=>False
def KV {κ:Type}:List (κ×V)->List (κ×Value)->Prop:=Paired fun (p:κ×V) (q:κ×Value)=>p.1=q.1/\RelV p.2 q.2
def kV:Key->V
 | .inl i=>.int i
 | .inr x=>.str x
inductive HO where
 | lst (xs:List V)
 | tup (xs:List V)
 | dK (kvs:List (Key×V))|dT (kvs:List (List Key×V))
 | set (S:Int->Bool) (n:Nat)
 | ins (C dx:Addr) (fs:List (Str×V))
 | own (x:Addr)
 | xd (fs:List (Str×V))
 | met (f x:Addr)
 | rng (lo hi:Int)
 | frz (o:Obj) (u:HO)
 | tbl (ps:Array Value)
 | ext (φ:Heap->Prop)
abbrev Hp:=Addr->Option HO
def upd (H:Hp)(a:Addr)(o:HO):Hp:=fun b=>if b=a then some o else H b
theorem zE {H:Hp}{a:Addr}{o:HO}:upd H a o a=some o:=by unfold upd;rw [if_pos rfl]
theorem zn {H:Hp}{a b:Addr}{o:HO}(h:b≠a):upd H a o b=H b:=by unfold upd;rw [if_neg h]
theorem zr {H:Hp}{a b:Addr}{o:HO}(h:H a=some o)(h':H b=none):a≠b:=by
 intro e;subst e;rw [h] at h';cases h'
section
variable (P:Program)(w:World)
def ObjOk (H:Hp)(h:Heap)(a:Addr):HO->Prop
 | .lst xs=>xs.length<=sizeLine/\∃(its:List Value) (n:Nat),Vals xs its/\h.get? a=some { cls:=.type "list",data:=.seq its.toArray n }
 | .tup xs=>xs.length<=sizeLine/\∃its:List Value,Vals xs its/\IsTup h a its.toArray
 | .dK kvs=>kvs.length<=sizeLine/\(a == sysModules)=false/\∃vs,KV kvs vs/\h.DictOf (mixKind P w) a vs
 | .dT kvs=>kvs.length<=sizeLine/\(a == sysModules)=false/\∃xs:List (List Key×Addr×Value),
   Paired (fun (p:List Key×V) (q:List Key×Addr×Value)=>p.1=q.1/\H q.2.1=some (.tup (p.1.map kV))/\RelV p.2 q.2.2) kvs xs /\
   ∃o es ep,h.get? a=some o/\o.ExactDict/\o.data=.dict es ep/\es.toList=xs.map (entryOfKey (tupleKind (mixKind P w)))/\(xs.map (·.1)).Nodup
 | .set S n=>h.SetOf (intKind P w) a S n
 | .ins C dx fs=>H dx=some (.own a)/\fs.length<=1000/\dx≠a/\h.get? a=some (PySem.W.instObj C dx) /\
   ∃mA,h.Ns1 dx mA/\(∀f,RelO (fs.lookup f) (mA f))/\PySem.Within mA (fs.map (·.1))
 | .own _=>∃o,h.get? a=some o
 | .xd fs=>∃mA,h.Ns1 a mA/\∀f,RelO (fs.lookup f) (mA f)
 | .rng lo hi=>∃t u v,h.get? a=some { cls:=.type "range",data:=.fields #[.int lo t,.int hi u,.int 1 v] }
 | .frz o u=>h.get? a=some o/\ObjOk H h a u
 | .tbl ps=>h.get? a=some { cls:=.none,data:=.fields ps }
 | .met f x=>h.get? a=some (PySem.W.methodObj (.ref f) (.ref x))
 | .ext φ=>φ h/\(∃o,h.get? a=some o)/\∀h1 h2:Heap,φ h1->(∀o,h1.get? a=some o->h2.get? a=some o)->φ h2
def HOk (H:Hp)(h:Heap):Prop:=∀a o,H a=some o->ObjOk P w H h a o
end
section
variable {P:Program}{w:World}{H H':Hp}{h h':Heap}{a:Addr}{o:HO}
theorem ObjOk.lt (x:ObjOk P w H h a o):a<h.objs.size:=by
 cases o with
 |lst xs=>obtain ⟨_,_,_,_,e⟩:=x;exact Heap.lt_size e
 |tup xs=>obtain ⟨_,_,_,p⟩:=x;exact p.lt
 |dK kvs=>obtain ⟨_,_,_,_,o,_,_,e,_⟩:=x;exact Heap.lt_size e
 |dT kvs=>obtain ⟨_,_,_,_,o,_,_,e,_⟩:=x;exact Heap.lt_size e
 |set S n=>obtain ⟨o,_,_,_,e,_⟩:=x;exact Heap.lt_size e
 |ins C dx fs=>obtain ⟨_,_,_,e,_⟩:=x;exact Heap.lt_size e
 |own y=>obtain ⟨_,e⟩:=x;exact Heap.lt_size e
 |xd fs=>obtain ⟨_,⟨_,_,_,e,_⟩,_⟩:=x;exact Heap.lt_size e
 |rng lo hi=>obtain ⟨_,_,_,e⟩:=x;exact Heap.lt_size e
 |frz ob u=>obtain ⟨e,_⟩:=x;exact Heap.lt_size e
 |tbl ps=>exact Heap.lt_size (show h.get? a=some _ from x)
 |met f y=>exact Heap.lt_size (show h.get? a=some _ from x)
 |ext φ=>obtain ⟨_,⟨_,e⟩,_⟩:=x;exact Heap.lt_size e
theorem Paired.mapP {α β:Type}{F G:α->β->Prop}:∀{l₁:List α} {l₂:List β},Paired F l₁ l₂->(∀a b,F a b->G a b)->Paired G l₁ l₂
 |_,_,.nil,_=>.nil
 |_,_,.cons r t,f=>.cons (f _ _ r) (Paired.mapP t f)
theorem ObjOk.stay (x:ObjOk P w H h a o)(k:∀b u,(b=a \/ H b=some (.own a))->h.get? b=some u->h'.get? b=some u)
  (ho:∀b,H b=some (.own a)->H' b=some (.own a)) (ht:∀b xs,H b=some (.tup xs)->H' b=some (.tup xs)):ObjOk P w H' h' a o:=by
 induction o with
 |lst xs=>obtain ⟨z,its,n,r,e⟩:=x;exact ⟨z,its,n,r,k _ _ (.inl rfl) e⟩
 |tup xs=>obtain ⟨z,its,r,ob,e,c⟩:=x;exact ⟨z,its,r,ob,k _ _ (.inl rfl) e,c⟩
 |dK kvs=>obtain ⟨z,y,vs,r,ob,es,ep,e,c⟩:=x;exact ⟨z,y,vs,r,ob,es,ep,k _ _ (.inl rfl) e,c⟩
 |dT kvs =>
  obtain ⟨z,y,xs,r,ob,es,ep,e,c⟩:=x
  exact ⟨z,y,xs,Paired.mapP r fun p q z=>⟨z.1,ht _ _ z.2.1,z.2.2⟩,ob,es,ep,k _ _ (.inl rfl) e,c⟩
 |set S n=>obtain ⟨ob,es,ep,t,e,c⟩:=x;exact ⟨ob,es,ep,t,k _ _ (.inl rfl) e,c⟩
 |ins C dx fs =>
  obtain ⟨d,z,ne,e,mA,⟨od,es,ep,e2,c⟩,r⟩:=x
  exact ⟨ho _ d,z,ne,k _ _ (.inl rfl) e,mA,⟨od,es,ep,k _ _ (.inr d) e2,c⟩,r⟩
 |own y=>obtain ⟨ob,e⟩:=x;exact ⟨ob,k _ _ (.inl rfl) e⟩
 |xd fs=>obtain ⟨mA,⟨od,es,ep,e,c⟩,r⟩:=x;exact ⟨mA,⟨od,es,ep,k _ _ (.inl rfl) e,c⟩,r⟩
 |rng lo hi=>obtain ⟨t,u,v,e⟩:=x;exact ⟨t,u,v,k _ _ (.inl rfl) e⟩
 |frz ob u ih=>obtain ⟨e,q⟩:=x;exact ⟨k _ _ (.inl rfl) e,ih q⟩
 |tbl ps =>
  have e:h.get? a=some { cls:=.none,data:=.fields ps }:=x
  show h'.get? a=some { cls:=.none,data:=.fields ps }
  exact k a _ (.inl rfl) e
 |met f y =>
  have e:h.get? a=some (PySem.W.methodObj (.ref f) (.ref y)):=x
  show h'.get? a=some (PySem.W.methodObj (.ref f) (.ref y))
  exact k a _ (.inl rfl) e
 |ext φ=>obtain ⟨p,⟨o,e⟩,st⟩:=x;exact ⟨st _ _ p fun o q=>k _ _ (.inl rfl) q,⟨o,k _ _ (.inl rfl) e⟩,st⟩
theorem HOk.lt (x:HOk P w H h)(e:H a=some o):a<h.objs.size:=(x a o e).lt
theorem HOk.fresh (x:HOk P w H h)(e:h.objs.size<=a):H a=none:=by
 cases q:H a with
 |none=>rfl
 |some u=>exact absurd (Nat.lt_of_lt_of_le (x.lt q) e) (Nat.lt_irrefl _)
theorem HOk.kept (x:HOk P w H h)(k:∀b u,h.get? b=some u->h'.get? b=some u):HOk P w H h':=fun a o e =>
 (x a o e).stay (fun b u _ q=>k b u q) (fun _ q=>q) fun _ _ q=>q
theorem HOk.laid (x:HOk P w H h)(k:∀b u,h.get? b=some u->h'.get? b=some u)(hp:h.objs.size<=a)(new:ObjOk P w (upd H a o) h' a o):HOk P w (upd H a o) h':=fun b u e=>by
 have hn:=x.fresh hp
 by_cases hb:b=a
 ·subst hb;rw [zE] at e;cases e;exact new
 ·rw [zn hb] at e
  exact (x b u e).stay (fun c v _ q=>k c v q) (fun c q=>by rw [zn (zr q hn)];exact q) fun c xs q=>by rw [zn (zr q hn)];exact q
end
def Rd (H:Hp)(a:Addr)(u:HO):Prop:=H a=some u \/ ∃o,H a=some (.frz o u)
theorem Rd.of {H:Hp}{a:Addr}{u:HO}(h:H a=some u):Rd H a u:=.inl h
theorem Rd.ok {P:Program}{w:World}{H:Hp}{h:Heap}{a:Addr}{u:HO}(r:Rd H a u)(x:HOk P w H h):ObjOk P w H h a u:=by
 rcases r with r|⟨o,r⟩
 ·exact x a u r
 ·obtain ⟨_,q⟩:=x a _ r
  exact q
def Mut:Option HO->Prop
 |some (.lst _)=>True
 |some (.dK _)=>True
 |some (.dT _)=>True
 |some (.set _ _)=>True
 |some (.ins _ _ _)=>True
 |some (.ext _)=>True
 |_=>False
section
variable {P:Program}{w:World}{H:Hp}{h h':Heap}{x e:Addr}{o':HO}
theorem HOk.write (ok:HOk P w H h)(mu:Mut (H x))(he:e=x \/ H e=some (.own x))(k:∀b u,b≠e->h.get? b=some u->h'.get? b=some u)(heo:∃u,h'.get? e=some u)
  (new:ObjOk P w (upd H x o') h' x o'):HOk P w (upd H x o') h':=fun b u q=>by
 have nown:∀c y,H c=some (.own y)->c≠x:=fun c y r z=>by subst z;rw [r] at mu;exact mu
 have ntup:∀c xs,H c=some (.tup xs)->c≠x:=fun c xs r z=>by subst z;rw [r] at mu;exact mu
 by_cases hb:b=x
 ·subst hb;rw [zE] at q;cases q;exact new
 ·rw [zn hb] at q
  by_cases hbe:b=e
  ·have q':H b=some (.own x):=by
    rcases he with z|z
    ·exact absurd (hbe.trans z) hb
    ·rw [hbe];exact z
   rw [q] at q';cases q'
   obtain ⟨v,hv⟩:=heo
   exact ⟨v,by rw [hbe];exact hv⟩
  ·refine (ok b u q).stay (fun c v hc r=>k c v ?_ r) (fun c r=>by rw [zn (nown c b r)];exact r) fun c xs r=>by rw [zn (ntup c xs r)];exact r
   rcases hc with rfl|hc
   ·exact hbe
   ·rintro rfl
    rcases he with z|z
    ·exact nown c b hc z
    ·rw [hc] at z;cases z;exact hb rfl
end
structure Un (fs ex:List Addr)(H H':Hp)(h h':Heap):Prop where
 keep:∀b o,h.get? b=some o->H b=none->b∉fs->b∉ex->h'.get? b=some o
 slot:∀b o,h.get? b=some o->H b=none->b∈fs->b∉ex->∃sl,h'.get? b=some { o with slots:=sl }
 free:∀b o,h.get? b=some o->H b=none->b∉ex->H' b=none
 there:∀b o,h.get? b=some o->b∉ex->∃o',h'.get? b=some o'
 tups:∀b xs,H b=some (.tup xs)->H' b=some (.tup xs)
 frzs:∀b o u,H b=some (.frz o u)->H' b=some (.frz o u)
 tbls:∀b ps,H b=some (.tbl ps)->∃more,H' b=some (.tbl (ps++more))
section
variable {fs fs' ex ex':List Addr}{H H1 H2:Hp}{h h1 h2 h':Heap}{a x e:Addr}{o:HO}
theorem Un.any (u:Un fs ex H H1 h h1){b:Addr}{ob:Obj}(q:h.get? b=some ob)(n:H b=none)(hx:b∉ex):∃sl,h1.get? b=some { ob with slots:=sl }:=by
 by_cases hb:b∈fs
 ·exact u.slot b ob q n hb hx
 ·exact ⟨ob.slots,u.keep b ob q n hb hx⟩
theorem Un.kept (k:∀b u,h.get? b=some u->h'.get? b=some u):Un fs ex H H h h' :=
 ⟨fun b ob q _ _ _=>k b ob q,fun b ob q _ _ _=>⟨ob.slots,k b ob q⟩,fun _ _ _ n _=>n,fun b ob q _=>⟨ob,k b ob q⟩,fun _ _ q=>q,fun _ _ _ q=>q,fun _ ps q=>⟨#[],by rw [q];simp⟩⟩
theorem Un.refl:Un fs ex H H h h:=Un.kept fun _ _ q=>q
theorem Un.laid (k:∀b u,h.get? b=some u->h'.get? b=some u)(hp:h.objs.size<=a)(hn:H a=none):Un fs ex H (upd H a o) h h' where
 keep:=fun b u q _ _ _=>k b u q
 slot:=fun b u q _ _ _=>⟨u.slots,k b u q⟩
 free:=fun b u q n _=>by rw [zn (Nat.ne_of_lt (Nat.lt_of_lt_of_le (Heap.lt_size q) hp))];exact n
 there:=fun b u q _=>⟨u,k b u q⟩
 tups:=fun b xs q=>by rw [zn (zr q hn)];exact q
 frzs:=fun b u xs q=>by rw [zn (zr q hn)];exact q
 tbls:=fun b ps q=>⟨#[],by rw [zn (zr q hn),q];simp⟩
theorem Un.write (mu:Mut (H x))(he:e=x \/ H e=some (.own x))(k:∀b u,b≠e->h.get? b=some u->h'.get? b=some u)(heo:∃u,h'.get? e=some u):Un fs ex H (upd H x o) h h':=by
 have hx:∀b,H b=none->b≠x:=fun b n z=>by subst z;rw [n] at mu;exact mu
 have hb:∀b,H b=none->b≠e:=fun b n z=>by
  subst z
  rcases he with r|r
  ·exact hx b n r
  ·rw [n] at r;cases r
 have hm:∀b u,H b=some u->¬Mut (some u)->b≠x:=fun b u q nm z=>by subst z;rw [q] at mu;exact nm mu
 refine ⟨fun b u q n _ _=>k b u (hb b n) q,fun b u q n _ _=>⟨u.slots,k b u (hb b n) q⟩,fun b u q n _=>by rw [zn (hx b n)];exact n,fun b u q _=>?_,
  fun b xs q=>by rw [zn (hm b _ q fun z=>z)];exact q,fun b u xs q=>by rw [zn (hm b _ q fun z=>z)];exact q,fun b ps q=>⟨#[],by rw [zn (hm b _ q fun z=>z),q];simp⟩⟩
 by_cases hbe:b=e
 ·subst hbe;exact heo
 ·exact ⟨u,k b u hbe q⟩
end
def trk (h:Heap)(H:Hp):List Addr:=(List.range h.objs.size).filter fun a=>(H a).isSome
def hidT (h:Heap)(H:Hp):Heap:=PySem.W.hideAll h (trk h H)
theorem zgL (h:Heap)(H:Hp):(hidT h H).objs.size=h.objs.size:=PySem.W.hideAll_size _ _
theorem zi1 {h:Heap}{H:Hp}{b:Addr}{o:Obj}(e:h.get? b=some o)(n:H b=none):(hidT h H).get? b=some o :=
 PySem.W.hideAll_get _ e fun hm=>by
  have q:(H b).isSome=true:=(List.mem_filter.mp hm).2
  rw [n] at q;simp at q
theorem zj6 {h:Heap}{H:Hp}{b:Addr}{o:Obj}(e:(hidT h H).get? b=some o):h.get? b=some o/\H b=none:=by
 have e':h.get? b=some o:=PySem.W.of_hideAll (trk h H) e
 refine ⟨e',?_⟩
 cases q:H b with
 |none=>rfl
 |some x =>
  have hm:b∈trk h H:=List.mem_filter.mpr ⟨List.mem_range.mpr (Heap.lt_size e'),by simp [q]⟩
  have z:(hidT h H).get? b=none:=PySem.W.hideAll_none (trk h H) hm
  rw [z] at e;cases e
structure Mod (K:PySem.W.Frag)(mg:Str->Option Value)(base:Heap):Prop where
 kin:K.In base
 glob:base.Ns mainGlobals mg
 blt:∃mb,base.Ns builtinsNs mb/\∀x:Str,x ≠ "__name__"->mb x=bootBuiltins x
 nolimit:base.NoLimit
structure Cx where
 prog:Program
 w:World
 K:PySem.W.Frag
 mg:Str->Option Value
 base:Heap
 A:Around
 N:List Str
 s₀:Shared
 H₀:Hp
 env:Env
 outer:List Env
 stack:List Env
 ex:List Addr
 fn:Str->Bool
 calm:Bool
 pn:List (Addr×Obj)
 xe:Value->Shared->Prop
def frs (l:List Env):List Addr:=l.filterMap (·.frame)
abbrev Cx.fs (X:Cx):List Addr:=frs X.outer
def Vis (sc:Scope)(x:Str):Prop:=sc.names.lookup x=some .local \/ sc.names.lookup x=some .cell \/ sc.names.lookup x=some .free
def Loc (sc:Scope)(x:Str):Prop:=sc.names.lookup x=some .local \/ sc.names.lookup x=some .cell
def Look (env:Env)(h:Heap)(m:Str->Option Value)(x:Str)(u:Value):Prop :=
 (env.kindOf x=some .local/\m x=some u) \/ ((env.kindOf x=some .cell \/ env.kindOf x=some .free)/\∃c,env.cells.lookup x=some c/\h.IsCell c (some u))
structure Cx.Ok (X:Cx):Prop where
 mod:Mod X.K X.mg X.base
 kind:X.env.scope.kind=.function
 glob:X.env.globals=mainGlobals
 blt:X.env.builtins=builtinsNs
 above:X.s₀.heap.objs.size<=X.env.locals
 inj:∀x y c,X.env.cells.lookup x=some c->X.env.cells.lookup y=some c->x=y
 has:∀x,(X.env.kindOf x=some .cell \/ X.env.kindOf x=some .free)->∃c,X.env.cells.lookup x=some c
 cab:∀x c,X.fn x=true->X.env.cells.lookup x=some c->X.s₀.heap.objs.size<=c
 hd:X.calm=true->X.A.handled=none
 frames:X.A.frames=some X.stack
 stk:X.stack=X.outer \/ (X.stack=X.env::X.outer/\X.env.frame=some X.env.locals)
 exf:∀b∈X.ex,b≠X.env.locals/\∀x c,X.env.cells.lookup x=some c->c≠b
 bs:∀b o,X.base.get? b=some o->X.s₀.heap.get? b=some o/\X.H₀ b=none
 bsz:X.base.objs.size<=X.s₀.heap.objs.size
 noex:∀b o,X.base.get? b=some o->b∉X.ex
 exfs:∀b∈X.ex,b∉X.fs
 funs:X.s₀.heap.FunFrames X.base X.outer
 frf:∀b∈X.fs,X.H₀ b=none
structure Inv (X:Cx)(pins:List (Addr×Obj))(σ:List (Option V))(H:Hp)(s:Shared):Prop where
 ok:X.Ok
 os:s.os=X.s₀.os
 bare:AllBare s.gens
 base:Un X.fs X.ex X.H₀ H X.s₀.heap s.heap
 loc:∃m,s.heap.Ns X.env.locals m/\∀(i:Nat) (x:Str) (v:V),X.N[i]?=some x->σ[i]?=some (some v)->Vis X.env.scope x->∃u,RelV v u/\Look X.env s.heap m x u
 cell:∀x c,X.env.cells.lookup x=some c->∃v,s.heap.IsCell c v
 free:H X.env.locals=none
 freeC:∀x c,X.env.cells.lookup x=some c->H c=none
 pin:∀p∈X.pn++pins,s.heap.get? p.1=some p.2/\H p.1=none/\p.1≠X.env.locals/\p.1∉X.fs/\∀v,p.2.data ≠ .cell v
 hok:HOk X.prog X.w H s.heap
 len:σ.length=X.N.length
section
variable {X:Cx}{pins:List (Addr×Obj)}{σ:List (Option V)}{H H':Hp}{s:Shared}{h':Heap}
theorem Cx.Ok.nofr (ok:X.Ok){b:Addr}{o:Obj}(e:X.base.get? b=some o):b∉X.fs:=fun hb=>by
 have:=(ok.funs.mem hb).1
 rw [e] at this;cases this
theorem Inv.bs (I:Inv X pins σ H s):∀b o,X.base.get? b=some o->s.heap.get? b=some o/\H b=none:=fun b o e =>
 ⟨I.base.keep b o (I.ok.bs b o e).1 (I.ok.bs b o e).2 (I.ok.nofr e) (I.ok.noex b o e),I.base.free b o (I.ok.bs b o e).1 (I.ok.bs b o e).2 (I.ok.noex b o e)⟩
theorem Inv.bk (I:Inv X pins σ H s):∀b o,X.base.get? b=some o->s.heap.get? b=some o:=fun b o e=>(I.bs b o e).1
theorem Inv.mod (I:Inv X pins σ H s):Mod X.K X.mg X.base:=I.ok.mod
theorem Inv.kIn (I:Inv X pins σ H s):X.K.In s.heap:=I.ok.mod.kin.keeps I.bk
theorem Inv.lt (I:Inv X pins σ H s):X.env.locals<s.heap.objs.size:=let ⟨_,hn,_⟩:=I.loc;hn.lt
theorem Inv.sz (I:Inv X pins σ H s):X.s₀.heap.objs.size<=s.heap.objs.size:=Nat.le_trans I.ok.above (Nat.le_of_lt I.lt)
theorem Inv.nofs (I:Inv X pins σ H s){a:Addr}(h:s.heap.objs.size<=a):a∉X.fs:=fun hb=>by
 obtain ⟨_,o,ho,_⟩:=I.ok.funs.mem hb
 exact absurd (Nat.lt_of_lt_of_le (Heap.lt_size ho) (Nat.le_trans I.sz h)) (Nat.lt_irrefl _)
theorem Inv.cne (I:Inv X pins σ H s):∀x c,X.env.cells.lookup x=some c->c≠X.env.locals:=fun x c e z=>by
 obtain ⟨v,o,ho,hd⟩:=I.cell x c e
 obtain ⟨m,⟨o',es,ep,ho',hd',_⟩,_⟩:=I.loc
 rw [z,ho'] at ho;cases ho;rw [hd'] at hd;cases hd
theorem Inv.funs (I:Inv X pins σ H s):s.heap.FunFrames X.base X.outer:=by
 have all:∀(l:List Env),(∀b∈frs l,b∈X.fs)->X.s₀.heap.FunFrames X.base l->s.heap.FunFrames X.base l:=by
  intro l
  induction l with
  |nil=>intro _ _;trivial
  |cons env r ih =>
   intro hs hl
   obtain ⟨hk,⟨L,o,hf,hn,ho,hd⟩,hr⟩:=hl
   have hL:L∈X.fs:=hs L (by unfold frs;rw [List.filterMap_cons,hf];exact List.mem_cons_self)
   obtain ⟨sl,e⟩:=I.base.slot L o ho (I.ok.frf L hL) hL fun z=>I.ok.exfs L z hL
   exact ⟨hk,⟨L,_,hf,hn,e,hd⟩,ih (fun b hb=>hs b (by unfold frs;rw [List.filterMap_cons,hf];exact List.mem_cons_of_mem _ hb)) hr⟩
 exact all X.outer (fun _ hb=>hb) I.ok.funs
theorem Inv.stack (I:Inv X pins σ H s):s.heap.FunFrames X.base X.stack:=by
 rcases I.ok.stk with e|⟨e,hf⟩
 ·rw [e];exact I.funs
 ·rw [e]
  obtain ⟨m,hn,_⟩:=I.loc
  refine .cons (by rw [I.ok.kind];decide) hf hn ?_ I.funs
  exact Heap.get?_none_of_le (Nat.le_trans I.ok.bsz I.ok.above)
theorem Inv.stkSub (I:Inv X pins σ H s):∀b∈frs X.stack,b∈X.env.locals::X.fs:=fun b hb=>by
 rcases I.ok.stk with e|⟨e,hf⟩
 ·rw [e] at hb;exact List.mem_cons_of_mem _ hb
 ·rw [e] at hb
  unfold frs at hb
  rw [List.filterMap_cons,hf] at hb
  exact hb
theorem Inv.stkFree (I:Inv X pins σ H s):∀b∈frs X.stack,H b=none:=fun b hb=>by
 rcases List.mem_cons.mp (I.stkSub b hb) with e|hb
 ·rw [e];exact I.free
 ·obtain ⟨_,o,ho,_⟩:=I.ok.funs.mem hb
  exact I.base.free b o ho (I.ok.frf b hb) fun z=>I.ok.exfs b z hb
theorem Inv.step {g':Array GenState}{t':Nat}{d':Drawn}{ch:List Addr}(I:Inv X pins σ H s)
  (hch:∀b∈ch,(b∈X.ex \/ X.s₀.heap.objs.size<=b)/\b≠X.env.locals/\(∀x c,X.env.cells.lookup x=some c->c≠b)/\∀p∈X.pn++pins,p.1≠b)
  (keep:∀b o,b≠X.env.locals->b∉X.fs->b∉ch->s.heap.get? b=some o->H b=none->h'.get? b=some o)
  (slot:∀b o,b≠X.env.locals->b∈X.fs->b∉ch->s.heap.get? b=some o->H b=none->∃sl,h'.get? b=some { o with slots:=sl }) (free:∀b o,b∉ch->s.heap.get? b=some o->H b=none->H' b=none)
  (there:∀b o,b∉ch->s.heap.get? b=some o->∃o',h'.get? b=some o')
  (tups:∀b xs,H b=some (.tup xs)->H' b=some (.tup xs)) (frzs:∀b o u,H b=some (.frz o u)->H' b=some (.frz o u)) (tbls:∀b ps,H b=some (.tbl ps)->∃more,H' b=some (.tbl (ps++more)))
  (ns:∀m,s.heap.Ns X.env.locals m->h'.Ns X.env.locals m) (hok:HOk X.prog X.w H' h') (hg:AllBare g') :
  Inv X pins σ H' { s with heap:=h',gens:=g',drawn:=d',toks:=t' }:=by
 have neL:∀b o,X.s₀.heap.get? b=some o->b≠X.env.locals:=fun b o e=>Nat.ne_of_lt (Nat.lt_of_lt_of_le (Heap.lt_size e) I.ok.above)
 have neC:∀b o,X.s₀.heap.get? b=some o->b∉X.ex->b∉ch:=fun b o e hx hb=>by
  rcases (hch b hb).1 with z|z
  ·exact hx z
  ·exact absurd (Nat.lt_of_lt_of_le (Heap.lt_size e) z) (Nat.lt_irrefl _)
 have cellK:∀x c,X.env.cells.lookup x=some c->∀v,s.heap.IsCell c v->h'.IsCell c v:=fun x c e v ⟨o,ho,hd⟩=>by
  have nch:c∉ch:=fun z=>(hch c z).2.2.1 x c e rfl
  by_cases hc:c∈X.fs
  ·obtain ⟨sl,q⟩:=slot c o (I.cne x c e) hc nch ho (I.freeC x c e)
   exact ⟨_,q,hd⟩
  ·exact ⟨o,keep c o (I.cne x c e) hc nch ho (I.freeC x c e),hd⟩
 refine ⟨I.ok,I.os,hg,⟨fun b o e n hb hx=>?_,fun b o e n hb hx=>?_,fun b o e n hx=>?_,fun b o e hx=>?_,fun b xs e=>tups b xs (I.base.tups b xs e),fun b o xs e=>frzs b o xs (I.base.frzs b o xs e),fun b ps e=>?_⟩,?_,fun x c e=>?_,?_,fun x c e=>?_,fun p hp=>?_,hok,I.len⟩
 ·exact keep b o (neL b o e) hb (neC b o e hx) (I.base.keep b o e n hb hx) (I.base.free b o e n hx)
 ·obtain ⟨sl,e1⟩:=I.base.slot b o e n hb hx
  obtain ⟨sl',e2⟩:=slot b _ (neL b o e) hb (neC b o e hx) e1 (I.base.free b o e n hx)
  exact ⟨sl',e2⟩
 ·obtain ⟨o',e1⟩:=I.base.there b o e hx
  exact free b o' (neC b o e hx) e1 (I.base.free b o e n hx)
 ·obtain ⟨o',e1⟩:=I.base.there b o e hx
  exact there b o' (neC b o e hx) e1
 ·obtain ⟨m1,e1⟩:=I.base.tbls b ps e
  obtain ⟨m2,e2⟩:=tbls b _ e1
  exact ⟨m1++m2,by rw [e2,Array.append_assoc]⟩
 ·obtain ⟨m,hn,hl⟩:=I.loc
  refine ⟨m,ns m hn,fun i x v e1 e2 e3=>?_⟩
  obtain ⟨u,r,l⟩:=hl i x v e1 e2 e3
  refine ⟨u,r,?_⟩
  rcases l with l|⟨k,c,e,z⟩
  ·exact .inl l
  ·exact .inr ⟨k,c,e,cellK x c e _ z⟩
 ·obtain ⟨v,z⟩:=I.cell x c e
  exact ⟨v,cellK x c e v z⟩
 ·obtain ⟨m,⟨o,_,_,ho,_⟩,_⟩:=I.loc
  exact free _ o (fun z=>(hch _ z).2.1 rfl) ho I.free
 ·obtain ⟨v,o,ho,hd⟩:=I.cell x c e
  exact free c o (fun z=>(hch c z).2.2.1 x c e rfl) ho (I.freeC x c e)
 ·obtain ⟨e,n,ne,nf,d⟩:=I.pin p hp
  have nch:p.1∉ch:=fun z=>(hch p.1 z).2.2.2 p hp rfl
  exact ⟨keep p.1 p.2 ne nf nch e n,free p.1 p.2 nch e n,ne,nf,d⟩
theorem Inv.un {t':Nat}(I:Inv X pins σ H s)(u:Un X.fs [] H H' s.heap h')(hok:HOk X.prog X.w H' h'):Inv X pins σ H' { s with heap:=h',toks:=t' }:=by
 obtain ⟨m,⟨o,es,ep,ho,r⟩,_⟩:=id I.loc
 obtain ⟨sl,hL⟩:=u.any ho I.free (by simp)
 exact I.step (g':=s.gens) (d':=s.drawn) (ch:=[]) (fun _ z=>nomatch z) (fun b o _ hb _ e n=>u.keep b o e n hb (by simp)) (fun b o _ hb _ e n=>u.slot b o e n hb (by simp)) (fun b o _ e n=>u.free b o e n (by simp)) (fun b o _ e=>u.there b o e (by simp)) u.tups u.frzs u.tbls (fun m' hm=>by
  obtain ⟨o',es',ep',ho',r'⟩:=hm
  rw [ho] at ho';cases ho'
  exact ⟨_,es',ep',hL,r'⟩) hok I.bare
theorem Inv.call {g':Array GenState}{t':Nat}{d':Drawn}{ch:List Addr}(I:Inv X pins σ H s)(u:Un (frs X.stack) ch H H' s.heap h')(hok:HOk X.prog X.w H' h')(hg:AllBare g')
  (hch:∀b∈ch,(b∈X.ex \/ X.s₀.heap.objs.size<=b)/\b≠X.env.locals/\(∀x c,X.env.cells.lookup x=some c->c≠b)/\∀p∈X.pn++pins,p.1≠b) :
  Inv X pins σ H' { s with heap:=h',gens:=g',drawn:=d',toks:=t' }:=by
 obtain ⟨m,⟨o,es,ep,ho,r⟩,_⟩:=id I.loc
 obtain ⟨sl,hL⟩:=u.any ho I.free fun z=>(hch _ z).2.1 rfl
 exact I.step (ch:=ch) hch (fun b o hL hb hc e n=>u.keep b o e n (fun z=>(List.mem_cons.mp (I.stkSub b z)).elim hL hb) hc) (fun b o _ _ hc e n=>u.any e n hc) (fun b o hc e n=>u.free b o e n hc) (fun b o hc e=>u.there b o e hc) u.tups u.frzs u.tbls (fun m' hm=>by
  obtain ⟨o',es',ep',ho',r'⟩:=hm
  rw [ho] at ho';cases ho'
  exact ⟨_,es',ep',hL,r'⟩) hok hg
theorem Inv.turned {t':Nat}{it:Addr}(I:Inv X pins σ H s)(k:∀b o,b≠it->s.heap.get? b=some o->h'.get? b=some o)(hn:H it=none)(hL:it≠X.env.locals)
  (h1:it∈X.ex \/ X.s₀.heap.objs.size<=it) (h2:∀x c,X.env.cells.lookup x=some c->c≠it) (h3:∀p∈X.pn++pins,p.1≠it):Inv X pins σ H { s with heap:=h',toks:=t' }:=by
 have nit:∀b u,H b=some u->b≠it:=fun b u e z=>by rw [z,hn] at e;cases e
 refine I.step (g':=s.gens) (d':=s.drawn) (ch:=[it]) (fun b hb=>?_) (fun b o _ _ hc e _=>k b o (fun z=>hc (by simp [z])) e) (fun b o _ _ hc e _=>⟨o.slots,k b o (fun z=>hc (by simp [z])) e⟩) (fun _ _ _ _ n=>n)
  (fun b o hc e=>⟨o,k b o (fun z=>hc (by simp [z])) e⟩) (fun _ _ e=>e) (fun _ _ _ e=>e) (fun b ps e=>⟨#[],by rw [e];simp⟩) (fun m hm=>?_) (fun b u e=>?_) I.bare
 ·have e:b=it:=by simpa using hb
  subst e
  exact ⟨h1,hL,h2,h3⟩
 ·obtain ⟨o,es,ep,ho,r⟩:=hm
  exact ⟨o,es,ep,k _ o (Ne.symm hL) ho,r⟩
 ·refine (I.hok b u e).stay (fun c v hc q=>k c v ?_ q) (fun _ q=>q) fun _ _ q=>q
  rcases hc with z|z
  ·rw [z];exact nit b u e
  ·exact nit c _ z
theorem Inv.tok (I:Inv X pins σ H s)(t:Nat):Inv X pins σ H { s with toks:=t }:=I.un (h':=s.heap) (t':=t) Un.refl I.hok
theorem Inv.kept {t':Nat}(I:Inv X pins σ H s)(k:∀b u,s.heap.get? b=some u->h'.get? b=some u):Inv X pins σ H { s with heap:=h',toks:=t' }:=I.un (Un.kept k) (I.hok.kept k)
theorem Inv.laid {a:Addr}{o:HO}{t':Nat}(I:Inv X pins σ H s)(k:∀b u,s.heap.get? b=some u->h'.get? b=some u)(hp:s.heap.objs.size<=a)(new:ObjOk X.prog X.w (upd H a o) h' a o) :
  Inv X pins σ (upd H a o) { s with heap:=h',toks:=t' }:=I.un (Un.laid k hp (I.hok.fresh hp)) (I.hok.laid k hp new)
theorem Inv.write {x e:Addr}{o:HO}{t':Nat}(I:Inv X pins σ H s)(mu:Mut (H x))(he:e=x \/ H e=some (.own x))(k:∀b u,b≠e->s.heap.get? b=some u->h'.get? b=some u)(heo:∃u,h'.get? e=some u)
  (new:ObjOk X.prog X.w (upd H x o) h' x o):Inv X pins σ (upd H x o) { s with heap:=h',toks:=t' }:=I.un (Un.write mu he k heo) (I.hok.write mu he k heo new)
theorem Inv.pins_of {pins':List (Addr×Obj)}(I:Inv X pins σ H s)(h:∀p∈pins',s.heap.get? p.1=some p.2/\H p.1=none/\p.1≠X.env.locals/\p.1∉X.fs/\∀v,p.2.data ≠ .cell v):Inv X pins' σ H s :=
 ⟨I.ok,I.os,I.bare,I.base,I.loc,I.cell,I.free,I.freeC,fun p hp=>(List.mem_append.mp hp).elim (fun z=>I.pin p (List.mem_append_left _ z)) (h p),I.hok,I.len⟩
theorem zfQ {N:List Str}(hN:N.Nodup){i j:Nat}{x:Str}(a:N[i]?=some x)(b:N[j]?=some x):i=j:=by
 obtain ⟨h1,e1⟩:=List.getElem?_eq_some_iff.mp a
 obtain ⟨h2,e2⟩:=List.getElem?_eq_some_iff.mp b
 exact (List.getElem_inj hN).mp (e1.trans e2.symm)
theorem zhc {M:Model}{A:Around}{E:Value->Shared->Prop}{i:Nat}{x:Str}{v:V}{u:Value}{Q:Unit->Shared->Prop}(I:Inv X pins σ H s)(hN:X.N.Nodup)(hi:X.N[i]?=some x)(hx:Loc X.env.scope x)(r:RelV v u)
  (h:∀s',Inv X pins (σ.set i (some v)) H s'->(∃a,Heap.SameBut a s.heap s'.heap/\(a=X.env.locals \/ X.env.cells.lookup x=some a))->Q () s') (hf:X.fn x=true \/ X.env.scope.names.lookup x=some .local:=by first|exact .inl rfl|exact .inr rfl|assumption):wpAny M A (storeName X.env x u) Q E s:=by
 obtain ⟨m,hn,hl⟩:=id I.loc
 have hcls:(X.env.scope.kind == .class || (X.env.scope.kind == .module && X.env.locals != X.env.globals))=false:=by rw [I.ok.kind];rfl
 have hiσ:i<σ.length:=by rw [I.len];exact (List.getElem?_eq_some_iff.mp hi).1
 have cne:=I.cne
 have tracked:∀{a:Addr} {h':Heap},(∃o,s.heap.get? a=some o/\H a=none)->Heap.SameBut a s.heap h'->HOk X.prog X.w H h':=fun {a h'} ha hs b ob e=>by
  obtain ⟨_,_,hfree⟩:=ha
  refine (I.hok b ob e).stay (fun c w' hc q=>(hs.2 c ?_).trans q) (fun _ q=>q) fun _ _ q=>q
  rintro rfl
  rcases hc with rfl|hc
  ·rw [hfree] at e;cases e
  ·rw [hfree] at hc;cases hc
 rcases hx with hk|hk
 ·refine wpAny_storeName_local hk hn (fun h' hn' hs=>?_) hcls
  obtain ⟨oL,_,_,hoL,_⟩:=id hn
  refine h _ ⟨I.ok,I.os,I.bare,⟨fun b o e n hb hx=>?_,fun b o e n hb hx=>?_,I.base.free,fun b o e hx=>?_,I.base.tups,I.base.frzs,I.base.tbls⟩,⟨_,hn',fun j y v' e1 e2 e3=>?_⟩,fun y c e=>?_,I.free,I.freeC,fun p hp=>?_,tracked ⟨oL,hoL,I.free⟩ hs,by simpa using I.len⟩ ⟨_,hs,.inl rfl⟩
  ·exact (hs.2 b (Nat.ne_of_lt (Nat.lt_of_lt_of_le (Heap.lt_size e) I.ok.above))).trans (I.base.keep b o e n hb hx)
  ·obtain ⟨sl,e1⟩:=I.base.slot b o e n hb hx
   exact ⟨sl,(hs.2 b (Nat.ne_of_lt (Nat.lt_of_lt_of_le (Heap.lt_size e) I.ok.above))).trans e1⟩
  ·obtain ⟨o',e1⟩:=I.base.there b o e hx
   exact ⟨o',(hs.2 b (Nat.ne_of_lt (Nat.lt_of_lt_of_le (Heap.lt_size e) I.ok.above))).trans e1⟩
  ·by_cases hj:j=i
   ·subst hj
    rw [hi] at e1;cases e1
    rw [List.getElem?_set_self hiσ] at e2
    cases e2
    exact ⟨u,r,.inl ⟨hk,by simp⟩⟩
   ·rw [List.getElem?_set_ne (Ne.symm hj)] at e2
    obtain ⟨u',r',q⟩:=hl j y v' e1 e2 e3
    refine ⟨u',r',?_⟩
    rcases q with ⟨k,e⟩|⟨k,c,e,z⟩
    ·refine .inl ⟨k,?_⟩
     have:y≠x:=fun e=>hj (zfQ hN e1 (e ▸ hi))
     simp [this,e]
    ·exact .inr ⟨k,c,e,z.sameBut hs (cne y c e)⟩
  ·obtain ⟨w',z⟩:=I.cell y c e
   exact ⟨w',z.sameBut hs (cne y c e)⟩
  ·obtain ⟨e,n,ne,nf,d⟩:=I.pin p hp
   exact ⟨(hs.2 p.1 ne).trans e,n,ne,nf,d⟩
 ·have hfn:X.fn x=true:=by
   rcases hf with z|z
   ·exact z
   ·rw [z] at hk;cases hk
  obtain ⟨c,hc⟩:=I.ok.has x (.inl hk)
  obtain ⟨w',z⟩:=I.cell x c hc
  refine wpAny_storeName_cell I.ok.kind hk hc z (fun h' hc' hs=>?_)
  obtain ⟨oc,hoc,hocd⟩:=id z
  refine h { s with heap:=h' } ⟨I.ok,I.os,I.bare,⟨fun b o e n hb hx=>?_,fun b o e n hb hx=>?_,I.base.free,fun b o e hx=>?_,I.base.tups,I.base.frzs,I.base.tbls⟩,⟨m,hn.sameBut hs (Ne.symm (cne x c hc)),fun j y v' e1 e2 e3=>?_⟩,fun y c' e=>?_,I.free,I.freeC,fun p hp=>?_,tracked ⟨oc,hoc,I.freeC x c hc⟩ hs,by simpa using I.len⟩ ⟨c,hs,.inr hc⟩
  ·exact (hs.2 b (Nat.ne_of_lt (Nat.lt_of_lt_of_le (Heap.lt_size e) (I.ok.cab x c hfn hc)))).trans (I.base.keep b o e n hb hx)
  ·obtain ⟨sl,e1⟩:=I.base.slot b o e n hb hx
   exact ⟨sl,(hs.2 b (Nat.ne_of_lt (Nat.lt_of_lt_of_le (Heap.lt_size e) (I.ok.cab x c hfn hc)))).trans e1⟩
  ·obtain ⟨o',e1⟩:=I.base.there b o e hx
   exact ⟨o',(hs.2 b (Nat.ne_of_lt (Nat.lt_of_lt_of_le (Heap.lt_size e) (I.ok.cab x c hfn hc)))).trans e1⟩
  ·by_cases hj:j=i
   ·subst hj
    rw [hi] at e1;cases e1
    rw [List.getElem?_set_self hiσ] at e2
    cases e2
    exact ⟨u,r,.inr ⟨.inl hk,c,hc,hc'⟩⟩
   ·rw [List.getElem?_set_ne (Ne.symm hj)] at e2
    obtain ⟨u',r',q⟩:=hl j y v' e1 e2 e3
    refine ⟨u',r',?_⟩
    rcases q with q|⟨k,c',e,z'⟩
    ·exact .inl q
    ·refine .inr ⟨k,c',e,z'.sameBut hs ?_⟩
     rintro rfl
     exact hj (zfQ hN e1 (I.ok.inj _ _ _ e hc ▸ hi))
  ·by_cases hcc:c'=c
   ·subst hcc;exact ⟨_,hc'⟩
   ·obtain ⟨w2,z2⟩:=I.cell y c' e
    exact ⟨w2,z2.sameBut hs hcc⟩
  ·obtain ⟨e,n,ne,nf,d⟩:=I.pin p hp
   refine ⟨(hs.2 p.1 ?_).trans e,n,ne,nf,d⟩
   intro q
   rw [q,hoc] at e
   have q':oc=p.2:=Option.some.inj e
   exact d w' (by rw [<- q'];exact hocd)
theorem zaJ {M:Model}{A:Around}{E:Value->Shared->Prop}{i:Nat}{x:Str}{v:V}{u:Value}{Q:Unit->Shared->Prop}(I:Inv X pins σ H s)(hN:X.N.Nodup)(hi:X.N[i]?=some x)(hx:Loc X.env.scope x)(r:RelV v u)
  (h:∀s',Inv X pins (σ.set i (some v)) H s'->Q () s') (hf:X.fn x=true \/ X.env.scope.names.lookup x=some .local:=by first|exact .inl rfl|exact .inr rfl|assumption):wpAny M A (storeName X.env x u) Q E s :=
 zhc I hN hi hx r (fun s' I' _=>h s' I') hf
theorem Inv.call' {s':Shared}{ch:List Addr}(I:Inv X pins σ H s)(ho:s'.os=s.os)(u:Un (frs X.stack) ch H H' s.heap s'.heap)(hok:HOk X.prog X.w H' s'.heap)(hg:AllBare s'.gens)
  (hch:∀b∈ch,(b∈X.ex \/ X.s₀.heap.objs.size<=b)/\b≠X.env.locals/\(∀x c,X.env.cells.lookup x=some c->c≠b)/\∀p∈X.pn++pins,p.1≠b):Inv X pins σ H' s':=by
 obtain ⟨h',g',d',t',o'⟩:=s'
 have e:o'=s.os:=ho
 subst e
 exact I.call (g':=g') (t':=t') (d':=d') u hok hg hch
end
abbrev XK:=Value->Option Addr->Hp->Prop
abbrev St:=List (Option V)
abbrev VK:=V->Hp->Prop
abbrev TE:=St->Hp->VK->Prop
abbrev TT:=St->Hp->(Bool->Hp->Prop)->Prop
abbrev TA:=St->Hp->(List V->Hp->Prop)->Prop
structure Ends where
 nx:St->Hp->Prop
 rt:VK
 bk:St->Hp->Prop:=fun _ _=>False
 ct:St->Hp->Prop:=fun _ _=>False
abbrev TS:=Ends->St->Hp->Prop
def EP (X:Cx)(pins:List (Addr×Obj))(σ:St)(Q:VK)(u:Value)(s':Shared):Prop:=∃v H',Inv X pins σ H' s'/\RelV v u/\Q v H'
def TP (X:Cx)(pins:List (Addr×Obj))(σ:St)(Q:Bool->Hp->Prop)(b:Bool)(s':Shared):Prop:=∃H',Inv X pins σ H' s'/\Q b H'
def AP (X:Cx)(pins:List (Addr×Obj))(σ:St)(Q:List V->Hp->Prop)(us:List Value)(s':Shared):Prop:=∃vs H',Inv X pins σ H' s'/\Vals vs us/\Q vs H'
def SP (X:Cx)(pins:List (Addr×Obj))(D:Ends)(f:Flow)(s':Shared):Prop :=
 match f with
 | .next=>∃σ' H',Inv X pins σ' H' s'/\D.nx σ' H'
 | .brk=>∃σ' H',Inv X pins σ' H' s'/\D.bk σ' H'
 | .cont=>∃σ' H',Inv X pins σ' H' s'/\D.ct σ' H'
 | .ret u=>∃v σ' H',Inv X pins σ' H' s'/\RelV v u/\D.rt v H'
def PE (X:Cx)(e:Expr)(t:TE):Prop :=
 ∀(pins:List (Addr×Obj)) (s:Shared) (σ:St) (H:Hp) (Q:VK),Inv X pins σ H s->t σ H Q->wpAny (model X.prog X.w) X.A (eval e X.env) (EP X pins σ Q) X.xe s
def PT (X:Cx)(e:Expr)(t:TT):Prop :=
 ∀(pins:List (Addr×Obj)) (s:Shared) (σ:St) (H:Hp) (Q:Bool->Hp->Prop),Inv X pins σ H s->t σ H Q->wpAny (model X.prog X.w) X.A (isTrue e X.env (eval e X.env)) (TP X pins σ Q) X.xe s
def PW (X:Cx)(e:Expr)(t:TT):Prop :=
 ∀(whole:Sem Value) (pins:List (Addr×Obj)) (s:Shared) (σ:St) (H:Hp) (Q:Bool->Hp->Prop),Inv X pins σ H s->t σ H Q->wpAny (model X.prog X.w) X.A (isTrue e X.env whole) (TP X pins σ Q) X.xe s
theorem PW.pt {X:Cx}{e:Expr}{t:TT}(h:PW X e t):PT X e t:=h _
def PA (X:Cx)(es:List Expr)(t:TA):Prop :=
 ∀(pos:Pos) (pins:List (Addr×Obj)) (s:Shared) (σ:St) (H:Hp) (Q:List V->Hp->Prop),Inv X pins σ H s->t σ H Q->wpAny (model X.prog X.w) X.A (spliced (backTo pos (starEach es X.env))) (AP X pins σ Q) X.xe s
def PS (X:Cx)(st:Stmt)(t:TS):Prop :=
 ∀(pins:List (Addr×Obj)) (s:Shared) (σ:St) (H:Hp) (D:Ends),Inv X pins σ H s->t D σ H->wpAny (model X.prog X.w) X.A (exec st X.env) (SP X pins D) X.xe s
def PSs (X:Cx)(st:List Stmt)(t:TS):Prop :=
 ∀(pins:List (Addr×Obj)) (s:Shared) (σ:St) (H:Hp) (D:Ends),Inv X pins σ H s->t D σ H->wpAny (model X.prog X.w) X.A (execs st X.env) (SP X pins D) X.xe s
theorem thn {α:Type}{t:Sem α}{Q Q':α->Shared->Prop}{M:Model}{A:Around}{E:Value->Shared->Prop}{s:Shared}(h:wpAny M A t Q E s)(hQ:∀a s,Q a s->Q' a s):wpAny M A t Q' E s:=wpAny_mono h hQ fun _ _ x=>x
section
variable {X:Cx}
theorem bin {a b:Expr}{ta tb:TE}(ha:PE X a ta)(hb:PE X b tb){pins:List (Addr×Obj)}{s:Shared}{σ:St}{H:Hp}{R:V->V->Hp->Prop}(I:Inv X pins σ H s)(h:ta σ H fun x H1=>tb σ H1 fun y H2=>R x y H2)
  {α:Type} {Q:α->Shared->Prop} {f:Value->Value->Sem α}
  (hf:∀v u s2 x y H2,Inv X pins σ H2 s2->RelV x v->RelV y u->R x y H2->wpAny (model X.prog X.w) X.A (f v u) Q X.xe s2) :
  wpAny (model X.prog X.w) X.A (eval a X.env) (fun v s₁=>wpAny (model X.prog X.w) X.A (eval b X.env) (fun u s₂=>wpAny (model X.prog X.w) X.A (f v u) Q X.xe s₂) X.xe s₁) X.xe s:=by
 refine thn (ha pins s σ H _ I h) fun v s1 ⟨x,H1,I1,r1,q1⟩=>?_
 refine thn (hb pins s1 σ H1 _ I1 q1) fun u s2 ⟨y,H2,I2,r2,q2⟩=>?_
 exact hf v u s2 x y H2 I2 r1 r2 q2
def tVar (i:Nat):TE:=fun σ H Q=>∃v,σ[i]?=some (some v)/\Q v H
def tC (v:V):TE:=fun _ H Q=>Q v H
theorem zl3 {i:Nat}{x:Str}{pos:Pos}(hN:X.N[i]?=some x)(hv:Vis X.env.scope x)(hd:(x == ("__debug__":Str))=false:=by decide)(hcd:(x == ("__classdict__":Str))=false:=by decide):PE X (.Name x pos) (tVar i):=by
 intro pins s σ H Q I h
 obtain ⟨v,e,h⟩:=h
 obtain ⟨m,hn,hl⟩:=I.loc
 obtain ⟨u,r,l⟩:=hl i x v hN e hv
 have fin:EP X pins σ Q u s:=⟨v,H,I,r,h⟩
 rcases l with ⟨hk,hm⟩|⟨hk,c,hc,hcell⟩
 ·exact wpAny_Name (wpAny_loadName_local I.ok.kind hk hn hm fin) hd
 ·rcases hk with hk|hk
  ·exact wpAny_Name (wpAny_loadName_cell I.ok.kind hk hc hcell fin) hd
  ·exact wpAny_Name (wpAny_loadName_free I.ok.kind hk hc hcell fin hcd) hd
theorem pe_int {i j pos}:PE X (.Constant (.int i) j pos) (tC (.int i)):=fun _ _ _ H _ I h=>wpAny_Constant_int ⟨.int i,H,I.tok _,⟨_,rfl⟩,h⟩
theorem pe_bl {b j pos}:PE X (.Constant (.bool b) j pos) (tC (.bl b)):=fun _ _ _ H _ I h=>Constant_bool ⟨.bl b,H,I,rfl,h⟩
theorem pe_non {j pos}:PE X (.Constant .none j pos) (tC .non):=fun _ _ _ H _ I h=>Constant_none ⟨.non,H,I,rfl,h⟩
theorem pe_str {x j pos}:PE X (.Constant (.str x) j pos) (tC (.str x)):=fun _ _ _ H _ I h=>Calls.Constant_str ⟨.str x,H,I.tok _,⟨_,rfl⟩,h⟩
def Gl (X:Cx)(x:Str):Prop:=X.env.kindOf x=some .globalImplicit
theorem zdF {E:Value->Shared->Prop}{pins:List (Addr×Obj)}{s:Shared}{σ:St}{H:Hp}{x:Str}{u:Value}{pos:Pos}{Q:Value->Shared->Prop}(I:Inv X pins σ H s)(hg:Gl X x)(hm:X.mg x=some u)(h:Q u s)
  (hd:(x == ("__debug__":Str))=false:=by decide):wpAny (model X.prog X.w) X.A (eval (.Name x pos) X.env) Q E s :=
 Calls.Name_function_global I.ok.kind hg (Calls.loadGlobal_global (by rw [I.ok.glob];exact I.mod.glob.keeps I.bk) hm h) hd
theorem zdq {E:Value->Shared->Prop}{pins:List (Addr×Obj)}{s:Shared}{σ:St}{H:Hp}{x:Str}{u:Value}{pos:Pos}{Q:Value->Shared->Prop}(I:Inv X pins σ H s)(hg:Gl X x)(hm:X.mg x=none)(hv:bootBuiltins x=some u)(h:Q u s)
  (hn:x ≠ "__name__":=by decide) (hd:(x == ("__debug__":Str))=false:=by decide):wpAny (model X.prog X.w) X.A (eval (.Name x pos) X.env) Q E s:=by
 obtain ⟨mb,h1,h2⟩:=I.mod.blt
 exact Calls.Name_function_global I.ok.kind hg (Calls.loadGlobal_builtin (by rw [I.ok.glob];exact I.mod.glob.keeps I.bk) hm (by rw [I.ok.blt];exact h1.keeps I.bk) ((h2 x hn).trans hv) h) hd
theorem zgS {x:Str}{v:V}{u:Value}{pos:Pos}(hg:Gl X x)(hm:X.mg x=some u)(r:RelV v u)(hd:(x == ("__debug__":Str))=false:=by decide):PE X (.Name x pos) (tC v) :=
 fun _ _ _ H _ I h=>zdF I hg hm ⟨v,H,I,r,h⟩ hd
theorem zhn {x:Str}{v:V}{u:Value}{pos:Pos}(hg:Gl X x)(hm:X.mg x=none)(hv:bootBuiltins x=some u)(r:RelV v u)(hn:x ≠ "__name__":=by decide)(hd:(x == ("__debug__":Str))=false:=by decide):PE X (.Name x pos) (tC v) :=
 fun _ _ _ H _ I h=>zdq I hg hm hv ⟨v,H,I,r,h⟩ hn hd
variable {a b:Expr}{ta tb:TE}{pos:Pos}
variable {tA tB':TT}{rest:List Expr}
def tAnd (t u:TT):TT:=fun σ H Q=>t σ H fun c H1=>if c=true then u σ H1 Q else Q false H1
def tOr (t u:TT):TT:=fun σ H Q=>t σ H fun c H1=>if c=true then Q true H1 else u σ H1 Q
def tNot (t:TT):TT:=fun σ H Q=>t σ H fun c H1=>Q (!c) H1
theorem zkC (ha:PT X a tA):PW X (.BoolOp .And [a] pos) tA:=by
 intro wh pins s σ H Q I h
 refine isTrue_and (thn (ha pins s σ H Q I h) fun c s1 e=>?_)
 cases c with
 |true=>exact isTrue_and_nil e
 |false=>exact e
theorem zkJ (ha:PT X a tA):PW X (.BoolOp .Or [a] pos) tA:=by
 intro wh pins s σ H Q I h
 refine isTrue_or (thn (ha pins s σ H Q I h) fun c s1 e=>?_)
 cases c with
 |false=>exact isTrue_or_nil e
 |true=>exact e
theorem zmo (ha:PT X a tA)(hb:PW X (.BoolOp .And (b::rest) pos) tB'):PW X (.BoolOp .And (a::b::rest) pos) (tAnd tA tB'):=by
 intro wh pins s σ H Q I h
 refine isTrue_and (thn (ha pins s σ H _ I h) fun c s1 ⟨H1,I1,q1⟩=>?_)
 cases c with
 |true=>exact hb wh pins s1 σ H1 Q I1 q1
 |false=>exact ⟨H1,I1,q1⟩
theorem zmB (ha:PT X a tA)(hb:PW X (.BoolOp .Or (b::rest) pos) tB'):PW X (.BoolOp .Or (a::b::rest) pos) (tOr tA tB'):=by
 intro wh pins s σ H Q I h
 refine isTrue_or (thn (ha pins s σ H _ I h) fun c s1 ⟨H1,I1,q1⟩=>?_)
 cases c with
 |true=>exact ⟨H1,I1,q1⟩
 |false=>exact hb wh pins s1 σ H1 Q I1 q1
theorem zmm (ha:PT X a tA):PT X (.UnaryOp .Not a pos) (tNot tA):=by
 intro pins s σ H Q I h
 exact isTrue_not (ha pins s σ H (fun c H1=>Q (!c) H1) I h)
def tAndV (ta tb:TE):TE:=fun σ H Q=>ta σ H fun x H1=>∃c,x=.bl c/\if c=true then tb σ H1 Q else Q (.bl false) H1
def tOrV (ta tb:TE):TE:=fun σ H Q=>ta σ H fun x H1=>∃c,x=.bl c/\if c=true then Q (.bl true) H1 else tb σ H1 Q
def tNotV (ta:TE):TE:=fun σ H Q=>ta σ H fun x H1=>∃c,x=.bl c/\Q (.bl (!c)) H1
theorem zkE {op}{t:TE}(h:PE X a t):PE X (.BoolOp op [a] pos) t:=fun pins s σ H Q I hw=>BoolOp_one (h pins s σ H Q I hw)
theorem zld (ha:PE X a ta)(hb:PE X (.BoolOp .And (b::rest) pos) tb):PE X (.BoolOp .And (a::b::rest) pos) (tAndV ta tb):=by
 intro pins s σ H Q I h
 refine BoolOp_and (thn (ha pins s σ H _ I h) fun v s1 ⟨x,H1,I1,r1,q1⟩=>?_)
 obtain ⟨c,rfl,q1⟩:=q1
 cases r1
 refine wpAny_truthy_bool ?_
 cases c with
 |true=>exact hb pins s1 σ H1 Q I1 q1
 |false=>exact ⟨.bl false,H1,I1,rfl,q1⟩
theorem zmx (ha:PE X a ta)(hb:PE X (.BoolOp .Or (b::rest) pos) tb):PE X (.BoolOp .Or (a::b::rest) pos) (tOrV ta tb):=by
 intro pins s σ H Q I h
 refine BoolOp_or (thn (ha pins s σ H _ I h) fun v s1 ⟨x,H1,I1,r1,q1⟩=>?_)
 obtain ⟨c,rfl,q1⟩:=q1
 cases r1
 refine wpAny_truthy_bool ?_
 cases c with
 |false=>exact hb pins s1 σ H1 Q I1 q1
 |true=>exact ⟨.bl true,H1,I1,rfl,q1⟩
theorem zmd (ha:PE X a ta):PE X (.UnaryOp .Not a pos) (tNotV ta):=by
 intro pins s σ H Q I h
 refine UnaryOp_ (thn (ha pins s σ H _ I h) fun v s1 ⟨x,H1,I1,r1,q1⟩=>?_)
 obtain ⟨c,rfl,q1⟩:=q1
 cases r1
 exact not_of (wpAny_truthy_bool ⟨.bl (!c),H1,I1,rfl,q1⟩)
def tIf (t:TT)(ta tb:TE):TE:=fun σ H Q=>t σ H fun c H1=>if c=true then ta σ H1 Q else tb σ H1 Q
theorem ziO {c:Expr}(hc:PT X c tA)(ha:PE X a ta)(hb:PE X b tb):PE X (.IfExp c a b pos) (tIf tA ta tb):=by
 intro pins s σ H Q I h
 refine wpAny_IfExp (thn (hc pins s σ H _ I h) fun d s1 ⟨H1,I1,q1⟩=>?_)
 cases d with
 |true=>exact ha pins s1 σ H1 Q I1 q1
 |false=>exact hb pins s1 σ H1 Q I1 q1
end
def SqL (K:PySem.W.Frag)(H:Hp)(a:Addr)(xs:List V):Prop :=
 Rd H a (.lst xs) \/
  ∃(o:Obj) (its:Array Value) (n:Nat),K.lookup a=some o/\o.cls=.type "list"/\o.dict=none/\o.data=.seq its n/\its.size<=sizeLine/\Vals xs its.toList
def SqT (K:PySem.W.Frag)(H:Hp)(a:Addr)(xs:List V):Prop :=
 Rd H a (.tup xs) \/
  ∃(o:Obj) (its:Array Value) (n:Nat),K.lookup a=some o/\o.cls=.type "tuple"/\o.data=.seq its n/\its.size<=sizeLine/\Vals xs its.toList
def absV:Value->Option V
 | .none=>some .non
 | .bool b=>some (.bl b)
 | .int i _=>some (.int i)
 | .str x _=>some (.str x)
 | .bytes b _=>some (.byt b)
 | .float b _=>some (.flt b)
 | .ref a=>some (.ref a)
 | .type n=>some (.ty n)
 |_=>none
theorem RelV.abs {x:V}{u:Value}(r:RelV x u):absV u=some x:=by
 cases x with
 |non=>cases r;rfl
 |bl _=>cases r;rfl
 |int _=>obtain ⟨t,rfl⟩:=r;rfl
 |str _=>obtain ⟨t,rfl⟩:=r;rfl
 |byt _=>obtain ⟨t,rfl⟩:=r;rfl
 |flt _=>obtain ⟨t,rfl⟩:=r;rfl
 |ref _=>cases r;rfl
 |ty _=>cases r;rfl
theorem RelV.inj {x y:V}{u:Value}(r:RelV x u)(q:RelV y u):x=y:=Option.some.inj (r.abs.symm.trans q.abs)
theorem Vals.inj:∀{xs ys:List V} {us:List Value},Vals xs us->Vals ys us->xs=ys
 |_,_,_,.nil,.nil=>rfl
 |_,_,_,.cons r t,.cons r' t'=>by rw [r.inj r',Vals.inj t t']
section
variable {X:Cx}{pins:List (Addr×Obj)}{σ:St}{H:Hp}{s:Shared}{a:Addr}{xs ys:List V}
theorem SqL.of {K:PySem.W.Frag}(h:H a=some (.lst xs)):SqL K H a xs:=.inl (.inl h)
theorem Inv.list (I:Inv X pins σ H s)(h:SqL X.K H a xs):∃its:List Value,Vals xs its/\PlainL s.heap a its.toArray/\xs.length<=sizeLine:=by
 rcases h with h|⟨o,its,n,hk,hc,hd,hs,hz,r⟩
 ·obtain ⟨z,its,n,r,e⟩:=h.ok I.hok
  exact ⟨its,r,⟨_,n,e,rfl,rfl,rfl⟩,z⟩
 ·refine ⟨its.toList,r,⟨o,n,I.kIn a o hk,hc,hd,by simpa using hs⟩,?_⟩
  have e:=r.length
  simp only [Array.length_toList] at e
  omega
theorem Inv.tuple (I:Inv X pins σ H s)(h:SqT X.K H a xs):∃its:List Value,Vals xs its/\IsTup s.heap a its.toArray/\xs.length<=sizeLine:=by
 rcases h with h|⟨o,its,n,hk,hc,hs,hz,r⟩
 ·obtain ⟨z,its,r,p⟩:=h.ok I.hok
  exact ⟨its,r,p,z⟩
 ·refine ⟨its.toList,r,⟨o,I.kIn a o hk,hc,n,by simpa using hs⟩,?_⟩
  have e:=r.length
  simp only [Array.length_toList] at e
  omega
theorem Inv.list_inj (I:Inv X pins σ H s)(h:SqL X.K H a xs)(h':SqL X.K H a ys):xs=ys:=by
 obtain ⟨its,r,⟨o,n,e,_,_,d⟩,_⟩:=I.list h
 obtain ⟨its',r',⟨o',n',e',_,_,d'⟩,_⟩:=I.list h'
 rw [e] at e';cases e'
 rw [d] at d'
 injection d' with d1 _
 have:its=its':=by simpa using congrArg Array.toList d1
 subst this
 exact r.inj r'
theorem Inv.tuple_inj (I:Inv X pins σ H s)(h:SqT X.K H a xs)(h':SqT X.K H a ys):xs=ys:=by
 obtain ⟨its,r,⟨o,e,_,n,d⟩,_⟩:=I.tuple h
 obtain ⟨its',r',⟨o',e',_,n',d'⟩,_⟩:=I.tuple h'
 rw [e] at e';cases e'
 rw [d] at d'
 injection d' with d1 _
 have:its=its':=by simpa using congrArg Array.toList d1
 subst this
 exact r.inj r'
end
abbrev Cx.wish (X:Cx)(E:Value->Shared->Prop):Cx:={ X with xe:=E }
theorem Cx.Ok.wish {X:Cx}(ok:X.Ok)(E:Value->Shared->Prop):(X.wish E).Ok :=
 ⟨ok.mod,ok.kind,ok.glob,ok.blt,ok.above,ok.inj,ok.has,ok.cab,ok.hd,ok.frames,ok.stk,ok.exf,ok.bs,ok.bsz,ok.noex,ok.exfs,ok.funs,ok.frf⟩
theorem Cx.Ok.unwish {X:Cx}{E:Value->Shared->Prop}(ok:(X.wish E).Ok):X.Ok :=
 ⟨ok.mod,ok.kind,ok.glob,ok.blt,ok.above,ok.inj,ok.has,ok.cab,ok.hd,ok.frames,ok.stk,ok.exf,ok.bs,ok.bsz,ok.noex,ok.exfs,ok.funs,ok.frf⟩
section
variable {X:Cx}{pins:List (Addr×Obj)}{σ:St}{H:Hp}{s:Shared}{E:Value->Shared->Prop}
theorem Inv.wish (I:Inv X pins σ H s)(E:Value->Shared->Prop):Inv (X.wish E) pins σ H s:=⟨I.ok.wish E,I.os,I.bare,I.base,I.loc,I.cell,I.free,I.freeC,I.pin,I.hok,I.len⟩
theorem Inv.unwish (I:Inv (X.wish E) pins σ H s):Inv X pins σ H s:=⟨I.ok.unwish,I.os,I.bare,I.base,I.loc,I.cell,I.free,I.freeC,I.pin,I.hok,I.len⟩
end
section
variable {X:Cx}{st:Stmt}{rest:List Stmt}{t u:TS}{e:Expr}{te:TE}{pos:Pos}
def tNext:TS:=fun D σ H=>D.nx σ H
def tSeq (t u:TS):TS:=fun D σ H=>t { D with nx:=u D } σ H
theorem pss_nil:PSs X [] tNext:=fun _ _ σ H _ I h=>wpAny_execs_nil ⟨σ,H,I,h⟩
theorem ziT (h1:PS X st t)(h2:PSs X rest u):PSs X (st::rest) (tSeq t u):=by
 intro pins s σ H D I h
 refine wpAny_execs_cons (thn (h1 pins s σ H { D with nx:=u D } I h) fun f s1 q=>?_)
 cases f with
 |next =>
  obtain ⟨σ',H',I',q⟩:=q
  exact h2 pins s1 σ' H' D I' q
 |ret v=>exact q
 |brk=>exact q
 |cont=>exact q
theorem Inv.quiet {pins:List (Addr×Obj)}{σ:St}{H:Hp}{s:Shared}(I:Inv X pins σ H s):interactive X.env=false:=by simp [interactive,I.ok.kind]
def tDrop (te:TE):TS:=fun D σ H=>te σ H fun _ H1=>D.nx σ H1
theorem zjS (he:PE X e te)(hs:swapsWith e none pos.line X.env=pure false:=by rfl):PS X (.Expr e pos) (tDrop te):=by
 intro pins s σ H D I h
 exact wpAny_Expr_any (thn (he pins s σ H _ I h) fun v s1 ⟨x,H1,I1,r1,q1⟩=>⟨σ,H1,I1,q1⟩) I.quiet hs
def tRet (te:TE):TS:=fun D σ H=>te σ H D.rt
theorem zlx (he:PE X e te):PS X (.Return (some e) pos) (tRet te):=by
 intro pins s σ H D I h
 exact wpAny_Return_some (thn (he pins s σ H _ I h) fun v s1 ⟨x,H1,I1,r1,q1⟩=>⟨x,σ,H1,I1,r1,q1⟩)
def tIfS (c:TT)(t u:TS):TS:=fun D σ H=>c σ H fun b H1=>if b=true then t D σ H1 else u D σ H1
theorem zmy {c:Expr}{a b:List Stmt}{tc:TT}(hc:PT X c tc)(ha:PSs X a t)(hb:PSs X b u):PS X (.If c a b pos) (tIfS tc t u):=by
 intro pins s σ H D I h
 refine wpAny_If (thn (hc pins s σ H _ I h) fun d s1 ⟨H1,I1,q1⟩=>?_)
 cases d with
 |true=>exact ha pins s1 σ H1 D I1 q1
 |false=>exact hb pins s1 σ H1 D I1 q1
end
abbrev TG:=V->St->Hp->(St->Hp->Prop)->Prop
abbrev TGs:=List V->St->Hp->(St->Hp->Prop)->Prop
def PG (X:Cx)(target:Expr)(t:TG):Prop :=
 ∀(pins:List (Addr×Obj)) (s:Shared) (σ:St) (H:Hp) (v:V) (u:Value) (Q:St->Hp->Prop),Inv X pins σ H s->RelV v u->t v σ H Q ->
  wpAny (model X.prog X.w) X.A (assign target X.env u) (fun _ s'=>∃σ' H',Inv X pins σ' H' s'/\Q σ' H') X.xe s
def PGs (X:Cx)(ts:List Expr)(t:TGs):Prop :=
 ∀(pins:List (Addr×Obj)) (s:Shared) (σ:St) (H:Hp) (vs:List V) (us:List Value) (Q:St->Hp->Prop),Inv X pins σ H s->Vals vs us->t vs σ H Q ->
  wpAny (model X.prog X.w) X.A (assignInOrder ((assignEach ts X.env).map (·.2)) us) (fun _ s'=>∃σ' H',Inv X pins σ' H' s'/\Q σ' H') X.xe s
abbrev TSet:=V->V->V->Hp->(Hp->Prop)->Prop
def PSet (X:Cx)(t:TSet):Prop :=
 ∀(pins:List (Addr×Obj)) (s:Shared) (σ:St) (H:Hp) (o i v:V) (ov iv u:Value) (Q:Hp->Prop),Inv X pins σ H s->RelV o ov->RelV i iv->RelV v u->t o i v H Q ->
  wpAny (model X.prog X.w) X.A (setItem ov iv u) (fun _ s'=>∃H',Inv X pins σ H' s'/\Q H') X.xe s
abbrev TIp:=V->V->Hp->VK->Prop
def PIp (X:Cx)(op:Operator)(t:TIp):Prop :=
 ∀(pins:List (Addr×Obj)) (s:Shared) (σ:St) (H:Hp) (x y:V) (v u:Value) (Q:VK),Inv X pins σ H s->RelV x v->RelV y u->t x y H Q ->
  wpAny (model X.prog X.w) X.A (inplaceOp op v u) (EP X pins σ Q) X.xe s
section
variable {X:Cx}{pos:Pos}
def gName (i:Nat):TG:=fun v σ H Q=>Q (σ.set i (some v)) H
theorem zgD {i:Nat}{x:Str}(hN:X.N.Nodup)(hi:X.N[i]?=some x)(hx:Loc X.env.scope x)(hf:X.fn x=true \/ X.env.scope.names.lookup x=some .local:=by first|exact .inl rfl|exact .inr rfl|assumption):PG X (.Name x pos) (gName i):=by
 intro pins s σ H v u Q I r h
 exact wpAny_assign_Name (zaJ I hN hi hx r (fun s' I'=>⟨_,H,I',h⟩) hf)
def gNil:TGs:=fun vs σ H Q=>vs=[]/\Q σ H
def gCons (t:TG)(u:TGs):TGs:=fun vs σ H Q=>∃v r,vs=v::r/\t v σ H fun σ' H'=>u r σ' H' Q
theorem pgs_nil:PGs X [] gNil:=by
 intro pins s σ H vs us Q I r h
 obtain ⟨e,h⟩:=h
 subst e
 cases r
 exact assignInOrder_nil ⟨σ,H,I,h⟩
theorem zi0 {e:Expr}{es:List Expr}{t:TG}{u:TGs}(h1:PG X e t)(h2:PGs X es u)
  (hs:(assignEach (e::es) X.env).map (·.2)=assign e X.env::(assignEach es X.env).map (·.2):=by rfl):PGs X (e::es) (gCons t u):=by
 intro pins s σ H vs us Q I r h
 obtain ⟨v,vr,e1,h⟩:=h
 subst e1
 cases r with
 |cons r rr =>
  rw [hs]
  refine assignInOrder_cons (thn (h1 pins s σ H _ _ _ I r h) fun _ s1 ⟨σ1,H1,I1,q1⟩=>?_)
  exact h2 pins s1 σ1 H1 _ _ Q I1 rr q1
def gTup (K:PySem.W.Frag)(n:Nat)(t:TGs):TG:=fun v σ H Q=>∃a xs,v=.ref a/\SqT K H a xs/\xs.length=n/\t xs σ H Q
theorem zlP {es:List Expr}{k:Nat}{t:TGs}{n:Nat}(hc:X.calm=true)(h:PGs X es t)
  (hn:(assignEach es X.env).length=n:=by rfl) (hst:(assignEach es X.env).findIdx? (·.1)=none:=by rfl):PG X (.Tuple es k pos) (gTup X.K n t):=by
 intro pins s σ H v u Q I r hw
 obtain ⟨a,xs,e1,hq,hl,hw⟩:=hw
 subst e1
 cases r
 obtain ⟨its,rv,ht,hz⟩:=I.tuple hq
 refine assign_Tuple_tuple (I.ok.hd hc) ht (by simp [hn,<- hl,rv.length]) hst fun h' hx=>?_
 have I1:Inv X pins σ H { s with heap:=h' }:=I.kept (t':=s.toks) fun b o e=>hx b o (Nat.ne_of_lt (Heap.lt_size e)) e
 exact h pins _ σ H xs _ Q I1 (by simpa using rv) hw
def gSub (to ti:TE)(t:TSet):TG:=fun v σ H Q=>to σ H fun o H1=>ti σ H1 fun i H2=>t o i v H2 fun H3=>Q σ H3
theorem zhk {o i:Expr}{to ti:TE}{t:TSet}(ho:PE X o to)(hi:PE X i ti)(hs:PSet X t)
  (ha:∀v,assign (.Subscript o i pos) X.env v=(do
   let ov <- holding [v] (eval o X.env)
   let iv <- holding [v,ov] (eval i X.env)
   standAt pos
   holding [v,ov,iv] (setItem ov iv v)
   release [v,ov,iv] []):=by intro _;rfl):PG X (.Subscript o i pos) (gSub to ti t):=by
 intro pins s σ H v u Q I r h
 rw [ha]
 refine wpAny_bind (wpAny_holding (thn (ho pins s σ H _ I h) fun ov s1 ⟨x,H1,I1,r1,q1⟩=>?_))
 refine wpAny_bind (wpAny_holding (thn (hi pins s1 σ H1 _ I1 q1) fun iv s2 ⟨y,H2,I2,r2,q2⟩=>?_))
 refine wpAny_bind (wpAny_standAt (wpAny_bind (wpAny_holding (thn (hs pins s2 σ H2 x y v ov iv u _ I2 r1 r2 r q2) fun _ s3 ⟨H3,I3,q3⟩=>?_))))
 exact wpAny_release ⟨σ,H3,I3,q3⟩
def tAsg (te:TE)(g:TG):TS:=fun D σ H=>te σ H fun x H1=>g x σ H1 D.nx
theorem zl2 {tg e:Expr}{te:TE}{g:TG}(he:PE X e te)(hg:PG X tg g)(hs:swapsWithSole [tg] e pos.line X.env=pure false:=by rfl)(hw:swappedStores [tg] e X.env=pure none:=by rfl)
  (h1:(assignEach [tg] X.env).map (·.2)=[assign tg X.env]:=by rfl):PS X (.Assign [tg] e pos) (tAsg te g):=by
 intro pins s σ H D I h
 refine wpAny_Assign_stores (thn (he pins s σ H _ I h) fun v s1 ⟨x,H1,I1,r1,q1⟩=>?_) hs hw
 rw [h1]
 exact thn (hg pins s1 σ H1 x v _ I1 r1 q1) fun _ s2 q=>q
theorem zlO {i:Nat}{x:Str}{e:Expr}{te:TE}{pos':Pos}(hN:X.N.Nodup)(hi:X.N[i]?=some x)(hx:Loc X.env.scope x)(he:PE X e te)(hs:swapsWith e (some (.Name x pos')) pos.line X.env=pure false:=by rfl)(hf:X.fn x=true \/ X.env.scope.names.lookup x=some .local:=by first|exact .inl rfl|exact .inr rfl|assumption) :
  PS X (.Assign [.Name x pos'] e pos) (tAsg te (gName i)):=by
 intro pins s σ H D I h
 refine wpAny_Assign_Name (thn (he pins s σ H _ I h) fun v s1 ⟨y,H1,I1,r1,q1⟩=>?_) hs
 exact zaJ I1 hN hi hx r1 (fun s2 I2=>⟨_,H1,I2,q1⟩) hf
def tPar (i j:Nat)(ta:TA):TS:=fun D σ H=>ta σ H fun vs H1=>∃v w,vs=[v,w]/\D.nx ((σ.set i (some v)).set j (some w)) H1
theorem zmj {i j:Nat}{x y:Str}{a b:Expr}{ta:TA}{px py pt:Pos}{kt k2 pt2}(hc:X.calm=true)(hN:X.N.Nodup)(hi:X.N[i]?=some x)(hj:X.N[j]?=some y)(hij:i≠j)
  (hx:X.env.scope.names.lookup x=some .local) (hy:X.env.scope.names.lookup y=some .local) (ha:PA X [a,b] ta)
  (hw:swappedStores [.Tuple [.Name x px,.Name y py] kt pt] (.Tuple [a,b] k2 pt2) X.env=pure (some [x,y]))
  (hs:swapsWithSole [.Tuple [.Name x px,.Name y py] kt pt] (.Tuple [a,b] k2 pt2) pos.line X.env=pure false:=by rfl) :
  PS X (.Assign [.Tuple [.Name x px,.Name y py] kt pt] (.Tuple [a,b] k2 pt2) pos) (tPar i j ta):=by
 intro pins s σ H D I h
 rw [exec_Assign_arm]
 refine wpAny_bind (wpAny_standAt ?_)
 rw [hs]
 refine wpAny_bind (wpAny_pure ?_)
 rw [if_neg (by decide)]
 refine wpAny_bind (Tuple_ (thn (ha _ pins s σ H _ I h) fun us s1 ⟨vs,H1,I1,r1,q1⟩=>?_))
 obtain ⟨v,w,e1,q1⟩:=q1
 subst e1
 obtain ⟨u1,u2,rfl,rv,rw'⟩:∃u1 u2,us=[u1,u2]/\RelV v u1/\RelV w u2:=by
  cases r1 with
  |cons p q =>
   cases q with
   |cons p' q' =>
    cases q'
    exact ⟨_,_,rfl,p,p'⟩
 refine wpAny_newObj_type ?_ (by show 2<=sizeLine;decide)
 have I2:Inv X pins σ H1 { s1 with heap:=s1.heap.push { cls:=.type "tuple",data:=.seq [u1,u2].toArray } }:=I1.kept (t':=s1.toks) fun b o e=>Heap.get?_push_of_some _ e
 rw [hw]
 refine wpAny_bind (wpAny_pure ?_)
 show wpAny (model X.prog X.w) X.A (do rule "assign.swapped-stores";let items <- unpackItems (.ref s1.heap.objs.size) 2 none;assignInOrder [fun v=>bindName X.env y v,fun v=>bindName X.env x v] items.reverse;pure Flow.next) _ _ _
 refine wpAny_bind (wpAny_rule (wpAny_bind (unpackItems_tuple (items:=#[u1,u2]) (I.ok.hd hc) (IsTup.new s1.heap _) fun h' hx'=>?_)))
 have I3:=I2.kept (h':=h') (t':=s1.toks) fun b o e=>hx' b o (Nat.ne_of_lt (Heap.lt_size e)) e
 show wpAny _ _ (assignInOrder [fun v=>bindName X.env y v,fun v=>bindName X.env x v] [u2,u1] >>= fun _=>pure Flow.next) _ _ _
 refine wpAny_bind (assignInOrder_cons (wpAny_bindName (zaJ I3 hN hj (.inl hy) rw' (fun s2 I4=>?_) (.inr hy))))
 refine assignInOrder_cons (wpAny_bindName (zaJ I4 hN hi (.inl hx) rv (fun s3 I5=>assignInOrder_nil (wpAny_pure ?_)) (.inr hx)))
 rw [List.set_comm _ _ (Ne.symm hij)] at I5
 exact ⟨_,H1,I5,q1⟩
def tAug (i:Nat)(te:TE)(ti:TIp):TS:=fun D σ H=>∃x,σ[i]?=some (some x)/\te σ H fun y H1=>ti x y H1 fun z H2=>D.nx (σ.set i (some z)) H2
theorem zmh {i:Nat}{x:Str}{e:Expr}{te:TE}{op:Operator}{ti:TIp}{pos':Pos}(hN:X.N.Nodup)(hi:X.N[i]?=some x)(hx:Loc X.env.scope x)(he:PE X e te)(ho:PIp X op ti)(hf:X.fn x=true \/ X.env.scope.names.lookup x=some .local:=by first|exact .inl rfl|exact .inr rfl|assumption) :
  PS X (.AugAssign (.Name x pos') op e pos) (tAug i te ti):=by
 intro pins s σ H D I h
 obtain ⟨v,e1,h⟩:=h
 obtain ⟨m,hn,hl⟩:=I.loc
 have vis:Vis X.env.scope x:=by rcases hx with k|k;exact .inl k;exact .inr (.inl k)
 obtain ⟨u,r,l⟩:=hl i x v hi e1 vis
 refine wpAny_AugAssign_Name ?_
 have go:wpAny (model X.prog X.w) X.A (eval e X.env) (fun w s₂=>wpAny (model X.prog X.w) X.A (inplaceOp op u w) (fun r s₃=>wpAny (model X.prog X.w) X.A (storeName X.env x r) (fun _=>SP X pins D .next) X.xe s₃) X.xe s₂) X.xe s:=by
  refine thn (he pins s σ H _ I h) fun w s1 ⟨y,H1,I1,r1,q1⟩=>?_
  refine thn (ho pins s1 σ H1 v y u w _ I1 r r1 q1) fun z s2 ⟨zv,H2,I2,r2,q2⟩=>?_
  exact zaJ I2 hN hi hx r2 (fun s3 I3=>⟨_,H2,I3,q2⟩) hf
 rcases l with ⟨hk,hm⟩|⟨hk,c,hc,hcell⟩
 ·exact wpAny_loadName_local I.ok.kind hk hn hm go
 ·rcases hk with hk|hk
  ·exact wpAny_loadName_cell I.ok.kind hk hc hcell go
  ·rcases hx with k|k
   ·have:X.env.scope.names.lookup x=some .free:=hk
    rw [k] at this;cases this
   ·have:X.env.scope.names.lookup x=some .free:=hk
    rw [k] at this;cases this
def ipI (f:Int->Int->Int):TIp:=fun x y H Q=>∃i j,x=.int i/\y=.int j/\Q (.int (f i j)) H
theorem zmp:PIp X .Add (ipI fun i j=>i+j):=by
 intro pins s σ H x y v u Q I r1 r2 h
 obtain ⟨i,j,e1,e2,q⟩:=h
 subst e1;subst e2
 obtain ⟨t,rfl⟩:=r1
 obtain ⟨t',rfl⟩:=r2
 exact iadd_int ⟨.int _,H,I.tok _,⟨_,rfl⟩,q⟩
end
section
variable {X:Cx}{pos:Pos}
def tWhile (c:TT)(tb:TS):TS:=fun D σ H=>∃W:Nat->St->Hp->Prop,(∃m,W m σ H)/\∀m σ H,W m σ H ->
 c σ H fun b H1=>if b=true then ∃N:St->Hp->Prop,(∀σ' H',N σ' H'->∃m',m' < m/\W m' σ' H')/\tb { D with nx:=N,ct:=N,bk:=D.nx } σ H1 else D.nx σ H1
theorem zi2 {c:Expr}{body:List Stmt}{tc:TT}{tb:TS}(hp:PassesOwn (model X.prog X.w) X.A X.env X.xe)(hc:PT X c tc)(hb:PSs X body tb):PS X (.While c body [] pos) (tWhile tc tb):=by
 intro pins s σ H D I h
 obtain ⟨W,⟨m0,w0⟩,turn⟩:=h
 refine wpAny_While (codeAny_whileLoop (fun n s'=>∃σ' H',Inv X pins σ' H' s'/\W n σ' H') ?_ m0 ⟨σ,H,I,w0⟩)
 rintro n s1 ⟨σ1,H1,I1,w1⟩
 refine wpAny_passesOwn hp (thn (hc pins s1 σ1 H1 _ I1 (turn n σ1 H1 w1)) fun b s2 ⟨H2,I2,q2⟩=>?_)
 cases b with
 |true =>
  obtain ⟨N,hN,q2⟩:=q2
  rw [if_pos rfl]
  refine wpAny_passesOwn hp (thn (hb pins s2 σ1 H2 _ I2 q2) fun f s3 q3=>?_)
  cases f with
  |next =>
   obtain ⟨σ3,H3,I3,n3⟩:=q3
   obtain ⟨m',hm,w3⟩:=hN σ3 H3 n3
   exact ⟨m',hm,σ3,H3,I3,w3⟩
  |cont =>
   obtain ⟨σ3,H3,I3,n3⟩:=q3
   obtain ⟨m',hm,w3⟩:=hN σ3 H3 n3
   exact ⟨m',hm,σ3,H3,I3,w3⟩
  |brk=>exact q3
  |ret v=>exact q3
 |false =>
  rw [if_neg Bool.false_ne_true]
  exact wpAny_execs_nil ⟨σ1,H2,I2,q2⟩
end
structure It where
 go:Nat->Hp->Prop
 yld:Nat->Hp->V->Hp->Prop
 stop:Nat->Hp->Prop
def FpOk (X:Cx)(pins:List (Addr×Obj))(H:Hp)(b:Addr):Prop :=
 H b=none/\b≠X.env.locals/\b∉X.fs/\(b∈X.ex \/ X.s₀.heap.objs.size<=b)/\(∀x c,X.env.cells.lookup x=some c->c≠b)/\∀p∈X.pn++pins,p.1≠b
theorem Inv.fpOk {X:Cx}{pins:List (Addr×Obj)}{σ:St}{H H':Hp}{s:Shared}{b:Addr}(I:Inv X pins σ H s)(hb:s.heap.objs.size<=b)(hn:H' b=none):FpOk X pins H' b:=by
 refine ⟨hn,Nat.ne_of_gt (Nat.lt_of_lt_of_le I.lt hb),I.nofs hb,.inr (Nat.le_trans I.sz hb),fun x c e z=>?_,fun p hp z=>?_⟩
 ·obtain ⟨v,q⟩:=I.cell x c e
  exact absurd (Nat.lt_of_lt_of_le q.lt (by rw [z];exact hb)) (Nat.lt_irrefl _)
 ·exact absurd (Nat.lt_of_lt_of_le (Heap.lt_size (I.pin p hp).1) (by rw [z];exact hb)) (Nat.lt_irrefl _)
structure Turn (P:Program)(w:World)(K:PySem.W.Frag)(tg:Expr)(J:It)(fp:List Addr)(it:Addr)(tn:Nat->Heap->Prop):Prop where
 mem:it∈fp
 obj:∀i h,tn i h->∀b∈fp,∃o,h.get? b=some o/\∀v,o.data ≠ .cell v
 keep:∀i h h',tn i h->(∀b∈fp,∀o,h.get? b=some o->h'.get? b=some o)->tn i h'
 item:∀(X:Cx),X.prog=P->X.w=w->X.K=K->X.calm=true->∀(i:Nat) (pins:List (Addr×Obj)) (s:Shared) (σ:St) (H:Hp) (E:Value->Shared->Prop),Inv X pins σ H s->(∀b∈fp,FpOk X pins H b)->tn i s.heap->J.go i H ->
  wpAny (model P w) X.A (pyNext (.ref it)) (fun r s1=>∃u,r=some u /\
   wpAny (model P w) X.A (letOwnedTupleGo tg (.ref it) u) (fun _ s2=>∃x H',Inv X pins σ H' s2/\RelV x u/\J.yld i H x H'/\tn (i+1) s2.heap/\∀b∈fp,H' b=none) E s1) E s
 done:∀(X:Cx),X.prog=P->X.w=w->X.K=K->X.calm=true->∀(i:Nat) (pins:List (Addr×Obj)) (s:Shared) (σ:St) (H:Hp) (E:Value->Shared->Prop),Inv X pins σ H s->(∀b∈fp,FpOk X pins H b)->tn i s.heap->J.stop i H ->
  wpAny (model P w) X.A (pyNext (.ref it)) (fun r s1=>r=none/\Inv X pins σ H s1) E s
 self:∀(A:Around) (i:Nat) (s:Shared) (Q:Value->Shared->Prop) (E:Value->Shared->Prop),tn i s.heap->Q (.ref it) s->wpAny (model P w) A (pyIter (.ref it)) Q E s
abbrev TI:=St->Hp->(It->Hp->Prop)->Prop
def PIE (X:Cx)(pins:List (Addr×Obj))(σ:St)(tg:Expr)(R:It->Hp->Prop)(itv:Value)(s2:Shared):Prop :=
 ∃(it:Addr) (fp:List Addr) (tn:Nat->Heap->Prop) (J:It) (H':Hp),itv=.ref it/\Inv X pins σ H' s2/\Turn X.prog X.w X.K tg J fp it tn/\tn 0 s2.heap/\(∀b∈fp,FpOk X pins H' b)/\R J H'
def PI (X:Cx)(tg iter:Expr)(wi:TI):Prop :=
 ∀(pins:List (Addr×Obj)) (s:Shared) (σ:St) (H:Hp) (R:It->Hp->Prop),Inv X pins σ H s->wi σ H R ->
  wpAny (model X.prog X.w) X.A (eval iter X.env) (fun v s1=>wpAny (model X.prog X.w) X.A (pyIter v) (PIE X pins σ tg R) X.xe s1) X.xe s
theorem zfY {M:Model}{A:Around}{E:Value->Shared->Prop}{s:Shared}{tg:Expr}{it:Addr}{u:Value}{o:Obj}{n:String}{vs:Array Value}{Q:Unit->Shared->Prop}(ho:s.heap.get? it=some o)(hc:o.cls=.type n)(hd:o.data=.fields vs)
  (hn:["enumerate","zip","dict_itemiterator","dict_reverseitemiterator","odict_iterator","itertools.zip_longest","itertools.pairwise"].contains n=false) (hQ:Q () s):wpAny M A (letOwnedTupleGo tg (.ref it) u) Q E s:=by
 unfold letOwnedTupleGo
 cases tg <;> first
  | exact wpAny_pure hQ
  | (cases u <;> first
    | exact wpAny_pure hQ
    | (refine wpAny_bind (wpAny_load ho ?_)
       rw [hc,hd]
       show wpAny M A (if (["enumerate","zip","dict_itemiterator","dict_reverseitemiterator","odict_iterator","itertools.zip_longest","itertools.pairwise"].contains n && vs[0]? == some (rawInt _))=true then _ else _) Q E s
       rw [if_neg (by intro h;rw [hn,Bool.false_and] at h;cases h)]
       exact wpAny_pure hQ))
def Itl (K:PySem.W.Frag)(a:Addr):It :=
 ⟨fun i H=>∃xs x,SqL K H a xs/\xs[i]?=some x,fun i H x H'=>H'=H/\∀xs,SqL K H a xs->xs[i]?=some x,fun i H=>∃xs,SqL K H a xs/\xs.length<=i⟩
def Itt (K:PySem.W.Frag)(a:Addr):It :=
 ⟨fun i H=>∃xs x,SqT K H a xs/\xs[i]?=some x,fun i H x H'=>H'=H/\∀xs,SqT K H a xs->xs[i]?=some x,fun i H=>∃xs,SqT K H a xs/\xs.length<=i⟩
def Itr (lo:Int)(n:Nat):It:=⟨fun i _=>i<n,fun i H x H'=>H'=H/\x=.int (lo+i),fun i _=>n<=i⟩
theorem zhq {P:Program}{w:World}{K:PySem.W.Frag}{tg:Expr}(a it:Addr):Turn P w K tg (Itl K a) [it] it (fun i h=>h.IsListIter it a i) where
 mem:=by simp
 obj:=fun i h st b hb=>by
  have e:b=it:=by simpa using hb
  subst e
  obtain ⟨o,e,c,d⟩:=st
  exact ⟨o,e,fun v z=>by rw [d] at z;cases z⟩
 keep:=fun i h h' st k=>st.at fun o e=>k it (by simp) o e
 item:=by
  intro X hP hw hK hc i pins s σ H E I hf st hg
  subst hP hw hK
  obtain ⟨xs,x,hq,hx⟩:=hg
  obtain ⟨its,rv,p,hz⟩:=I.list hq
  obtain ⟨u,hu,ru⟩:=rv.get hx
  obtain ⟨f0,f1,f2,f3,f4,f5⟩:=hf it (by simp)
  refine wpAny_pyNext_list_item st p.isList (x:=u) (by simpa using hu) fun h' st' sb=>?_
  have I1:Inv X pins σ H { s with heap:=h' }:=I.turned (t':=s.toks) (fun b o hb e=>(sb.2 b hb).trans e) f0 f1 f3 f4 f5
  obtain ⟨o,e,c,d⟩:=id st'
  exact ⟨u,rfl,zfY (s:={ s with heap:=h' }) e c d (by decide) ⟨x,H,I1,ru,⟨rfl,fun ys hy=>by rw [I.list_inj hy hq];exact hx⟩,st',fun b hb=>(hf b hb).1⟩⟩
 done:=by
  intro X hP hw hK hc i pins s σ H E I hf st hg
  subst hP hw hK
  obtain ⟨xs,hq,hx⟩:=hg
  obtain ⟨its,rv,p,hz⟩:=I.list hq
  obtain ⟨f0,f1,f2,f3,f4,f5⟩:=hf it (by simp)
  have hl:=rv.length
  exact wpAny_pyNext_list_end (I.ok.hd hc) st p.isList (by simp;omega) fun h' eb=>⟨rfl,I.turned (t':=s.toks) (fun b o hb e=>eb b o hb e) f0 f1 f3 f4 f5⟩
 self:=fun _ _ _ _ _ st h=>wpAny_pyIter_listiter st h
theorem zf6 {P:Program}{w:World}{K:PySem.W.Frag}{tg:Expr}(a it:Addr):Turn P w K tg (Itt K a) [it] it (fun i h=>h.IsTupleIter it a i) where
 mem:=by simp
 obj:=fun i h st b hb=>by
  have e:b=it:=by simpa using hb
  subst e
  obtain ⟨o,e,c,d⟩:=st
  exact ⟨o,e,fun v z=>by rw [d] at z;cases z⟩
 keep:=fun i h h' st k=>st.at fun o e=>k it (by simp) o e
 item:=by
  intro X hP hw hK hc i pins s σ H E I hf st hg
  subst hP hw hK
  obtain ⟨xs,x,hq,hx⟩:=hg
  obtain ⟨its,rv,p,hz⟩:=I.tuple hq
  obtain ⟨u,hu,ru⟩:=rv.get hx
  obtain ⟨f0,f1,f2,f3,f4,f5⟩:=hf it (by simp)
  refine wpAny_pyNext_tuple_item st (show s.heap.IsTuple a its.toArray from p) (x:=u) (by simpa using hu) fun h' st' sb=>?_
  have I1:Inv X pins σ H { s with heap:=h' }:=I.turned (t':=s.toks) (fun b o hb e=>(sb.2 b hb).trans e) f0 f1 f3 f4 f5
  obtain ⟨o,e,c,d⟩:=id st'
  exact ⟨u,rfl,zfY (s:={ s with heap:=h' }) e c d (by decide) ⟨x,H,I1,ru,⟨rfl,fun ys hy=>by rw [I.tuple_inj hy hq];exact hx⟩,st',fun b hb=>(hf b hb).1⟩⟩
 done:=by
  intro X hP hw hK hc i pins s σ H E I hf st hg
  subst hP hw hK
  obtain ⟨xs,hq,hx⟩:=hg
  obtain ⟨its,rv,p,hz⟩:=I.tuple hq
  obtain ⟨f0,f1,f2,f3,f4,f5⟩:=hf it (by simp)
  have hl:=rv.length
  exact wpAny_pyNext_tuple_end (I.ok.hd hc) st (show s.heap.IsTuple a its.toArray from p) (by simp;omega) fun h' eb=>⟨rfl,I.turned (t':=s.toks) (fun b o hb e=>eb b o hb e) f0 f1 f3 f4 f5⟩
 self:=fun _ _ _ _ _ st h=>wpAny_pyIter_tupleiter st h
theorem zf7 {P:Program}{w:World}{K:PySem.W.Frag}{tg:Expr}(it:Addr)(lo:Int)(n:Nat):Turn P w K tg (Itr lo n) [it] it (fun i h=>IsRangeIter h it (lo+(i:Nat)*1) ((n:Int) - (i:Nat)) 1) where
 mem:=by simp
 obj:=fun i h st b hb=>by
  have e:b=it:=by simpa using hb
  subst e
  exact ⟨_,st,fun v z=>by
   have z':Data.fields _=Data.cell v:=z
   cases z'⟩
 keep:=fun i h h' st k=>k it (by simp) _ st
 item:=by
  intro X hP hw hK hc i pins s σ H E I hf st hg
  subst hP hw hK
  obtain ⟨f0,f1,f2,f3,f4,f5⟩:=hf it (by simp)
  have W:=Walks.range (prog:=X.prog) (w:=X.w) (I.ok.hd hc) it lo 1 n
  refine W.item i s _ _ hg st fun v h' tk hv st' kk=>?_
  obtain ⟨t,rfl⟩:=hv
  have I1:Inv X pins σ H { s with heap:=h',toks:=tk }:=I.turned (fun b o hb e=>kk b o (by simpa using hb) e) f0 f1 f3 f4 f5
  refine ⟨_,rfl,zfY (s:={ s with heap:=h',toks:=tk }) (n:="range_iterator") st' rfl rfl (by decide) ⟨.int (lo+i),H,I1,⟨t,?_⟩,⟨rfl,rfl⟩,st',fun b hb=>(hf b hb).1⟩⟩
  rw [Int.mul_one]
 done:=by
  intro X hP hw hK hc i pins s σ H E I hf st hg
  subst hP hw hK
  obtain ⟨f0,f1,f2,f3,f4,f5⟩:=hf it (by simp)
  exact wpAny_pyNext_range_end (I.ok.hd hc) st (by have:n<=i:=hg;omega) fun h' eb=>⟨rfl,I.turned (t':=s.toks) (fun b o hb e=>eb b o hb e) f0 f1 f3 f4 f5⟩
 self:=fun _ _ _ _ _ st h=>wpAny_pyIter_rangeiter st h
section
variable {X:Cx}{tg:Expr}
theorem ziC {pins:List (Addr×Obj)}{σ:St}{H:Hp}{s:Shared}{R:It->Hp->Prop}{E:Value->Shared->Prop}{lo hi:Int}{t u v:Tok}{tk:Nat}(I:Inv X pins σ H s)(h1:-(2 ^ 62)<=lo)(h2:lo<2 ^ 62)(h3:-(2 ^ 62)<=hi)(h4:hi<2 ^ 62)
  (q:R (Itr lo (hi - lo).toNat) H):wpAny (model X.prog X.w) X.A (pyIter (.ref s.heap.objs.size)) (PIE X pins σ tg R) E { s with heap:=s.heap.push { cls:=.type "range",data:=.fields #[.int lo t,.int hi u,.int 1 v] },toks:=tk }:=by
 refine wpAny_pyIter_range (IsRange.new ..) (small_one h1 h2 h3 h4) ?_
 have I1:Inv X pins σ H { s with heap:=s.heap.push { cls:=.type "range",data:=.fields #[.int lo t,.int hi u,.int 1 v] },toks:=tk }:=I.kept fun b o e=>Heap.get?_push_of_some _ e
 refine ⟨(s.heap.push { cls:=.type "range",data:=.fields #[.int lo t,.int hi u,.int 1 v] }).objs.size,[(s.heap.push { cls:=.type "range",data:=.fields #[.int lo t,.int hi u,.int 1 v] }).objs.size],_,_,H,rfl,
  I1.kept (t':=tk) fun b o e=>Heap.get?_push_of_some _ e,zf7 _ lo (hi - lo).toNat,?_,fun b hb=>?_,q⟩
 ·have e1:lo+((0:Nat):Int)*1=lo:=by simp
  have e2:(((hi - lo).toNat:Nat):Int) - ((0:Nat):Int)=Builtin.Range.rangeSize lo hi 1:=by rw [rangeSize_one];split <;> omega
  show IsRangeIter _ _ (lo+((0:Nat):Int)*1) ((((hi - lo).toNat:Nat):Int) - ((0:Nat):Int)) 1
  rw [e1,e2]
  exact Heap.get?_push_size _ rfl
 ·have e:b=(s.heap.push { cls:=.type "range",data:=.fields #[.int lo t,.int hi u,.int 1 v] }).objs.size:=by simpa using hb
  subst e
  exact I1.fpOk (Nat.le_refl _) (I1.hok.fresh (Nat.le_refl _))
def iRng1 (ta:TA):TI:=fun σ H R=>ta σ H fun vs H1=>∃j:Int,vs=[.int j]/\-(2 ^ 62)<=j/\j<2 ^ 62/\R (Itr 0 j.toNat) H1
theorem zgX {a:Expr}{ta:TA}{p pos:Pos}(hg:Gl X "range")(hm:X.mg "range"=none)(ha:PA X [a] ta)(hs:starEach [a] X.env=[(false,eval a X.env)]:=by rfl):PI X tg (.Call (.Name "range" p) [a] [] pos) (iRng1 ta):=by
 intro pins s σ H R I h
 refine Call_ (zdq I hg hm boot_range (PyProof.Rows.callWith_type1 (thn (ha pos pins s σ H _ I h) fun us s1 ⟨vs,H1,I1,r1,q1⟩=>?_) hs rfl))
 obtain ⟨j,e,q1,q2,q⟩:=q1
 subst e
 cases r1 with
 |cons r rr =>
  cases rr
  obtain ⟨t,rfl⟩:=r
  exact call_range_1 (ziC I1 (by omega) (by omega) q1 q2 (by simpa using q))
def tFor (wi:TI)(g:TG)(tb:TS):TS:=fun D σ H=>wi σ H fun J H1=>∃W:Nat->Nat->St->Hp->Prop,(∃m,W 0 m σ H1)/\∀i m σ H,W i m σ H ->
 (J.stop i H/\D.nx σ H) \/ (J.go i H/\∃N:St->Hp->Prop,(∀σ' H',N σ' H'->∃m',m' < m/\W (i+1) m' σ' H')/\∀x H',J.yld i H x H'->g x σ H' fun σ2 H2=>tb { D with nx:=N,ct:=N,bk:=D.nx } σ2 H2)
def pinsAt (fp:List Addr)(h:Heap):List (Addr×Obj):=fp.filterMap fun b=>(h.get? b).map fun o=>(b,o)
theorem z0 {fp:List Addr}{h:Heap}{b:Addr}{o:Obj}(hb:b∈fp)(e:h.get? b=some o):(b,o)∈pinsAt fp h:=List.mem_filterMap.mpr ⟨b,hb,by rw [e];rfl⟩
theorem zgr {fp:List Addr}{h:Heap}{p:Addr×Obj}(hp:p∈pinsAt fp h):p.1∈fp/\h.get? p.1=some p.2:=by
 obtain ⟨b,hb,e⟩:=List.mem_filterMap.mp hp
 cases q:h.get? b with
 |none=>rw [q] at e;cases e
 |some o =>
  rw [q] at e
  have e':(b,o)=p:=Option.some.inj e
  subst e'
  exact ⟨hb,q⟩
theorem Inv.pinned {pins:List (Addr×Obj)}{σ:St}{H:Hp}{s:Shared}{fp:List Addr}(I:Inv X pins σ H s)(hf:∀b∈fp,FpOk X pins H b)(ho:∀b∈fp,∃o,s.heap.get? b=some o/\∀v,o.data ≠ .cell v):Inv X (pins++pinsAt fp s.heap) σ H s :=
 I.pins_of fun p hp=>(List.mem_append.mp hp).elim (fun z=>I.pin p (List.mem_append_right _ z)) fun z=>by
  obtain ⟨hb,e⟩:=zgr z
  obtain ⟨f0,f1,f2,_⟩:=hf p.1 hb
  obtain ⟨o,e',d⟩:=ho p.1 hb
  rw [e] at e';cases e'
  exact ⟨e,f0,f1,f2,d⟩
theorem Inv.unpinned {pins pl:List (Addr×Obj)}{σ:St}{H:Hp}{s:Shared}(I:Inv X (pins++pl) σ H s):Inv X pins σ H s:=I.pins_of fun p hp=>I.pin p (List.mem_append_right _ (List.mem_append_left _ hp))
theorem zlH {iter:Expr}{body:List Stmt}{wi:TI}{g:TG}{tb:TS}{pos:Pos}(hp:PassesOwn (model X.prog X.w) X.A X.env X.xe)(hc:X.calm=true)(hi:PI X tg iter wi)(hg:PG X tg g)(hb:PSs X body tb)
  (hs:∀x,foldedSetIterable iter X.env x=pure x:=by intro _;rfl):PS X (.For tg iter body [] pos) (tFor wi g tb):=by
 intro pins s σ H D I h
 refine wpAny_For (thn (hi pins s σ H _ I h) fun v s1 h1=>thn h1 fun itv s2 h2=>?_) hs
 obtain ⟨it,fp,tn,J,H2,e,I2,T,st2,f2,W,⟨m0,w0⟩,turn⟩:=h2
 subst e
 have stat:∀{H':Hp},(∀b∈fp,H' b=none)->∀b∈fp,FpOk X pins H' b:=fun hn b hb=>⟨hn b hb,(f2 b hb).2⟩
 refine codeAny_forLoop_any (fun n s'=>∃i σ' H',Inv X pins σ' H' s'/\tn i s'.heap/\(∀b∈fp,H' b=none)/\W i n σ' H') ?_ m0 ⟨0,σ,H2,I2,st2,fun b hb=>(f2 b hb).1,w0⟩
 rintro n s3 ⟨i,σ3,H3,I3,st3,fr3,w3⟩
 rcases turn i n σ3 H3 w3 with ⟨stop,qn⟩|⟨go,N,hN,step⟩
 ·refine wpAny_passesOwn hp (thn (T.done X rfl rfl rfl hc i pins s3 σ3 H3 X.xe I3 (stat fr3) st3 stop) fun r s4 ⟨hr,I4⟩=>?_)
  subst hr
  exact wpAny_execs_nil ⟨σ3,H3,I4,qn⟩
 ·refine wpAny_passesOwn hp (thn (T.item X rfl rfl rfl hc i pins s3 σ3 H3 X.xe I3 (stat fr3) st3 go) fun r s4 ⟨u,hr,h4⟩=>?_)
  subst hr
  refine wpAny_passesOwn hp (thn h4 fun _ s5 ⟨x,H5,I5,r5,y5,st5,fr5⟩=>?_)
  have I5':=I5.pinned (stat fr5) (T.obj _ _ st5)
  refine wpAny_passesOwn hp (thn (hg _ s5 σ3 H5 x u _ I5' r5 (step x H5 y5)) fun _ s6 ⟨σ6,H6,I6,q6⟩=>?_)
  refine wpAny_passesOwn hp (thn (hb _ s6 σ6 H6 _ I6 q6) fun f s7 q7=>?_)
  have again:∀{σ7:St} {H7:Hp},Inv X (pins++pinsAt fp s5.heap) σ7 H7 s7->N σ7 H7->∃m,m<n/\∃i σ' H',Inv X pins σ' H' s7/\tn i s7.heap/\(∀b∈fp,H' b=none)/\W i m σ' H':=fun {σ7 H7} I7 n7=>by
   obtain ⟨m',hm,w7⟩:=hN σ7 H7 n7
   refine ⟨m',hm,i+1,σ7,H7,I7.unpinned,T.keep _ _ _ st5 fun b hb o e=>(I7.pin (b,o) (List.mem_append_right _ (List.mem_append_right _ (z0 hb e)))).1,fun b hb=>?_,w7⟩
   obtain ⟨o,e,d⟩:=T.obj _ _ st5 b hb
   exact (I7.pin (b,o) (List.mem_append_right _ (List.mem_append_right _ (z0 hb e)))).2.1
  cases f with
  |next=>obtain ⟨σ7,H7,I7,n7⟩:=q7;exact again I7 n7
  |cont=>obtain ⟨σ7,H7,I7,n7⟩:=q7;exact again I7 n7
  |brk=>obtain ⟨σ7,H7,I7,q7⟩:=q7;exact ⟨σ7,H7,I7.unpinned,q7⟩
  |ret v=>obtain ⟨x7,σ7,H7,I7,r7,q7⟩:=q7;exact ⟨x7,σ7,H7,I7.unpinned,r7,q7⟩
end
abbrev R2:=V->V->Hp->VK->Prop
def OpR (X:Cx)(f:Value->Value->Sem Value)(r:R2):Prop :=
 ∀(pins:List (Addr×Obj)) (s:Shared) (σ:St) (H:Hp) (x y:V) (v u:Value) (Q:VK),Inv X pins σ H s->RelV x v->RelV y u->r x y H Q ->
  wpAny (model X.prog X.w) X.A (f v u) (EP X pins σ Q) X.xe s
def UnR (X:Cx)(f:Value->Sem Value)(r:V->Hp->VK->Prop):Prop :=
 ∀(pins:List (Addr×Obj)) (s:Shared) (σ:St) (H:Hp) (x:V) (v:Value) (Q:VK),Inv X pins σ H s->RelV x v->r x H Q ->
  wpAny (model X.prog X.w) X.A (f v) (EP X pins σ Q) X.xe s
def CallR (X:Cx)(f:Value)(r:List V->Hp->VK->Prop):Prop :=
 ∀(pins:List (Addr×Obj)) (s:Shared) (σ:St) (H:Hp) (xs:List V) (us:List Value) (Q:VK),Inv X pins σ H s->Vals xs us->r xs H Q ->
  wpAny (model X.prog X.w) X.A (call f us) (EP X pins σ Q) X.xe s
def TruR (X:Cx)(r:V->Hp->(Bool->Hp->Prop)->Prop):Prop :=
 ∀(pins:List (Addr×Obj)) (s:Shared) (σ:St) (H:Hp) (x:V) (v:Value) (Q:Bool->Hp->Prop),Inv X pins σ H s->RelV x v->r x H Q ->
  wpAny (model X.prog X.w) X.A (truthy v) (TP X pins σ Q) X.xe s
def tOp (r:R2)(ta tb:TE):TE:=fun σ H Q=>ta σ H fun x H1=>tb σ H1 fun y H2=>r x y H2 Q
def tUn (r:V->Hp->VK->Prop)(ta:TE):TE:=fun σ H Q=>ta σ H fun x H1=>r x H1 Q
def rI (C:Int->Int->Prop)(g:Int->Int->V):R2:=fun x y H Q=>∃i j,x=.int i/\y=.int j/\C i j/\Q (g i j) H
def rI0 (g:Int->Int->V):R2:=fun x y H Q=>∃i j,x=.int i/\y=.int j/\Q (g i j) H
def rU (g:Int->V):V->Hp->VK->Prop:=fun x H Q=>∃i,x=.int i/\Q (g i) H
section
variable {X:Cx}{a b c:Expr}{ta tb tc:TE}{pos:Pos}
theorem binT (ha:PE X a ta)(hb:PE X b tb){pins:List (Addr×Obj)}{s:Shared}{σ:St}{H:Hp}{R:V->V->Hp->Prop}(I:Inv X pins σ H s)
  (h:ta σ H fun x H1=>tb σ H1 fun y H2=>R x y H2) {Q:Value->Shared->Prop} {f:Value->Value->Sem Value}
  (hf:∀v u s2 x y H2,Inv X pins σ H2 s2->RelV x v->RelV y u->R x y H2->wpAny (model X.prog X.w) X.A (f v u) Q X.xe s2) :
  wpAny (model X.prog X.w) X.A (eval a X.env) (fun v s₁=>wpAny (model X.prog X.w) X.A (eval b X.env) (fun u s₂=>wpAny (model X.prog X.w) X.A (f v u) Q X.xe s₂) X.xe s₁) X.xe s:=by
 refine thn (ha pins s σ H _ I h) fun v s1 ⟨x,H1,I1,r1,q1⟩=>?_
 refine thn (hb pins s1 σ H1 _ I1 q1) fun u s2 ⟨y,H2,I2,r2,q2⟩=>?_
 exact hf v u s2 x y H2 I2 r1 r2 q2
theorem zlQ {op:Operator}{r:R2}(ho:OpR X (binaryOp op) r)(ha:PE X a ta)(hb:PE X b tb):PE X (.BinOp a op b pos) (tOp r ta tb):=by
 intro pins s σ H Q I h
 exact wpAny_BinOp (binT ha hb I h fun v u s2 x y H2 I2 rx ry q=>ho pins s2 σ H2 x y v u Q I2 rx ry q)
theorem zmt {op:UnaryOp}{r:V->Hp->VK->Prop}(ho:UnR X (unaryOp op) r)(ha:PE X a ta):PE X (.UnaryOp op a pos) (tUn r ta):=by
 intro pins s σ H Q I h
 exact UnaryOp_ (thn (ha pins s σ H _ I h) fun v s1 ⟨x,H1,I1,r1,q1⟩=>ho pins s1 σ H1 x v Q I1 r1 q1)
theorem opI {f:Value->Value->Sem Value}{C:Int->Int->Prop}{g:Int->Int->Int}
  (rule:∀(i j:Int) (t u:Tok) (s:Shared) (Q:Value->Shared->Prop) (E:Value->Shared->Prop),C i j->Q (.int (g i j) s.toks) { s with toks:=s.toks+1 }->wpAny (model X.prog X.w) X.A (f (.int i t) (.int j u)) Q E s) :
  OpR X f (rI C fun i j=>.int (g i j)):=by
 intro pins s σ H x y v u Q I rx ry h
 obtain ⟨i,j,rfl,rfl,hc,q⟩:=h
 obtain ⟨t,rfl⟩:=rx
 obtain ⟨t',rfl⟩:=ry
 exact rule i j t t' s _ _ hc ⟨.int (g i j),H,I.tok _,⟨_,rfl⟩,q⟩
theorem opI0 {f:Value->Value->Sem Value}{g:Int->Int->Int}
  (rule:∀(i j:Int) (t u:Tok) (s:Shared) (Q:Value->Shared->Prop) (E:Value->Shared->Prop),Q (.int (g i j) s.toks) { s with toks:=s.toks+1 }->wpAny (model X.prog X.w) X.A (f (.int i t) (.int j u)) Q E s) :
  OpR X f (rI0 fun i j=>.int (g i j)):=by
 intro pins s σ H x y v u Q I rx ry h
 obtain ⟨i,j,rfl,rfl,q⟩:=h
 obtain ⟨t,rfl⟩:=rx
 obtain ⟨t',rfl⟩:=ry
 exact rule i j t t' s _ _ ⟨.int (g i j),H,I.tok _,⟨_,rfl⟩,q⟩
theorem opB0 {f:Value->Value->Sem Value}{g:Int->Int->Bool}
  (rule:∀(i j:Int) (t u:Tok) (s:Shared) (Q:Value->Shared->Prop) (E:Value->Shared->Prop),Q (.bool (g i j)) s->wpAny (model X.prog X.w) X.A (f (.int i t) (.int j u)) Q E s) :
  OpR X f (rI0 fun i j=>.bl (g i j)):=by
 intro pins s σ H x y v u Q I rx ry h
 obtain ⟨i,j,rfl,rfl,q⟩:=h
 obtain ⟨t,rfl⟩:=rx
 obtain ⟨t',rfl⟩:=ry
 exact rule i j t t' s _ _ ⟨.bl (g i j),H,I,rfl,q⟩
def CPow (i j:Int):Prop:=0<=j/\j<=1000000/\i.natAbs<2 ^ 64
def CMul (i j:Int):Prop:=(-(2 ^ 64)<i/\i<2 ^ 64) \/ (-(2 ^ 64)<j/\j<2 ^ 64)
theorem CMul.ok {i j:Int}(h:CMul i j):IntMulOk i j:=by
 rcases h with ⟨h1,h2⟩|⟨h1,h2⟩
 ·exact .of_left (intBits_le_64 h1 h2)
 ·exact .of_right (intBits_le_64 h1 h2)
theorem zmi:OpR X (binaryOp .Add) (rI0 fun i j=>.int (i+j)):=opI0 fun _ _ _ _ _ _ _ q=>add_int q
theorem zlb:OpR X (binaryOp .Sub) (rI0 fun i j=>.int (i - j)):=opI0 fun _ _ _ _ _ _ _ q=>sub_int q
theorem zkR:OpR X (binaryOp .Mult) (rI CMul fun i j=>.int (i*j)):=opI fun _ _ _ _ _ _ _ hc q=>mul_int q hc.ok
theorem zkQ:OpR X (binaryOp .Mod) (rI (fun _ j=>0<j) fun i j=>.int (i % j)):=opI fun i j _ _ _ _ _ hc q=>by
 have h1:(0:Int)<j:=hc
 exact mod_int' (by omega) (by rw [Int.fmod_eq_emod_of_nonneg i (by omega)];exact q)
theorem zl8:OpR X (binaryOp .Pow) (rI CPow fun i j=>.int (i ^ j.toNat)):=opI fun _ _ _ _ _ _ _ hc q=>pow_int_small hc.1 hc.2.1 hc.2.2 q
theorem unI {f:Value->Sem Value}{g:Int->Int}
  (rule:∀(i:Int) (t:Tok) (s:Shared) (Q:Value->Shared->Prop) (E:Value->Shared->Prop),Q (.int (g i) s.toks) { s with toks:=s.toks+1 }->wpAny (model X.prog X.w) X.A (f (.int i t)) Q E s) :
  UnR X f (rU fun i=>.int (g i)):=by
 intro pins s σ H x v Q I rx h
 obtain ⟨i,rfl,q⟩:=h
 obtain ⟨t,rfl⟩:=rx
 exact rule i t s _ _ ⟨.int (g i),H,I.tok _,⟨_,rfl⟩,q⟩
theorem zkO:UnR X (unaryOp .USub) (rU fun i=>.int (-i)):=unI fun _ _ _ _ _ q=>neg_int q
theorem zgy:OpR X (binaryOp .Add) (fun x y H Q=>∃i k,x=.int i/\y=.bl k/\Q (.int (i+b2i k)) H):=by
 intro pins s σ H x y v u Q I rx ry h
 obtain ⟨i,k,rfl,rfl,q⟩:=h
 obtain ⟨t,rfl⟩:=rx
 cases ry
 exact add_int_bool ⟨.int (i+b2i k),H,I.tok _,⟨_,rfl⟩,q⟩
end
section
variable {X:Cx}{a b c:Expr}{ta tb tc:TE}{pos:Pos}
theorem zeE {pins:List (Addr×Obj)}{σ:St}{H:Hp}{s:Shared}{Q:VK}{k k':Bool}(I:Inv X pins σ H s)(q:Q (.bl k) H)(e:k=k'):EP X pins σ Q (.bool k') s:=by
 subst e
 exact ⟨.bl k,H,I,rfl,q⟩
theorem zmz:OpR X (compareOp .Lt) (rI0 fun i j=>.bl (decide (i<j))):=opB0 fun _ _ _ _ _ _ _ q=>lt_int q
theorem zmr:OpR X (compareOp .LtE) (rI0 fun i j=>.bl (decide (i<=j))):=opB0 fun _ _ _ _ _ _ _ q=>le_int q
theorem zmw:OpR X (compareOp .Gt) (rI0 fun i j=>.bl (decide (j<i))):=opB0 fun _ _ _ _ _ _ _ q=>gt_int q
theorem zmH:OpR X (compareOp .GtE) (rI0 fun i j=>.bl (decide (j<=i))):=opB0 fun _ _ _ _ _ _ _ q=>ge_int q
theorem zhQ:OpR X (compareOp .Lt) (fun x y H Q=>∃i j,x=.str i/\y=.str j/\Q (.bl (decide (i.cps.toList<j.cps.toList))) H):=by
 intro pins s σ H x y v u Q I rx ry h
 obtain ⟨i,j,rfl,rfl,q⟩:=h
 obtain ⟨t,rfl⟩:=rx
 obtain ⟨t',rfl⟩:=ry
 exact lt_str (zeE I q rfl)
theorem zk6:OpR X (compareOp .Is) (fun x y H Q=>y=.non/\Q (.bl (decide (x=.non))) H):=by
 intro pins s σ H x y v u Q I rx ry h
 obtain ⟨rfl,q⟩:=h
 cases ry
 refine is_none_gen (zeE I q ?_)
 cases x <;> first
  | (cases rx;rfl)
  | (obtain ⟨t,rfl⟩:=rx;rfl)
theorem zeB:OpR X (compareOp .NotIn) (fun x y H Q=>∃i j,x=.str i/\y=.str j/\Q (.bl (!(!(Builtin.Str.occurrences j i 0 j.length 1).isEmpty))) H):=by
 intro pins s σ H x y v u Q I rx ry h
 obtain ⟨i,j,rfl,rfl,q⟩:=h
 obtain ⟨t,rfl⟩:=rx
 obtain ⟨t',rfl⟩:=ry
 exact notIn_str (zeE I q rfl)
theorem nomark (b:Expr){op:CmpOp}(h:op ≠ .In:=by decide)(h2:op ≠ .NotIn:=by decide):behindInMarks op b=false:=by
 have e1:(op == CmpOp.In)=false:=by cases op <;> first|rfl|exact absurd rfl h
 have e2:(op == CmpOp.NotIn)=false:=by cases op <;> first|rfl|exact absurd rfl h2
 cases b <;> simp [behindInMarks,e1,e2]
theorem zjD {op:CmpOp}{r:R2}(ho:OpR X (compareOp op) r)(ha:PE X a ta)(hb:PE X b tb)(hm:behindInMarks op b=false):PE X (.Compare a [op] [b] pos) (tOp r ta tb):=by
 intro pins s σ H Q I h
 exact wpAny_Compare1 (binT ha hb I h fun v u s2 x y H2 I2 rx ry q=>ho pins s2 σ H2 x y v u Q I2 rx ry q) hm
def tTest (t:TE):TT:=fun σ H Q=>t σ H fun x H'=>∃k,x=.bl k/\Q k H'
theorem zkq {op:CmpOp}{r:R2}(ho:OpR X (compareOp op) r)(ha:PE X a ta)(hb:PE X b tb)(hm:behindInMarks op b=false):PT X (.Compare a [op] [b] pos) (tTest (tOp r ta tb)):=by
 intro pins s σ H Q I h
 refine wpAny_isTrue_Compare1 (thn (ha pins s σ H _ I h) fun v s1 ⟨x,H1,I1,r1,q1⟩=>thn (hb pins s1 σ H1 _ I1 q1) fun u s2 ⟨y,H2,I2,r2,q2⟩ =>
  thn (ho pins s2 σ H2 x y v u _ I2 r1 r2 q2) fun c s3 ⟨z,H3,I3,r3,k,e,q3⟩=>?_) hm
 subst e
 cases r3
 exact wpAny_truthy_bool ⟨H3,I3,q3⟩
def tChain (r r':R2)(ta tb tc:TE):TE:=fun σ H Q=>ta σ H fun x H1=>tb σ H1 fun y H2=>r x y H2 fun z H3=>∃k,z=.bl k /\
 (if k=true then tc σ H3 fun w' H4=>r' y w' H4 Q else Q (.bl false) H3)
theorem zif {op op':CmpOp}{r r':R2}(ho:OpR X (compareOp op) r)(ho':OpR X (compareOp op') r')(ha:PE X a ta)(hb:PE X b tb)(hc:PE X c tc)
  (hm:lastMarks [op,op'] [b,c]=false:=by with_unfolding_all rfl):PE X (.Compare a [op,op'] [b,c] pos) (tChain r r' ta tb tc):=by
 intro pins s σ H Q I h
 refine Compare_chain (thn (ha pins s σ H _ I h) fun v s1 ⟨x,H1,I1,r1,q1⟩=>chain_link (thn (hb pins s1 σ H1 _ I1 q1) fun u s2 ⟨y,H2,I2,r2,q2⟩ =>
  thn (ho pins s2 σ H2 x y v u _ I2 r1 r2 q2) fun d s3 ⟨z,H3,I3,r3,k,e,q3⟩=>?_)) hm
 subst e
 cases r3
 refine wpAny_truthy_bool ?_
 cases k with
 |false=>exact ite_ff ⟨.bl false,H3,I3,rfl,q3⟩
 |true=>exact ite_tt (chain_last (thn (hc pins s3 σ H3 _ I3 q3) fun w' s4 ⟨z',H4,I4,r4,q4⟩=>ho' pins s4 σ H4 y z' u w' Q I4 r2 r4 q4))
theorem ziL {op op':CmpOp}{r r':R2}(ho:OpR X (compareOp op) r)(ho':OpR X (compareOp op') r')(ha:PE X a ta)(hb:PE X b tb)(hc:PE X c tc)
  (hm:lastMarks [op,op'] [b,c]=false:=by with_unfolding_all rfl):PT X (.Compare a [op,op'] [b,c] pos) (tTest (tChain r r' ta tb tc)):=by
 intro pins s σ H Q I h
 refine isTrue_chain (thn (ha pins s σ H _ I h) fun v s1 ⟨x,H1,I1,r1,q1⟩=>test_link (thn (hb pins s1 σ H1 _ I1 q1) fun u s2 ⟨y,H2,I2,r2,q2⟩ =>
  thn (ho pins s2 σ H2 x y v u _ I2 r1 r2 q2) fun d s3 ⟨z,H3,I3,r3,k,e,q3⟩=>?_)) hm
 subst e
 cases r3
 refine wpAny_truthy_bool ?_
 cases k with
 |false =>
  obtain ⟨k',e',q'⟩:=q3
  cases e'
  exact ite_ff ⟨H3,I3,q'⟩
 |true =>
  refine ite_tt (test_last (thn (hc pins s3 σ H3 _ I3 q3) fun w' s4 ⟨z',H4,I4,r4,q4⟩=>thn (ho' pins s4 σ H4 y z' u w' _ I4 r2 r4 q4) fun d' s5 ⟨z2,H5,I5,r5,k2,e2,q5⟩=>?_))
  subst e2
  cases r5
  exact wpAny_truthy_bool ⟨H5,I5,q5⟩
def TruV (K:PySem.W.Frag)(x:V)(H:Hp)(k:Bool):Prop :=
 match x with
 | .non=>k=false
 | .bl b=>k=b
 | .int i=>k=(i != 0)
 | .str y=>y.length<=sizeLine/\k=((y.length:Int) != 0)
 | .byt y=>y.size<=sizeLine/\k=((y.size:Int) != 0)
 | .ref p=>(∃xs,SqL K H p xs/\k=!xs.isEmpty) \/ (∃xs,SqT K H p xs/\k=!xs.isEmpty) \/ ∃kvs,H p=some (.dK kvs)/\k=!kvs.isEmpty
 |_=>False
theorem zf9 {κ:Type}{kvs:List (κ×V)}{vs:List (κ×Value)}(r:KV kvs vs):(!vs.isEmpty)=!kvs.isEmpty:=by
 cases r <;> rfl
theorem zdf {xs:List V}{its:List Value}(r:Vals xs its):(!its.toArray.isEmpty)=!xs.isEmpty:=by
 cases r <;> simp
theorem line63:(sizeLine:Nat)<2 ^ 63:=by rw [sizeLine_eq];decide
theorem zkP:TruR X (fun x H Q=>∃k,TruV X.K x H k/\Q k H):=by
 intro pins s σ H x v Q I rx h
 obtain ⟨k,e,q⟩:=h
 have hl:=line63
 have hs:sizeLine=16777216:=sizeLine_eq
 cases x with
 |non =>
  cases rx
  have e':k=false:=e
  subst e'
  exact truthy_none ⟨H,I,q⟩
 |bl b =>
  cases rx
  have e':k=b:=e
  subst e'
  exact wpAny_truthy_bool ⟨H,I,q⟩
 |int i =>
  obtain ⟨t,rfl⟩:=rx
  have e':k=(i != 0):=e
  subst e'
  exact PySem.P.truthy_int ⟨H,I,q⟩
 |str y =>
  obtain ⟨t,rfl⟩:=rx
  obtain ⟨hy,e'⟩:y.length<=sizeLine/\k=((y.length:Int) != 0):=e
  subst e'
  exact PySem.P.truthy_str (by omega) ⟨H,I.tok _,q⟩
 |byt y =>
  obtain ⟨t,rfl⟩:=rx
  obtain ⟨hy,e'⟩:y.size<=sizeLine/\k=((y.size:Int) != 0):=e
  subst e'
  exact PySem.W.truthy_bytes (by omega) ⟨H,I.tok _,q⟩
 |ref p =>
  cases rx
  have e':(∃xs,SqL X.K H p xs/\k=!xs.isEmpty) \/ (∃xs,SqT X.K H p xs/\k=!xs.isEmpty) \/ ∃kvs,H p=some (.dK kvs)/\k=!kvs.isEmpty:=e
  rcases e' with ⟨xs,hx,e'⟩|⟨xs,hx,e'⟩|⟨kvs,hx,e'⟩
  ·subst e'
   obtain ⟨its,r,pl,hz⟩:=I.list hx
   have hlen:=r.length
   exact wpAny_truthy_list pl.isList (by simp only [List.size_toArray];omega) ⟨H,I.tok _,by rw [zdf r];exact q⟩
  ·subst e'
   obtain ⟨its,r,pl,hz⟩:=I.tuple hx
   have hlen:=r.length
   exact truthy_tuple pl (by simp only [List.size_toArray];omega) ⟨H,I.tok _,by rw [zdf r];exact q⟩
  ·subst e'
   obtain ⟨hz,hS,vs,r,m⟩:kvs.length<=sizeLine/\(p == sysModules)=false/\∃vs,KV kvs vs/\s.heap.DictOf (mixKind X.prog X.w) p vs:=I.hok p _ hx
   have hlen:kvs.length=vs.length:=Paired.length r
   exact wpAny_truthy_dict hS m (by omega) ⟨H,I.tok _,by rw [zf9 r];exact q⟩
 |_=>exact (show False from e).elim
theorem ziK (ha:PE X a ta)(he:∀whole,isTrue a X.env whole=(do let v <- whole;standAt a.pos;holding [v] (truthy v))) :
  PT X a (fun σ H Q=>ta σ H fun x H'=>∃k,TruV X.K x H' k/\Q k H'):=by
 intro pins s σ H Q I h
 exact isTrue_plain (thn (ha pins s σ H _ I h) fun v s1 ⟨x,H1,I1,r1,q1⟩=>zkP pins s1 σ H1 x v Q I1 r1 q1) (he _)
theorem zgk:OpR X (binaryOp .Add) (fun x y H Q=>∃i j,x=.str i/\y=.str j/\i.length+j.length<=sizeLine/\Q (.str (i++j)) H):=by
 intro pins s σ H x y v u Q I rx ry h
 obtain ⟨i,j,rfl,rfl,hz,q⟩:=h
 obtain ⟨t,rfl⟩:=rx
 obtain ⟨t',rfl⟩:=ry
 exact add_str (fun t' tk=>⟨.str (i++j),H,I.tok _,⟨_,rfl⟩,q⟩) hz
theorem vals1 {x:V}{us:List Value}(r:Vals [x] us):∃u,us=[u]/\RelV x u:=by
 cases r with
 |cons r1 r2=>cases r2;exact ⟨_,rfl,r1⟩
theorem vals2 {x y:V}{us:List Value}(r:Vals [x,y] us):∃u w',us=[u,w']/\RelV x u/\RelV y w':=by
 cases r with
 |cons r1 r2 =>
  cases r2 with
  |cons r3 r4=>cases r4;exact ⟨_,_,rfl,r1,r3⟩
end
section
variable {prog:Program}{w:World}{A:Around}{E:Value->Shared->Prop}{s:Shared}{K:PySem.W.Frag}{x dx C f:Addr}{mA:Str->Option Value}{name:Str}{v:Value}
end
section
variable {P:Program}{w:World}{H H':Hp}{h h':Heap}{a C dx:Addr}{fs fs':List (Str×V)}
end
section
variable {X:Cx}{pins:List (Addr×Obj)}{σ:St}{H:Hp}{s:Shared}{a C dx:Addr}{fs:List (Str×V)}{f:Str}{v:V}{A:Around}{E:Value->Shared->Prop}
end
section
variable {X:Cx}{o e value:Expr}{f:Str}{pos pos' tpos:Pos}{ta tv:TE}
end
section
variable {X:Cx}{pins:List (Addr×Obj)}{σ:St}{H:Hp}{s:Shared}{A:Around}{E:Value->Shared->Prop}{Q:Value->Shared->Prop}{c:Value}{b:Bool}
end
structure Room (k:Nat)(A:Around):Prop where
 hd:A.handled=none
 dp:A.depth+3*k+5<recursionLimit
 un:A.units+16*k+200<cLine
theorem Room.deeper {k:Nat}{A:Around}(r:Room (k+1) A)(env:Env):Room k (A.deeper env) :=
 ⟨r.hd,by have:=r.dp;show A.depth+1+3*k+5<_;omega,by have:=r.un;show A.units+3+16*k+200<_;omega⟩
theorem Room.depth {k:Nat}{A:Around}(r:Room k A):A.depth<recursionLimit:=by have:=r.dp;omega
theorem Room.units {k:Nat}{A:Around}(r:Room k A):A.units+64<cLine:=by have:=r.un;omega
def tNil:TA:=fun _ H Q=>Q [] H
def tCons (ta:TE)(tr:TA):TA:=fun σ H Q=>ta σ H fun x H1=>tr σ H1 fun xs H2=>Q (x::xs) H2
section
variable {X:Cx}{e:Expr}{es:List Expr}{te:TE}{t:TA}{pos:Pos}
theorem pa_nil:PA X [] tNil:=fun _ _ _ _ H Q I h=>Calls.spliced_nil ⟨[],H,I,.nil,h⟩
theorem zae (ha:PE X e te)(hr:PA X es t)(hs:starEach (e::es) X.env=(false,eval e X.env)::starEach es X.env:=by rfl):PA X (e::es) (tCons te t):=by
 intro pos pins s σ H Q I h
 rw [hs]
 show wpAny _ _ (spliced ((false,eval e X.env)::backTo pos (starEach es X.env))) _ _ s
 refine Calls.spliced_cons (thn (ha pins s σ H _ I h) fun u s1 ⟨x,H1,I1,r1,q1⟩=>?_)
 exact thn (hr pos pins s1 σ H1 _ I1 q1) fun us s2 ⟨xs,H2,I2,r2,q2⟩=>⟨x::xs,H2,I2,.cons r1 r2,q2⟩
def tTup (t:TA):TE:=fun σ H Q=>t σ H fun xs H1=>xs.length<=sizeLine/\∀p,H1 p=none->Q (.ref p) (upd H1 p (.tup xs))
def tLst (t:TA):TE:=fun σ H Q=>t σ H fun xs H1=>xs.length<=sizeLine/\∀p,H1 p=none->Q (.ref p) (upd H1 p (.lst xs))
theorem zjd {x1}(h:PA X es t):PE X (.Tuple es x1 pos) (tTup t):=by
 intro pins s σ H Q I hq
 refine wpAny_Tuple_spliced (thn (h pos pins s σ H _ I hq) fun us s1 ⟨xs,H1,I1,r,z,q⟩=>⟨by rw [<- r.length];exact z,?_⟩)
 have hf:H1 s1.heap.objs.size=none:=I1.hok.fresh (Nat.le_refl _)
 refine ⟨.ref s1.heap.objs.size,upd H1 s1.heap.objs.size (.tup xs),I1.laid (t':=s1.toks) (fun b u e=>Heap.get?_push_of_some _ e) (Nat.le_refl _) ?_,rfl,q _ hf⟩
 exact ⟨z,us,r,⟨_,Heap.get?_push_size _ rfl,rfl,_,rfl⟩⟩
theorem zjp (h:PA X es t):PE X (.List es pos) (tLst t):=by
 intro pins s σ H Q I hq
 refine wpAny_List_spliced (thn (h pos pins s σ H _ I hq) fun us s1 ⟨xs,H1,I1,r,z,q⟩=>⟨by rw [<- r.length];exact z,?_⟩)
 have hf:H1 s1.heap.objs.size=none:=I1.hok.fresh (Nat.le_refl _)
 refine ⟨.ref s1.heap.objs.size,upd H1 s1.heap.objs.size (.lst xs),I1.laid (t':=s1.toks) (fun b u e=>Heap.get?_push_of_some _ e) (Nat.le_refl _) ?_,rfl,q _ hf⟩
 exact ⟨z,us,0,r,Heap.get?_push_size _ rfl⟩
end
abbrev Sp:=List V->Hp->VK->XK->Prop
abbrev CXT:=List Env->Hp->Shared->XK->Value->Shared->Prop
structure Env0 (P:Program)(w:World)(K:PySem.W.Frag)(mg:Str->Option Value)(base:Heap)(A:Around)(outer:List Env)(s:Shared)(H:Hp):Prop where
 frames:A.frames=some outer
 mod:Mod K mg base
 bs:∀b o,base.get? b=some o->s.heap.get? b=some o/\H b=none
 bsz:base.objs.size<=s.heap.objs.size
 funs:s.heap.FunFrames base outer
 frf:∀b∈frs outer,H b=none
 hok:HOk P w H s.heap
 bare:AllBare s.gens
def CE (outer:List Env)(P:Program)(w:World)(H:Hp)(s:Shared)(Q:VK)(u:Value)(s':Shared):Prop :=
 ∃v H',s'.os=s.os/\AllBare s'.gens/\Un (frs outer) [] H H' s.heap s'.heap/\HOk P w H' s'.heap/\RelV v u/\Q v H'
def CR (CX:CXT)(outer:List Env)(P:Program)(w:World)(H:Hp)(s:Shared)(Q:VK)(E:XK)(r:Result)(s':Shared):Prop :=
 match r with
 | .ok (.ret u)=>CE outer P w H s Q u s'
 | .ok _=>False
 | .error e=>CX outer H s E e s'
structure FnOk (P:Program)(w:World)(K:PySem.W.Frag)(mg:Str->Option Value)(base:Heap)(CX:CXT)(k:Nat)(f:Addr)(fd:FuncData)(ps:List Str)(sp:Sp):Prop where
 len:∀vs H Q E,sp vs H Q E->vs.length=ps.length
 run:∀(A:Around) (outer:List Env) (s:Shared) (H:Hp) (args:Args) (us:List Value) (vs:List V) (Q:VK) (E:XK),Room k A->Env0 P w K mg base A outer s H->BindsTo s fd args (ps.zip us)->Vals vs us->sp vs H Q E ->
  codeAny (model P w) A (.call (.ref f) args) (CR CX outer P w H s Q E) s
theorem FnOk.imp {P:Program}{w:World}{K:PySem.W.Frag}{mg:Str->Option Value}{base:Heap}{CX:CXT}{k:Nat}{f:Addr}{fd:FuncData}{ps:List Str}{sp sp':Sp}(F:FnOk P w K mg base CX k f fd ps sp)
  (h:∀vs H Q E,sp' vs H Q E->sp vs H Q E):FnOk P w K mg base CX k f fd ps sp' :=
 ⟨fun vs H Q E q=>F.len vs H Q E (h _ _ _ _ q),fun A outer s H args us vs Q E hr he hb hv hs=>F.run A outer s H args us vs Q E hr he hb hv (h _ _ _ _ hs)⟩
section
variable {X:Cx}{pins:List (Addr×Obj)}{σ:St}{H:Hp}{s s':Shared}
theorem Inv.env0 (I:Inv X pins σ H s):Env0 X.prog X.w X.K X.mg X.base X.A X.stack s H :=
 ⟨I.ok.frames,I.ok.mod,I.bs,Nat.le_trans I.ok.bsz I.sz,I.stack,I.stkFree,I.hok,I.bare⟩
theorem Inv.after {Q:VK}{u:Value}(I:Inv X pins σ H s)(h:CE X.stack X.prog X.w H s Q u s'):EP X pins σ Q u s':=by
 obtain ⟨v,H',os,bare,un,hok,r,q⟩:=h
 obtain ⟨hh,g,d,t,os'⟩:=s'
 obtain rfl:os'=s.os:=os
 exact ⟨v,H',I.call (h':=hh) (g':=g) (d':=d) (t':=t) (ch:=[]) un hok bare (fun b z=>absurd z (by simp)),r,q⟩
end
def Binds (K:PySem.W.Frag)(fd:FuncData)(ps:List Str)(ds:List Value):Prop :=
 ∀(s:Shared) (us:List Value),K.In s.heap->(us++ds).length=ps.length->BindsTo s fd ⟨us,[]⟩ (ps.zip (us++ds))
theorem Binds.all {K:PySem.W.Frag}{fd:FuncData}{ps:List Str}(h:∀us:List Value,us.length=ps.length->bindArgs fd ⟨us,[]⟩=pure (ps.zip us)):Binds K fd ps []:=fun s us _ hl=>by
 rw [List.append_nil] at hl ⊢
 exact .of_eq (h us hl)
def Passes (CX:CXT)(X:Cx)(E:XK):Prop:=∀(pins:List (Addr×Obj)) (σ:St) (H:Hp) (s:Shared) (e:Value) (s':Shared),Inv X pins σ H s->CX X.stack H s E e s'->X.xe e s'
section
variable {X:Cx}{CX:CXT}{k:Nat}{f C:Addr}{fd:FuncData}{ps:List Str}{sp:Sp}{dvs:List V}{ds:List Value}{E:XK}{x m:Str}{p pos apos:Pos}{e o:Expr}{es:List Expr}{ta:TE}{t:TA}
end
def PK (X:Cx)(kws:List Keyword)(t:TA):Prop :=
 ∀(pos:Pos) (pins:List (Addr×Obj)) (s:Shared) (σ:St) (H:Hp) (Q:List V->Hp->Prop),Inv X pins σ H s->t σ H Q->wpAny (model X.prog X.w) X.A (evalAll ((backToKw pos (keywordEach kws X.env)).map (·.2))) (AP X pins σ Q) X.xe s
section
variable {X:Cx}{CX:CXT}{k:Nat}{f C:Addr}{fd:FuncData}{ps ks:List Str}{sp:Sp}{E:XK}{x m:Str}{p pos apos kpos:Pos}{e o:Expr}{es:List Expr}{kws:List Keyword}{te ta:TE}{t tk:TA}{nm:Option Str}
variable {g:List Value->List Value->List Value}{gV:List V->List V->List V}
end
structure FnScope (N P:List Str)(sc:Scope):Prop where
 kind:sc.kind=.function
 co:sc.isCoroutine=false
 gen:sc.isGenerator=false
 nd:N.Nodup
 pre:N.take P.length=P
 par:∀x∈P,sc.names.lookup x=some .local \/ sc.names.lookup x=some .cell
 nofree:∀y∈sc.names,y.2 ≠ .free
theorem zeV {kindOf:Str->Option NameKind}{x:Str}:∀{binds:List (Str×Value)} {m:Str->Option Value},(∀v,(x,v)∉binds)->bindL kindOf binds m x=m x
 | [],_,_=>rfl
 | (n,v)::r,m,h=>by
  unfold bindL
  rw [zeV fun w hw=>h w (List.mem_cons_of_mem _ hw)]
  split
  ·have:x≠n:=by rintro rfl;exact h v List.mem_cons_self
   simp [this]
  ·rfl
theorem zeA {kindOf:Str->Option NameKind}{x:Str}:∀{binds:List (Str×Value)} {m:Str->Option Value},(∀v,(x,v)∉binds)->bindC kindOf binds m x=m x
 | [],_,_=>rfl
 | (n,v)::r,m,h=>by
  unfold bindC
  rw [zeA fun w hw=>h w (List.mem_cons_of_mem _ hw)]
  split
  ·rfl
  ·have:x≠n:=by rintro rfl;exact h v List.mem_cons_self
   simp [this]
theorem zef {kindOf:Str->Option NameKind}{x:Str}{v:Value}:∀{P:List Str} {vs:List Value} {i:Nat} {m:Str->Option Value},P.Nodup->P[i]?=some x->vs[i]?=some v->kindOf x=some .local ->
  bindL kindOf (P.zip vs) m x=some v
 | [],_,_,_,_,h,_,_=>by simp at h
 |_::_,[],_,_,_,_,h,_=>by simp at h
 |p::P,w::vs,0,m,nd,h1,h2,hk=>by
  simp at h1 h2;subst h1;subst h2
  show bindL kindOf ((p,w)::P.zip vs) m p=_
  unfold bindL
  rw [zeV fun v hv=>(List.nodup_cons.mp nd).1 (List.of_mem_zip hv).1,if_pos hk]
  simp
 |p::P,w::vs,i+1,m,nd,h1,h2,hk=>by
  show bindL kindOf ((p,w)::P.zip vs) m x=_
  unfold bindL
  exact zef (i:=i) (List.nodup_cons.mp nd).2 (by simpa using h1) (by simpa using h2) hk
theorem zeG {kindOf:Str->Option NameKind}{x:Str}{v:Value}:∀{P:List Str} {vs:List Value} {i:Nat} {m:Str->Option Value},P.Nodup->P[i]?=some x->vs[i]?=some v->kindOf x≠some .local ->
  bindC kindOf (P.zip vs) m x=some v
 | [],_,_,_,_,h,_,_=>by simp at h
 |_::_,[],_,_,_,_,h,_=>by simp at h
 |p::P,w::vs,0,m,nd,h1,h2,hk=>by
  simp at h1 h2;subst h1;subst h2
  show bindC kindOf ((p,w)::P.zip vs) m p=_
  unfold bindC
  rw [zeA fun v hv=>(List.nodup_cons.mp nd).1 (List.of_mem_zip hv).1,if_neg hk]
  simp
 |p::P,w::vs,i+1,m,nd,h1,h2,hk=>by
  show bindC kindOf ((p,w)::P.zip vs) m x=_
  unfold bindC
  exact zeG (i:=i) (List.nodup_cons.mp nd).2 (by simpa using h1) (by simpa using h2) hk
def start (N:List Str)(vs:List V):St:=vs.map some++List.replicate (N.length - vs.length) none
def cxOf (CX:CXT)(P:Program)(w:World)(K:PySem.W.Frag)(mg:Str->Option Value)(base:Heap)(N:List Str)(qual:Str)(scope:Scope)(f:Addr)(cd:Value)(A:Around)(outer:List Env)(s:Shared)(H:Hp)(E:XK):Cx where
 prog:=P
 w:=w
 K:=K
 mg:=mg
 base:=base
 A:=A.deeper (envOfC qual scope s.heap.objs.size f cd)
 N:=N
 s₀:=s
 H₀:=H
 env:=envOfC qual scope s.heap.objs.size f cd
 outer:=outer
 stack:=envOfC qual scope s.heap.objs.size f cd::outer
 ex:=[]
 calm:=true
 fn:=fun _=>true
 pn:=[]
 xe:=fun e s'=>wpAny (model P w) (A.deeper (envOfC qual scope s.heap.objs.size f cd)) (leaving (envOfC qual scope s.heap.objs.size f cd) e) (fun _ s''=>CX outer H s E e s'') (fun e' s''=>CX outer H s E e' s'') s'
theorem zft {sc:Scope}{n:Nat}{x:Str}(h:sc.names.lookup x=some .cell):∃c,(cellsFrom n sc.names []).lookup x=some c:=by
 have q:=PySem.W.cellsFrom_some sc.names n [] (.inl h)
 exact Option.isSome_iff_exists.mp q
theorem zhb {CX:CXT}{P:Program}{w:World}{K:PySem.W.Frag}{mg:Str->Option Value}{base:Heap}{N ps:List Str}{qual:Str}{scope:Scope}{f:Addr}{cd:Value}{A:Around}{outer:List Env}{s s1:Shared}{H:Hp}{E:XK}{us:List Value}{vs:List V}
  (S:FnScope N ps scope) (hd:A.handled=none) (e0:Env0 P w K mg base A outer s H) (hl:vs.length=ps.length) (r:Vals vs us)
  (x:InCallC s s.heap.objs.size (bindL (envOfC qual scope s.heap.objs.size f cd).kindOf (ps.zip us) fun _=>none) (cellsFrom (s.heap.objs.size+1) scope.names []) (bindC (envOfC qual scope s.heap.objs.size f cd).kindOf (ps.zip us) fun _=>none) s1) :
  Inv (cxOf CX P w K mg base N qual scope f cd A outer s H E) [] (start N vs) H s1:=by
 have hpl:ps.length<=N.length:=by have:=congrArg List.length S.pre;rw [List.length_take] at this;omega
 obtain ⟨h1,tk,rfl,hk⟩:=x.done
 have noA:∀b:Addr,b∉(cxOf CX P w K mg base N qual scope f cd A outer s H E).ex:=fun b z=>absurd (show b∈([]:List Addr) from z) (by simp)
 refine ⟨⟨e0.mod,S.kind,rfl,rfl,Nat.le_refl _,fun y z c h1 h2=>?_,fun y hy=>?_,fun y c _ h=>?_,fun _=>hd,Around.frames_deeper e0.frames,.inr ⟨rfl,rfl⟩,fun b z=>absurd z (noA b),e0.bs,e0.bsz,fun b _ _=>noA b,fun b z=>absurd z (noA b),e0.funs,e0.frf⟩,
  rfl,e0.bare,Un.kept hk,⟨_,x.toInCall.ns,fun i y v h1 h2 h3=>?_⟩,fun y c h=>⟨_,x.cell y c h⟩,e0.hok.fresh (Nat.le_refl _),fun y c h=>?_,fun p hp=>absurd (show p∈([]:List (Addr×Obj)) from hp) (by simp),e0.hok.kept hk,?_⟩
 ·exact name_of_addr x.apart (PySem.mem_of_lookup h1) (PySem.mem_of_lookup h2)
 ·have hy:scope.names.lookup y=some .cell \/ scope.names.lookup y=some .free:=hy
  rcases hy with hy|hy
  ·exact zft hy
  ·exact absurd rfl (S.nofree _ (PySem.mem_of_lookup hy))
 ·exact Nat.le_of_lt (x.above y c (PySem.mem_of_lookup h))
 ·have hi:i<vs.length:=by
   unfold start at h2
   by_cases hi:i<vs.length
   ·exact hi
   ·rw [List.getElem?_append_right (by simpa using hi)] at h2
    rw [List.getElem?_replicate] at h2
    split at h2 <;> cases h2
  have ha:vs[i]?=some v:=by
   unfold start at h2
   rw [List.getElem?_append_left (by simpa using hi),List.getElem?_map] at h2
   cases e:vs[i]? with
   |none=>rw [e] at h2;cases h2
   |some a=>rw [e] at h2;cases h2;rfl
  obtain ⟨u,hu,rv⟩:=r.get ha
  have hp:ps[i]?=some y:=by
   rw [<- S.pre,List.getElem?_take_of_lt (by omega)];exact h1
  have ndP:ps.Nodup:=by rw [<- S.pre];exact S.nd.sublist (List.take_sublist _ _)
  refine ⟨u,rv,?_⟩
  rcases S.par y (List.mem_of_getElem? hp) with k|k
  ·exact .inl ⟨k,zef ndP hp hu k⟩
  ·obtain ⟨c,e⟩:=zft (n:=s.heap.objs.size+1) k
   refine .inr ⟨.inl k,c,e,?_⟩
   have q:=x.cell y c e
   rw [zeG ndP hp hu (by show scope.names.lookup y≠_;rw [k];decide)] at q
   exact q
 ·exact e0.hok.fresh (Nat.le_of_lt (x.above y c (PySem.mem_of_lookup h)))
 ·unfold start
  show _=N.length
  rw [List.length_append,List.length_map,List.length_replicate]
  omega
theorem zmI {CX:CXT}{P:Program}{w:World}{K:PySem.W.Frag}{mg:Str->Option Value}{base:Heap}{k:Nat}{f:Addr}{name qual:Str}{params:Arguments}{body:List Stmt}{scope:Scope}{dV kV doc pm cdv ct oc:Value}{an od:Option Addr}
  {osl:Array (Option Value)} {N ps:List Str} {sp:Sp} (lk:K.lookup f=some ⟨oc,od,.func (PySem.W.fnOf name qual params body scope dV kV doc pm an cdv ct),osl⟩) (hcd:PySem.W.codeIn K cdv qual=true) (S:FnScope N ps scope)
  (len:∀vs H Q E,sp vs H Q E->vs.length=ps.length)
  (hbody:∀(A:Around) (outer:List Env) (s:Shared) (H:Hp) (vs:List V) (Q:VK) (E:XK),Room k (A.deeper (envOfC qual scope s.heap.objs.size f cdv))->sp vs H Q E ->
   ∃t,PSs (cxOf CX P w K mg base N qual scope f cdv A outer s H E) body t/\t { nx:=fun _ H'=>Q .non H',rt:=Q } (start N vs) H) :
  FnOk P w K mg base CX (k+1) f (PySem.W.fnOf name qual params body scope dV kV doc pm an cdv ct) ps sp:=by
 refine ⟨len,fun A outer s H args us vs Q E hr e0 hb r hsp=>?_⟩
 have hl:=len _ _ _ _ hsp
 have KX:K.In s.heap:=e0.mod.kin.keeps fun b o e=>(e0.bs b o e).1
 have lim:s.heap.NoLimit:=e0.mod.nolimit.keeps fun b o e=>(e0.bs b o e).1
 have hkind:∀y∈ps.zip us,scope.names.lookup y.1=some .local \/ (scope.names.lookup y.1=some .cell/\((cellsFrom (s.heap.objs.size+1) scope.names []).lookup y.1).isSome=true):=fun ⟨n,v⟩ hy=>by
  rcases S.par n (List.of_mem_zip hy).1 with q|q
  ·exact .inl q
  ·exact .inr ⟨q,PySem.W.cellsFrom_some _ _ _ (.inl q)⟩
 refine codeAny_call_function hr.depth (KX _ _ lk) rfl S.co S.gen rfl (PySem.W.codeRec_of KX hcd) (hb _ _ _ _ ?_)
 refine wpAny_newFunctionEnv_cells S.kind hkind fun env he s1 x=>?_
 subst he
 refine ⟨lim.keeps x.toInCall.keep,codeAny_func ?_⟩
 obtain ⟨t,ht,hq⟩:=hbody A outer s H vs Q E (hr.deeper _) hsp
 have I:Inv (cxOf CX P w K mg base N qual scope f cdv A outer s H E) [] (start N vs) H s1:=zhb S hr.hd e0 hl r x
 refine wpAny_mono (ht [] s1 (start N vs) H _ I hq) (fun fl s' hs=>?_) fun e s' hs=>hs
 have fin:∀{σ':St} {H':Hp} {v:V} {u:Value},Inv (cxOf CX P w K mg base N qual scope f cdv A outer s H E) [] σ' H' s'->RelV v u->Q v H'->CE outer P w H s Q u s' :=
  fun {σ' H' v u} J rv q=>⟨v,H',J.os,J.bare,J.base,J.hok,rv,q⟩
 cases fl with
 |ret u =>
  obtain ⟨v,σ',H',J,rv,q⟩:=hs
  exact fin J rv q
 |next =>
  obtain ⟨σ',H',J,q⟩:=hs
  exact fin (v:=V.non) (u:=Value.none) J rfl q
 |brk =>
  obtain ⟨_,_,_,q⟩:=hs
  exact False.elim q
 |cont =>
  obtain ⟨_,_,_,q⟩:=hs
  exact False.elim q
section
variable {X:Cx}{x:Str}{p pos:Pos}{e:Expr}{es:List Expr}{t:TA}{id T:String}{r:List V->Hp->VK->Prop}
def tCB (r:List V->Hp->VK->Prop)(t:TA):TE:=fun σ H Q=>t σ H fun vs H1=>r vs H1 Q
theorem zcm (hc:CallR X (.builtin id) r)(hg:Gl X x)(hm:X.mg x=none)(hv:bootBuiltins x=some (.builtin id))(ha:PA X (e::es) t)(hn:x ≠ "__name__":=by decide)(hdb:(x == ("__debug__":Str))=false:=by decide)
  (he:starEach (e::es) X.env=(false,eval e X.env)::starEach es X.env:=by rfl) (hpl:(backTo pos (starEach es X.env)).any (·.1)=false:=by rfl):PE X (.Call (.Name x p) (e::es) [] pos) (tCB r t):=by
 intro pins s σ H Q I h
 refine wpAny_Call_Name_kw (zdq I hg hm hv ?_ hn hdb)
 exact PyProof.Rows.callWith_builtin1 (thn (ha pos pins s σ H _ I h) fun us s1 ⟨vs,H1,I1,r1,q1⟩=>hc pins s1 σ H1 vs us Q I1 r1 q1) he hpl
theorem zhx (hc:CallR X (.type T) r)(hg:Gl X x)(hm:X.mg x=none)(hv:bootBuiltins x=some (.type T))(ha:PA X (e::es) t)(hn:x ≠ "__name__":=by decide)(hdb:(x == ("__debug__":Str))=false:=by decide)
  (he:starEach (e::es) X.env=(false,eval e X.env)::starEach es X.env:=by rfl) (hpl:(backTo pos (starEach es X.env)).any (·.1)=false:=by rfl):PE X (.Call (.Name x p) (e::es) [] pos) (tCB r t):=by
 intro pins s σ H Q I h
 refine wpAny_Call_Name_kw (zdq I hg hm hv ?_ hn hdb)
 exact PyProof.Rows.callWith_type1 (thn (ha pos pins s σ H _ I h) fun us s1 ⟨vs,H1,I1,r1,q1⟩=>hc pins s1 σ H1 vs us Q I1 r1 q1) he hpl
end
end L2
namespace HT
open PySem PyProof.Rows
section
open PySem.SeqAt
open PySem.AutoSeq1 (wpAny_loadPart')
open PySem.MeetsSeq PySem.MeetsSeq2 PySem.MeetsSeq3
end
section
variable {prog:Program}{w:World}{A:Around}{E:Value->Shared->Prop}{s:Shared}
theorem cat_tup {t b:Addr}{vs ws:List Value}{Q:Value->Shared->Prop}(ht:IsTup s.heap t vs.toArray)(hb:IsTup s.heap b ws.toArray)(hv:vs≠[])
  (h1:ws=[]->Q (.ref t) s) (h2:ws≠[]->Q (.ref s.heap.objs.size) { s with heap:=s.heap.push { cls:=.type "tuple",data:=.seq (vs++ws).toArray } })
  (hsz:vs.length+ws.length<=sizeLine):wpAny (model prog w) A (binaryOp .Add (.ref t) (.ref b)) Q E s:=by
 obtain ⟨⟨cls,dd,data,sl⟩,ho,hc,n,hd⟩:=id ht
 obtain ⟨⟨cls2,dd2,data2,sl2⟩,ho2,hc2,n2,hd2⟩:=id hb
 simp only at hc hd hc2 hd2
 subst hc hd hc2 hd2
 have e:vs.toArray++ws.toArray=(vs++ws).toArray:=by simp
 by_cases hw:ws=[]
 ·exact concat_meets ⟨_,ho,rfl⟩ ⟨_,ho2,rfl⟩ noFill_tuple_add seq_tuple_add PySem.F.slot_tuple_add PySem.F.entry_tuple_add (PySem.F.args_tuple_add_2 _ _)
   (tuple_addW1 t b vs.toArray ws.toArray n n2 dd dd2 sl sl2 (by simpa using hv) (by simp [hw])) ⟨ho,ho2,h1 hw⟩
 ·refine concat_meets ⟨_,ho,rfl⟩ ⟨_,ho2,rfl⟩ noFill_tuple_add seq_tuple_add PySem.F.slot_tuple_add PySem.F.entry_tuple_add (PySem.F.args_tuple_add_2 _ _)
   (tuple_addW2 t b vs.toArray ws.toArray n n2 dd dd2 sl sl2 (by simpa using hv) (by simpa using hw) (by rw [List.size_toArray,List.size_toArray];exact hsz)) ⟨ho,ho2,?_⟩
  rw [e]
  exact h2 hw
def sIx (n d:Nat):Option Int->Nat
 |none=>d
 |some v=>if v<0 then (v+(n:Int)).toNat else min v.toNat n
theorem sIx_le (n d:Nat)(hd:d<=n)(o:Option Int):sIx n d o<=n:=by
 cases o with
 |none=>exact hd
 |some v =>
  show (if v<0 then (v+(n:Int)).toNat else min v.toNat n)<=n
  by_cases hv:v<0
  ·rw [if_pos hv];omega
  ·rw [if_neg hv];exact Nat.min_le_right _ _
theorem zg4 (v:Int)(n d:Nat):(if v<0 then max (v+(n:Int)) 0 else min v (n:Int))=((sIx n d (some v):Nat):Int):=by
 show (if v<0 then max (v+(n:Int)) 0 else min v (n:Int))=(((if v<0 then (v+(n:Int)).toNat else min v.toNat n):Nat):Int)
 by_cases hv:v<0
 ·simp only [if_pos hv];omega
 ·simp only [if_neg hv];omega
theorem zgh (lo hi:Option Int)(n:Nat):Builtin.Slice.sliceAdjust lo hi 1 (n:Int)=(((sIx n 0 lo:Nat):Int),((sIx n n hi:Nat):Int)):=by
 have h1:¬((1:Int)<0):=by omega
 unfold Builtin.Slice.sliceAdjust
 simp only [h1,if_false]
 refine Prod.ext ?_ ?_
 ·cases lo with
  |none=>rfl
  |some v=>exact zg4 v n 0
 ·cases hi with
  |none=>rfl
  |some v=>exact zg4 v n n
theorem zgp (i j:Nat):Builtin.Slice.slicePlaces (i:Int) (j:Int) 1=j - i:=by
 unfold Builtin.Slice.slicePlaces
 have h1:(1:Int) > 0:=by omega
 simp only [h1,if_true,Int.ediv_one]
 split <;> omega
theorem zdk {v:Value}{o:Option Int}{Q:Option Int->Shared->Prop}(p:IsPart v o)(h:Q o s):wpAny (model prog w) A (Builtin.Slice.slicePartIndex v) Q E s:=by
 cases p with
 |none=>exact slicePart_none h
 |int i t=>exact slicePart_int h
theorem sliceApplied_gen {sl:Addr}{vl vu:Value}{lo hi:Option Int}{n:Nat}{Q:Int×Int×Nat->Shared->Prop}(hs:s.heap.IsSliceOf sl vl vu .none)(pl:IsPart vl lo)(pu:IsPart vu hi)
  (h:Q (((sIx n 0 lo:Nat):Int),1,sIx n n hi - sIx n 0 lo) s):wpAny (model prog w) A (Builtin.Slice.sliceApplied (.ref sl) (pure (n:Int))) Q E s:=by
 obtain ⟨os,hos,hcs,hds⟩:=id hs
 unfold Builtin.Slice.sliceApplied Builtin.Slice.sliceFields
 refine wpAny_bind (wpAny_bind (wpAny_field hos hds (x:=vl) rfl (wpAny_bind (wpAny_field hos hds (x:=vu) rfl (wpAny_bind (wpAny_field hos hds (x:=.none) rfl (wpAny_pure ?_)))))))
 refine wpAny_bind (slicePart_none ?_)
 show wpAny _ _ (if ((1:Int) == 0)=true then _ else _) _ _ s
 rw [if_neg (by decide)]
 refine wpAny_bind (zdk pl (wpAny_bind (zdk pu (wpAny_bind (wpAny_pure ?_)))))
 show wpAny _ _ (match Builtin.Slice.sliceAdjust lo hi 1 (n:Int) with|(lo,hi)=>pure (lo,(1:Int),Builtin.Slice.slicePlaces lo hi 1)) _ _ s
 rw [zgh lo hi n]
 show wpAny _ _ (pure (((sIx n 0 lo:Nat):Int),(1:Int),Builtin.Slice.slicePlaces ((sIx n 0 lo:Nat):Int) ((sIx n n hi:Nat):Int) 1)) _ _ s
 rw [zgp]
 exact wpAny_pure h
theorem ziA (xs:Array Value)(i k:Nat):((List.range k).filterMap fun (m:Nat)=>xs[((i:Int)+(m:Int)*1).toNat]?).toArray=((xs.toList.drop i).take k).toArray:=by
 have e:(fun (m:Nat)=>xs[((i:Int)+(m:Int)*1).toNat]?)=fun m=>xs[i+m]?:=by
  funext m
  have:((i:Int)+(m:Int)*1).toNat=i+m:=by omega
  rw [this]
 rw [e]
 have:=pick_run xs i k
 rw [List.filterMap_map] at this
 have e2:((fun x=>xs[x]?) ∘ fun x=>i+x)=fun m=>xs[i+m]?:=rfl
 rw [e2] at this
 rw [this]
theorem getItem_tuple_cut {t sl:Addr}{items:Array Value}{vl vu:Value}{lo hi:Option Int}{Q:Value->Shared->Prop}(ht:IsTup s.heap t items)(hs:s.heap.IsSliceOf sl vl vu .none)(pl:IsPart vl lo)(pu:IsPart vu hi)
  (hw:¬(sIx items.size 0 lo=0/\sIx items.size items.size hi=items.size))
  (h:Q (.ref s.heap.objs.size) { s with heap:=s.heap.push { cls:=.type "tuple",data:=.seq ((items.toList.drop (sIx items.size 0 lo)).take (sIx items.size items.size hi - sIx items.size 0 lo)).toArray } })
  (hsz:items.size<=sizeLine):wpAny (model prog w) A (getItem (.ref t) (.ref sl)) Q E s:=by
 have htake:sizeOk (.seq ((items.toList.drop (sIx items.size 0 lo)).take (sIx items.size items.size hi - sIx items.size 0 lo)).toArray):=by
  show ((items.toList.drop (sIx items.size 0 lo)).take (sIx items.size items.size hi - sIx items.size 0 lo)).toArray.size<=sizeLine
  rw [List.size_toArray,List.length_take,List.length_drop,Array.length_toList]
  omega
 have hj:sIx items.size items.size hi<=items.size:=sIx_le _ _ (Nat.le_refl _) hi
 obtain ⟨os,hos,hcs,hds⟩:=id hs
 have hTs:s.TypeIs (.ref sl) "slice":=⟨os,hos,hcs⟩
 unfold getItem
 try with_reducible refine wpAny_holding ?_
 first|refine wpAny_bind (wpAny_pure ?_)|skip
 refine wpAny_bind (wpAny_sequenceKey ht.typeIs (by decide) ?_)
 refine wpAny_bind (wpAny_callSpecial?_slot (name:=Str.ofString "__getitem__") ht.typeIs PyProof.Rows.slot_tuple_getitem
  (wpAny_call_entry PyProof.Rows.slot_tuple_getitem ht.typeIs entry_tuple_getitem ?_ (args_tuple_getitem _ _)))
 show wpAny _ _ (Builtin.Tuple.tupleItemsOf (.ref t) >>= _) _ _ s
 refine wpAny_bind (tupleItemsOf_ ht ?_)
 refine wpAny_bind (wpAny_typeOf hTs ?_)
 rw [if_pos (by decide)]
 refine wpAny_bind (sliceApplied_gen hs pl pu ?_)
 have hno:¬((((sIx items.size 0 lo:Nat):Int) == 0 && (1:Int) == 1 && (sIx items.size items.size hi - sIx items.size 0 lo) == items.size)=true):=by
  intro q
  rw [Bool.and_eq_true,Bool.and_eq_true] at q
  have q1:((sIx items.size 0 lo:Nat):Int)=0:=eq_of_beq q.1.1
  have q2:sIx items.size items.size hi - sIx items.size 0 lo=items.size:=eq_of_beq q.2
  exact hw ⟨by omega,by omega⟩
 show wpAny _ _ (if (((sIx items.size 0 lo:Nat):Int) == 0 && (1:Int) == 1 && (sIx items.size items.size hi - sIx items.size 0 lo) == items.size)=true then _ else _) _ _ s
 rw [if_neg hno,ziA]
 first
  | exact wpAny_bind (m:=Builtin.Tuple.tupleExact _) (wpAny_newObj_type (wpAny_pure ⟨_,rfl,wpAny_pure h⟩) htake)
  | exact wpAny_bind (m:=Builtin.Tuple.tupleExact _) (wpAny_newObj_type (wpAny_bind (wpAny_pure (wpAny_pure ⟨_,rfl,wpAny_pure h⟩))) htake)
  | exact wpAny_bind (wpAny_bind (m:=Builtin.Tuple.tupleExact _) (wpAny_newObj_type (wpAny_pure (wpAny_pure ⟨_,rfl,wpAny_pure h⟩)) htake))
  | exact wpAny_bind (wpAny_bind (m:=Builtin.Tuple.tupleExact _) (wpAny_newObj_type (wpAny_pure ⟨_,rfl,wpAny_pure h⟩) htake))
end
end HT
namespace L2
open PySem PySem.Spec PyProof.Rows
abbrev TO:=St->Hp->(Option Int->Hp->Prop)->Prop
def PO (X:Cx)(e:Option Expr)(t:TO):Prop :=
 ∀(pins:List (Addr×Obj)) (s:Shared) (σ:St) (H:Hp) (Q:Option Int->Hp->Prop),Inv X pins σ H s->t σ H Q ->
  wpAny (model X.prog X.w) X.A (evalPart e X.env) (fun u s'=>∃o H',Inv X pins σ H' s'/\IsPart u o/\Q o H') X.xe s
def tNoPart:TO:=fun _ H Q=>Q none H
section
variable {X:Cx}{e:Expr}{te:TE}{lo hi:Option Expr}{tl th:TO}{pos p2:Pos}
theorem zjF:PO X none tNoPart:=by
 intro pins s σ H Q I h
 rw [evalPart_none]
 exact wpAny_pure ⟨none,H,I,.none,h⟩
def SlR (X:Cx)(r:V->Option Int->Option Int->Hp->VK->Prop):Prop :=
 ∀(pins:List (Addr×Obj)) (s:Shared) (σ:St) (H:Hp) (x:V) (v vl vu:Value) (lo hi:Option Int) (sl:Addr) (Q:VK),Inv X pins σ H s->RelV x v->s.heap.IsSliceOf sl vl vu .none->IsPart vl lo->IsPart vu hi->r x lo hi H Q ->
  ∃T id,typeLookup (.type T) "__getitem__"=pure (some (.builtin id))/\s.TypeIs v T/\wpAny (model X.prog X.w) X.A (getItem v (.ref sl)) (EP X pins σ Q) X.xe s
def tSl (r:V->Option Int->Option Int->Hp->VK->Prop)(te:TE)(tl th:TO):TE:=fun σ H Q=>te σ H fun x H1=>tl σ H1 fun l H2=>th σ H2 fun u H3=>r x l u H3 Q
theorem ziW {r:V->Option Int->Option Int->Hp->VK->Prop}(hr:SlR X r)(he:PE X e te)(hl:PO X lo tl)(hu:PO X hi th):PE X (.Subscript e (.Slice lo hi none p2) pos) (tSl r te tl th):=by
 intro pins s σ H Q I h
 refine Subscript_ (thn (he pins s σ H _ I h) fun v s1 ⟨x,H1,I1,r1,q1⟩=>?_)
 refine wpAny_Slice (thn (hl pins s1 σ H1 _ I1 q1) fun vl s2 ⟨l,H2,I2,pl,q2⟩=>thn (hu pins s2 σ H2 _ I2 q2) fun vu s3 ⟨u,H3,I3,pu,q3⟩=>?_)
 rw [evalPart_none]
 refine wpAny_pure ?_
 have I4:Inv X pins σ H3 { s3 with heap:=s3.heap.push { cls:=.type "slice",data:=.fields #[vl,vu,.none] } }:=I3.kept (t':=s3.toks) fun b ob q=>Heap.get?_push_of_some _ q
 obtain ⟨T,id,hT,ht,hg⟩:=hr pins { s3 with heap:=s3.heap.push { cls:=.type "slice",data:=.fields #[vl,vu,.none] } } σ H3 x v vl vu l u s3.heap.objs.size Q I4 r1 (Heap.IsSliceOf.new ..) pl pu q3
 show wpAny (model X.prog X.w) X.A (subscriptTail e (.Slice lo hi none p2) v (.ref s3.heap.objs.size)) (EP X pins σ Q) X.xe { s3 with heap:=s3.heap.push { cls:=.type "slice",data:=.fields #[vl,vu,.none] } }
 exact tail_any (ops:=[.ref s3.heap.objs.size,v]) ht hT hg (by with_unfolding_all rfl)
def cutV (xs:List V)(lo hi:Option Int):List V:=(xs.drop (HT.sIx xs.length 0 lo)).take (HT.sIx xs.length xs.length hi - HT.sIx xs.length 0 lo)
theorem zcv (xs:List V)(lo hi:Option Int):(cutV xs lo hi).length<=xs.length:=by
 unfold cutV
 rw [List.length_take,List.length_drop]
 omega
def rSlT (K:PySem.W.Frag):V->Option Int->Option Int->Hp->VK->Prop:=fun x lo hi H Q=>∃a xs,x=.ref a/\SqT K H a xs /\
 ¬(HT.sIx xs.length 0 lo=0/\HT.sIx xs.length xs.length hi=xs.length)/\∀p,H p=none->Q (.ref p) (upd H p (.tup (cutV xs lo hi)))
theorem zlc:SlR X (rSlT X.K):=by
 intro pins s σ H x v vl vu lo hi sl Q I rx hs pl pu h
 obtain ⟨a,xs,rfl,hx,hw,q⟩:=h
 cases rx
 obtain ⟨its,r,ht,hz⟩:=I.tuple hx
 have hlen:its.toArray.size=xs.length:=by rw [List.size_toArray];exact r.length.symm
 refine ⟨"tuple",_,PyProof.Rows.slot_tuple_getitem.lookup,ht.typeIs,?_⟩
 refine HT.getItem_tuple_cut ht hs pl pu (by rw [hlen];exact hw) ?_ (by rw [hlen];exact hz)
 rw [hlen]
 refine ⟨.ref s.heap.objs.size,_,I.laid (t':=s.toks) (o:=.tup (cutV xs lo hi)) (fun b ob q=>Heap.get?_push_of_some _ q) (Nat.le_refl _) ?_,rfl,q _ (I.hok.fresh (Nat.le_refl _))⟩
 exact ⟨Nat.le_trans (zcv xs lo hi) hz,_,(r.drop (HT.sIx xs.length 0 lo)).take (HT.sIx xs.length xs.length hi - HT.sIx xs.length 0 lo),IsTup.new _ _⟩
def rCatT (K:PySem.W.Frag):R2:=fun x y H Q=>∃a b xs ys,x=.ref a/\y=.ref b/\SqT K H a xs/\SqT K H b ys/\xs≠[]/\xs.length+ys.length<=sizeLine /\
 (ys=[]->Q (.ref a) H)/\(ys≠[]->∀p,H p=none->Q (.ref p) (upd H p (.tup (xs++ys))))
theorem Vals.nil_iff {xs:List V}{us:List Value}(r:Vals xs us):us=[] ↔ xs=[]:=by
 cases r with
 |nil=>simp
 |cons _ _=>simp
theorem zjv:OpR X (binaryOp .Add) (rCatT X.K):=by
 intro pins s σ H x y v u Q I rx ry h
 obtain ⟨a,b,xs,ys,rfl,rfl,ha,hb,hx,hz,q1,q2⟩:=h
 cases rx
 cases ry
 obtain ⟨its,r1,p1,_⟩:=I.tuple ha
 obtain ⟨its2,r2,p2,_⟩:=I.tuple hb
 refine HT.cat_tup p1 p2 (fun z=>hx (r1.nil_iff.mp z)) (fun z=>⟨.ref a,H,I,rfl,q1 (r2.nil_iff.mp z)⟩) (fun z=>?_) (by rw [<- r1.length,<- r2.length];exact hz)
 refine ⟨.ref s.heap.objs.size,_,I.laid (t':=s.toks) (o:=.tup (xs++ys)) (fun b ob q=>Heap.get?_push_of_some _ q) (Nat.le_refl _) ?_,rfl,q2 (fun w=>z (r2.nil_iff.mpr w)) _ (I.hok.fresh (Nat.le_refl _))⟩
 exact ⟨by rw [List.length_append];exact hz,_,r1.append r2,IsTup.new _ _⟩
end
def ixN (n:Nat)(i:Int):Option Nat:=if 0<=i then (if i<n then some i.toNat else none) else if -(n:Int)<=i then some (i+n).toNat else none
def atI {α:Type}(xs:List α)(i:Int):Option α:=(ixN xs.length i).bind fun j=>xs[j]?
theorem zhN {n:Nat}{i:Int}{j:Nat}(h:ixN n i=some j):seqIndex? i n=some j/\j<n/\-(n:Int)<=i/\i<n:=by
 unfold ixN at h
 by_cases h0:0<=i
 ·rw [if_pos h0] at h
  by_cases h1:i<n
  ·rw [if_pos h1] at h
   have e:i.toNat=j:=Option.some.inj h
   exact ⟨by rw [seqIndex_of h0 h1,e],by omega,by omega,h1⟩
  ·rw [if_neg h1] at h;cases h
 ·rw [if_neg h0] at h
  by_cases h1:-(n:Int)<=i
  ·rw [if_pos h1] at h
   have e:(i+n).toNat=j:=Option.some.inj h
   exact ⟨by rw [seqIndex_neg (by omega) h1,e],by omega,h1,by omega⟩
  ·rw [if_neg h1] at h;cases h
theorem zfm {α:Type}{xs:List α}{i:Int}{v:α}(h:atI xs i=some v):∃j,seqIndex? i xs.length=some j/\xs[j]?=some v/\j<xs.length/\-(xs.length:Int)<=i/\i<xs.length:=by
 unfold atI at h
 cases e:ixN xs.length i with
 |none=>rw [e] at h;cases h
 |some j =>
  rw [e] at h
  obtain ⟨h1,h2,h3,h4⟩:=zhN e
  exact ⟨j,h1,h,h2,h3,h4⟩
def PlainIx (b:Expr):Prop:=∀o i,subscripted b false o i=operate [o,i] (getItem o i)
def IxR (X:Cx)(r:R2):Prop :=
 ∀(value slice:Expr) (pins:List (Addr×Obj)) (s:Shared) (σ:St) (H:Hp) (x y:V) (v u:Value) (Q:VK),Inv X pins σ H s->RelV x v->RelV y u->r x y H Q ->
  subscripted slice false v u=operate [v,u] (getItem v u)->wpAny (model X.prog X.w) X.A (subscriptTail value slice v u) (EP X pins σ Q) X.xe s
def MtR (X:Cx)(id:String)(r:V->List V->Hp->VK->Prop):Prop :=
 ∀(pins:List (Addr×Obj)) (s:Shared) (σ:St) (H:Hp) (x:V) (xs:List V) (v:Value) (us:List Value) (Q:VK),Inv X pins σ H s->RelV x v->Vals xs us->r x xs H Q ->
  wpAny (model X.prog X.w) X.A (call (.builtin id) (v::us)) (EP X pins σ Q) X.xe s
section
variable {X:Cx}{a b:Expr}{ta tb:TE}{pos:Pos}
theorem IxR.or {r r':R2}(h:IxR X r)(h':IxR X r'):IxR X (fun x y H Q=>r x y H Q \/ r' x y H Q):=by
 intro value slice pins s σ H x y v u Q I rx ry q hs
 rcases q with q|q
 ·exact h value slice pins s σ H x y v u Q I rx ry q hs
 ·exact h' value slice pins s σ H x y v u Q I rx ry q hs
theorem zmu {r:R2}(hr:IxR X r)(ha:PE X a ta)(hb:PE X b tb)(hs:PlainIx b):PE X (.Subscript a b pos) (tOp r ta tb):=by
 intro pins s σ H Q I h
 exact Subscript_ (binT ha hb I h fun v u s2 x y H2 I2 rx ry q=>hr a b pins s2 σ H2 x y v u Q I2 rx ry q (hs _ _))
def rIxL (K:PySem.W.Frag):R2:=fun x y H Q=>∃p xs i v,x=.ref p/\y=.int i/\SqL K H p xs/\atI xs i=some v/\Q v H
def rIxT (K:PySem.W.Frag):R2:=fun x y H Q=>∃p xs i v,x=.ref p/\y=.int i/\SqT K H p xs/\atI xs i=some v/\Q v H
def rIxS:R2:=fun x y H Q=>∃z i c,x=.str z/\y=.int i/\z.length<=sizeLine/\atI z.cps.toList i=some c/\Q (.str ⟨#[c]⟩) H
theorem ix_list:IxR X (rIxL X.K):=by
 intro value slice pins s σ H x y v u Q I rx ry h hs
 obtain ⟨p,xs,i,z,rfl,rfl,hq,he,q⟩:=h
 cases rx
 obtain ⟨t,rfl⟩:=ry
 obtain ⟨its,r,pl,hz⟩:=I.list hq
 obtain ⟨j,h1,h2,h3,h4,h5⟩:=zfm he
 obtain ⟨w,ew,rw'⟩:=r.get h2
 have hl:=r.length
 have hn:=line63
 have fin:EP X pins σ Q w s:=⟨z,H,I,rw',q⟩
 by_cases h0:0<=i
 ·have hj:i.toNat=j:=by
   rw [seqIndex_of h0 h5] at h1
   exact Option.some.inj h1
  exact item_listR pl.isList h0 (by omega) (by rw [hj];simpa using ew) fin hs
 ·have hj:(i+(its.toArray.size:Int)).toNat=j:=by
   rw [seqIndex_neg (by omega) h4] at h1
   rw [List.size_toArray,<- hl]
   exact Option.some.inj h1
  exact subscriptTail_builtinR (x:=w) pl.isList.typeIs slot_list_getitem.lookup
   (wpAny_getItem_list_neg (Q:=fun r s'=>r=w/\EP X pins σ Q r s') pl.isList (by omega) (by rw [List.size_toArray] <;> omega) (by omega) (by rw [hj];simpa using ew) ⟨rfl,fin⟩) hs
theorem ix_tup:IxR X (rIxT X.K):=by
 intro value slice pins s σ H x y v u Q I rx ry h hs
 obtain ⟨p,xs,i,z,rfl,rfl,hq,he,q⟩:=h
 cases rx
 obtain ⟨t,rfl⟩:=ry
 obtain ⟨its,r,pl,hz⟩:=I.tuple hq
 obtain ⟨j,h1,h2,h3,h4,h5⟩:=zfm he
 obtain ⟨w,ew,rw'⟩:=r.get h2
 have hl:=r.length
 have hn:=line63
 have fin:EP X pins σ Q w s:=⟨z,H,I,rw',q⟩
 exact subscriptTail_builtinR (x:=w) pl.typeIs slot_tuple_getitem.lookup
  (getItem_tuple (j:=j) (Q:=fun r s'=>r=w/\EP X pins σ Q r s') pl (by omega) (by omega) (by rw [List.size_toArray,<- hl];exact h1) (by simpa using ew) ⟨rfl,fin⟩) hs
theorem zlj:IxR X rIxS:=by
 intro value slice pins s σ H x y v u Q I rx ry h hs
 obtain ⟨z,i,c,rfl,rfl,hz,he,q⟩:=h
 obtain ⟨t,rfl⟩:=rx
 obtain ⟨t',rfl⟩:=ry
 obtain ⟨j,h1,h2,h3,h4,h5⟩:=zfm he
 have hl:z.cps.toList.length=z.length:=by simp [Str.length]
 rw [hl] at h1 h4 h5
 have hn:=line63
 exact tail_any (typeIs_str s z t) slot_str_getitem.lookup (getItem_str (c:=c) (by
  have e1:decide (i < -(2 ^ 63:Int))=false:=decide_eq_false (by omega)
  have e2:decide (i ≥ 2 ^ 63)=false:=decide_eq_false (by omega)
  rw [e1,e2,Bool.or_false]) (by rw [h1];simpa using h2) ⟨.str ⟨#[c]⟩,H,I.tok _,⟨_,rfl⟩,q⟩) hs
def rIx (K:PySem.W.Frag):R2:=fun x y H Q=>rIxL K x y H Q \/ rIxT K x y H Q \/ rIxS x y H Q
theorem zfx:IxR X (rIx X.K):=ix_list.or (ix_tup.or zlj)
theorem zgm (its:List Value)(n j:Nat)(u:Value):Obj.mapSeq (·.setIfInBounds j u) { cls:=.type "list",data:=.seq its.toArray n }={ cls:=.type "list",data:=.seq (its.set j u).toArray n }:=by
 simp [Obj.mapSeq]
theorem Inv.lst {pins:List (Addr×Obj)}{σ:St}{H:Hp}{s:Shared}{p:Addr}{xs:List V}(I:Inv X pins σ H s)(h:H p=some (.lst xs)) :
  ∃(its:List Value) (n:Nat),Vals xs its/\s.heap.get? p=some { cls:=.type "list",data:=.seq its.toArray n }/\xs.length<=sizeLine:=by
 obtain ⟨z,its,n,r,e⟩:=I.hok p _ h
 exact ⟨its,n,r,e,z⟩
theorem Inv.lstUpd {pins:List (Addr×Obj)}{σ:St}{H:Hp}{s:Shared}{p:Addr}{xs ys:List V}{its its':List Value}{n n':Nat}{f:Obj->Obj}(I:Inv X pins σ H s)(h:H p=some (.lst xs))
  (ho:s.heap.get? p=some { cls:=.type "list",data:=.seq its.toArray n }) (hf:f { cls:=.type "list",data:=.seq its.toArray n }={ cls:=.type "list",data:=.seq its'.toArray n' }) (r:Vals ys its') (hz:ys.length<=sizeLine) (t:Nat) :
  Inv X pins σ (upd H p (.lst ys)) { s with heap:=s.heap.update p f,toks:=t }:=by
 have e:(s.heap.update p f).get? p=some { cls:=.type "list",data:=.seq its'.toArray n' }:=by
  rw [Heap.get?_update_self f ho (by rw [hf] <;> rfl),hf]
 refine I.write (x:=p) (e:=p) (by rw [h];trivial) (.inl rfl) (fun b u hb q=>(Heap.get?_update_other _ _ (Ne.symm hb)).trans q) ⟨_,e⟩ ?_
 exact ⟨hz,its',n',r,e⟩
def rSetL:V->V->V->Hp->(Hp->Prop)->Prop:=fun o i v H Q=>∃p xs k j,o=.ref p/\i=.int k/\H p=some (.lst xs)/\ixN xs.length k=some j/\Q (upd H p (.lst (xs.set j v)))
theorem zau:PSet X rSetL:=by
 intro pins s σ H o i v ov iv u Q I ro ri rv h
 obtain ⟨p,xs,k,j,rfl,rfl,hp,hj,q⟩:=h
 cases ro
 obtain ⟨t,rfl⟩:=ri
 obtain ⟨its,n,r,ho,hz⟩:=I.lst hp
 obtain ⟨h1,h2,h3,h4⟩:=zhN hj
 have hl:=r.length
 have hn:=line63
 have I':Inv X pins σ (upd H p (.lst (xs.set j v))) { s with heap:=s.heap.update p (Obj.mapSeq (·.setIfInBounds j u)) } :=
  I.lstUpd hp ho (zgm its n j u) (r.set rv j) (by rw [List.length_set];exact hz) s.toks
 by_cases h0:0<=k
 ·have hk:k.toNat=j:=by
   rw [seqIndex_of h0 h4] at h1
   exact Option.some.inj h1
  exact PySem.W.ki_setAt ho h0 (by omega) (by rw [List.size_toArray,<- hl];exact h4) (by rw [hk];exact ⟨_,I',q⟩)
 ·have hk:(k+(its.toArray.size:Int)).toNat=j:=by
   rw [seqIndex_neg (by omega) h3] at h1
   rw [List.size_toArray,<- hl]
   exact Option.some.inj h1
  exact PySem.W.ki_setBack ho (by omega) (by rw [List.size_toArray,<- hl];exact h3) (by omega) (by rw [hk];exact ⟨_,I',q⟩)
theorem zer (lo hi:Option Int)(n:Nat):(sliceBounds lo hi none n).1=((HT.sIx n 0 lo:Nat):Int)/\(sliceBounds lo hi none n).2.1=((HT.sIx n n hi:Nat):Int)/\(sliceBounds lo hi none n).2.2=1:=by
 refine ⟨?_,?_,rfl⟩
 ·cases lo with
  |none=>simp [sliceBounds,HT.sIx]
  |some i =>
   simp only [sliceBounds,HT.sIx,Option.getD_none,show (1:Int) > 0 by decide,if_true]
   by_cases h:i<0
   ·simp only [h,if_true] <;> omega
   ·simp only [h,if_false] <;> omega
 ·cases hi with
  |none=>simp [sliceBounds,HT.sIx]
  |some i =>
   simp only [sliceBounds,HT.sIx,Option.getD_none,show (1:Int) > 0 by decide,if_true]
   by_cases h:i<0
   ·simp only [h,if_true] <;> omega
   ·simp only [h,if_false] <;> omega
theorem zdK (its:List Value)(lo hi:Option Int):slicePick its.toArray lo hi none=((its.drop (HT.sIx its.length 0 lo)).take (HT.sIx its.length its.length hi - HT.sIx its.length 0 lo)).toArray:=by
 obtain ⟨h1,h2,h3⟩:=zer lo hi its.toArray.size
 unfold slicePick
 rw [h1,h2,h3]
 simp only [sliceRange_one,pick_run,List.size_toArray] <;> rfl
def rSlL (K:PySem.W.Frag):V->Option Int->Option Int->Hp->VK->Prop:=fun x lo hi H Q=>∃a xs,x=.ref a/\SqL K H a xs/\∀p,H p=none->Q (.ref p) (upd H p (.lst (cutV xs lo hi)))
theorem zhl:SlR X (rSlL X.K):=by
 intro pins s σ H x v vl vu lo hi sl Q I rx hs pl pu h
 obtain ⟨a,xs,rfl,hx,q⟩:=h
 cases rx
 obtain ⟨its,r,ht,hz⟩:=I.list hx
 have hlen:=r.length
 refine ⟨"list",_,slot_list_getitem.lookup,ht.isList.typeIs,?_⟩
 refine wpAny_getItem_list_slice ht.isList hs pl pu .none (by simp) ?_ (by rw [List.size_toArray] <;> omega)
 rw [zdK,<- hlen]
 refine ⟨.ref s.heap.objs.size,_,I.laid (t':=s.toks) (o:=.lst (cutV xs lo hi)) (fun b ob q=>Heap.get?_push_of_some _ q) (Nat.le_refl _) ?_,rfl,q _ (I.hok.fresh (Nat.le_refl _))⟩
 exact ⟨Nat.le_trans (zcv xs lo hi) hz,_,0,(r.drop (HT.sIx xs.length 0 lo)).take (HT.sIx xs.length xs.length hi - HT.sIx xs.length 0 lo),Heap.get?_push_size _ rfl⟩
def flatV:V->Bool
 | .non=>true
 | .bl _=>true
 | .int _=>true
 | .str _=>true
 |_=>false
def eqV:V->V->Bool
 | .non,.non=>true
 | .bl a,.bl b=>a == b
 | .bl a,.int b=>(if a then 1 else 0) == b
 | .int a,.bl b=>a == (if b then 1 else 0)
 | .int a,.int b=>a == b
 | .str a,.str b=>a == b
 |_,_=>false
theorem zk7 {A:Around}{s:Shared}{y x:V}{u v:Value}(ry:RelV y u)(rx:RelV x v)(fy:flatV y=true)(fx:flatV x=true):SeqAt.EqAt A s u v (eqV y x):=by
 cases y with
 |non =>
  cases ry
  cases x with
  |non=>cases rx;exact SeqAt.EqAt.same _
  |bl b=>cases rx;exact SeqAt.EqAt.none_bool b
  |int b=>obtain ⟨t,rfl⟩:=rx;exact SeqAt.EqAt.none_int b t
  |str b=>obtain ⟨t,rfl⟩:=rx;exact SeqAt.EqAt.none_str b t
  |_=>exact absurd (show false=true from fx) Bool.false_ne_true
 |bl a =>
  cases ry
  cases x with
  |non=>cases rx;exact SeqAt.EqAt.bool_none a
  |bl b=>cases rx;exact SeqAt.EqAt.bool_bool a b
  |int b=>obtain ⟨t,rfl⟩:=rx;exact SeqAt.EqAt.bool_int a b t
  |str b=>obtain ⟨t,rfl⟩:=rx;exact SeqAt.EqAt.bool_str a b t
  |_=>exact absurd (show false=true from fx) Bool.false_ne_true
 |int a =>
  obtain ⟨t',rfl⟩:=ry
  cases x with
  |non=>cases rx;exact SeqAt.EqAt.int_none a t'
  |bl b=>cases rx;exact SeqAt.EqAt.int_bool a t' b
  |int b=>obtain ⟨t,rfl⟩:=rx;exact SeqAt.EqAt.int_int a t' b t
  |str b=>obtain ⟨t,rfl⟩:=rx;exact SeqAt.EqAt.int_str a t' b t
  |_=>exact absurd (show false=true from fx) Bool.false_ne_true
 |str a =>
  obtain ⟨t',rfl⟩:=ry
  cases x with
  |non=>cases rx;exact SeqAt.EqAt.str_none a t'
  |bl b=>cases rx;exact SeqAt.EqAt.str_bool a t' b
  |int b=>obtain ⟨t,rfl⟩:=rx;exact SeqAt.EqAt.str_int a t' b t
  |str b=>obtain ⟨t,rfl⟩:=rx;exact SeqAt.EqAt.str_str a t' b t
  |_=>exact absurd (show false=true from fx) Bool.false_ne_true
 |_=>exact absurd (show false=true from fy) Bool.false_ne_true
def eqU (x:V)(u:Value):Bool:=match u with
 | .none=>eqV .non x
 | .bool b=>eqV (.bl b) x
 | .int i _=>eqV (.int i) x
 | .str z _=>eqV (.str z) x
 |_=>false
theorem zjn {x y:V}{u:Value}(r:RelV y u)(f:flatV y=true):eqU x u=eqV y x:=by
 cases y with
 |non=>cases r;rfl
 |bl b=>cases r;rfl
 |int i=>obtain ⟨t,rfl⟩:=r;rfl
 |str z=>obtain ⟨t,rfl⟩:=r;rfl
 |_=>exact absurd (show false=true from f) Bool.false_ne_true
theorem zfc {x:V}:∀{xs:List V} {us:List Value},Vals xs us->xs.all flatV=true->us.any (eqU x)=xs.any fun y=>eqV y x
 |_,_,.nil,_=>rfl
 |y::xs,u::us,.cons r t,f=>by
  rw [List.all_cons,Bool.and_eq_true] at f
  rw [List.any_cons,List.any_cons,zjn r f.1,zfc t f.2]
theorem zdR {A:Around}{s:Shared}{x:V}{v:Value}(rx:RelV x v)(fx:flatV x=true):∀{xs:List V} {us:List Value},Vals xs us->xs.all flatV=true->∀u∈us,SeqAt.EqAt A s u v (eqU x u)
 |_,_,.nil,_=>fun u hu=>by cases hu
 |y::xs,u::us,.cons r t,f=>fun u' hu=>by
  rw [List.all_cons,Bool.and_eq_true] at f
  rcases List.mem_cons.mp hu with rfl|hu
  ·rw [zjn r f.1];exact zk7 r rx f.1 fx
  ·exact zdR rx fx t f.2 u' hu
def inV (x:V)(xs:List V):Bool:=xs.any fun y=>eqV y x
def rIn (K:PySem.W.Frag)(neg:Bool):R2:=fun x y H Q=>∃p xs,y=.ref p/\(SqL K H p xs \/ SqT K H p xs)/\flatV x=true/\xs.all flatV=true/\Q (.bl (if neg then !inV x xs else inV x xs)) H
theorem zb4:OpR X (compareOp .NotIn) (rIn X.K true):=by
 intro pins s σ H x y v u Q I rx ry h
 obtain ⟨p,xs,rfl,hq,fx,fs,q⟩:=h
 cases ry
 rcases hq with hq|hq
 ·obtain ⟨its,r,pl,hz⟩:=I.list hq
  refine SeqAt.notIn_listAt (eqU x) pl.isList (fun w hw=>zdR rx fx r fs w (by simpa using hw)) ⟨.bl _,H,I,rfl,?_⟩
  rw [show its.toArray.any (eqU x)=its.any (eqU x) by simp,zfc r fs]
  exact q
 ·obtain ⟨its,r,pl,hz⟩:=I.tuple hq
  refine SeqAt.notIn_tupleAt (eqU x) pl (fun w hw=>zdR rx fx r fs w (by simpa using hw)) ⟨.bl _,H,I,rfl,?_⟩
  rw [show its.toArray.any (eqU x)=its.any (eqU x) by simp,zfc r fs]
  exact q
theorem zeu:CallR X (.builtin "len") (fun xs H Q=>∃p ys,xs=[.ref p]/\(SqL X.K H p ys \/ SqT X.K H p ys)/\Q (.int ys.length) H):=by
 intro pins s σ H xs us Q I r h
 obtain ⟨p,ys,rfl,hq,q⟩:=h
 obtain ⟨u,rfl,rx⟩:=vals1 r
 cases rx
 have hn:=line63
 rcases hq with hq|hq
 ·obtain ⟨its,r',pl,hz⟩:=I.list hq
  have hlen:=r'.length
  exact Calls.call_len_list pl.isList (by simp only [List.size_toArray] <;> omega) ⟨.int ys.length,H,I.tok _,⟨s.toks+1,by rw [List.size_toArray,hlen]⟩,q⟩
 ·obtain ⟨its,r',pl,hz⟩:=I.tuple hq
  have hlen:=r'.length
  exact len_tuple pl (by simp only [List.size_toArray] <;> omega) ⟨.int ys.length,H,I.tok _,⟨s.toks+1,by rw [List.size_toArray,hlen]⟩,q⟩
theorem zej:CallR X (.builtin "len") (fun xs H Q=>∃z,xs=[.str z]/\z.length<=sizeLine/\Q (.int z.length) H):=by
 intro pins s σ H xs us Q I r h
 obtain ⟨z,rfl,hz,q⟩:=h
 obtain ⟨u,rfl,t,rfl⟩:=vals1 r
 have hn:=line63
 exact len_str (by omega) ⟨.int z.length,H,I.tok _,⟨_,rfl⟩,q⟩
theorem zbA:CallR X (.type "tuple") (fun xs H Q=>∃p ys,xs=[.ref p]/\((SqL X.K H p ys/\∀l,H l=none->Q (.ref l) (upd H l (.tup ys))) \/ (SqT X.K H p ys/\Q (.ref p) H))):=by
 intro pins s σ H xs us Q I r h
 obtain ⟨p,ys,rfl,h⟩:=h
 obtain ⟨u,rfl,rx⟩:=vals1 r
 cases rx
 rcases h with ⟨hq,q⟩|⟨hq,q⟩
 ·obtain ⟨its,r',pl,hz⟩:=I.list hq
  have hlen:=r'.length
  refine call_tuple_list pl.isList (fun h' kp=>?_) (by simp only [List.size_toArray] <;> omega)
  have I1:Inv X pins σ H { s with heap:=h' }:=I.kept (t':=s.toks) kp
  have I2:Inv X pins σ (upd H h'.objs.size (.tup ys)) { s with heap:=h'.push { cls:=.type "tuple",data:=.seq its.toArray } } :=
   I1.laid (t':=s.toks) (fun b o e=>Heap.get?_push_of_some _ e) (Nat.le_refl _) (show ObjOk X.prog X.w _ _ _ (.tup ys) from ⟨hz,its,r',IsTup.new _ _⟩)
  exact ⟨.ref h'.objs.size,_,I2,rfl,q _ (I1.hok.fresh (Nat.le_refl _))⟩
 ·obtain ⟨its,r',pl,hz⟩:=I.tuple hq
  exact call_tuple_same pl ⟨.ref p,H,I,rfl,q⟩
def tyV (K:PySem.W.Frag)(T:String)(x:V)(H:Hp):Prop:=match x with
 | .str _=>T="str"
 | .int _=>T="int"
 | .ref p=>(T="list"/\∃xs,SqL K H p xs) \/ (T="tuple"/\∃o,K.lookup p=some o/\o.cls=.type "tuple"/\o.dict=none) \/
   (T="dict"/\((∃kvs,H p=some (.dK kvs)) \/ ∃kvs,H p=some (.dT kvs))) \/ (T="set"/\∃S n,H p=some (.set S n))
 |_=>False
theorem zly {pins:List (Addr×Obj)}{σ:St}{H:Hp}{s:Shared}{T:String}{x:V}{v:Value}(I:Inv X pins σ H s)(r:RelV x v)(ty:tyV X.K T x H) :
  s.TypeIs v T/\∀a,v=.ref a->∃ob,s.heap.get? a=some ob/\ob.dict=none:=by
 cases x with
 |str z =>
  obtain ⟨t,rfl⟩:=r
  cases (show T="str" from ty)
  exact ⟨typeIs_str s z t,fun _ e=>nomatch e⟩
 |int i =>
  obtain ⟨t,rfl⟩:=r
  cases (show T="int" from ty)
  exact ⟨typeIs_int s i t,fun _ e=>nomatch e⟩
 |ref p =>
  cases r
  rcases ty with ⟨rfl,xs,hq⟩|⟨rfl,o,hk,hc,hd⟩|⟨rfl,hk⟩|⟨rfl,S,n,hk⟩
  ·obtain ⟨its,_,pl,_⟩:=I.list hq
   refine ⟨pl.isList.typeIs,fun a e=>?_⟩
   cases e
   obtain ⟨o,n,e,c,hd,_⟩:=pl
   exact ⟨o,e,hd⟩
  ·refine ⟨⟨o,I.kIn p o hk,hc⟩,fun a e=>?_⟩
   cases e
   exact ⟨o,I.kIn _ o hk,hd⟩
  ·have z:∃o,s.heap.get? p=some o/\o.ExactDict:=by
    rcases hk with ⟨kvs,hk⟩|⟨kvs,hk⟩
    ·obtain ⟨_,_,_,_,o,_,_,e,ex,_⟩:=I.hok p _ hk
     exact ⟨o,e,ex⟩
    ·obtain ⟨_,_,_,_,o,_,_,e,ex,_⟩:=I.hok p _ hk
     exact ⟨o,e,ex⟩
   obtain ⟨o,e,ex⟩:=z
   refine ⟨⟨o,e,ex.1⟩,fun a e2=>?_⟩
   cases e2
   exact ⟨o,e,ex.2.1⟩
  ·obtain ⟨o,_,_,_,e,ex,_⟩:=I.hok p _ hk
   refine ⟨⟨o,e,ex.1⟩,fun a e2=>?_⟩
   cases e2
   exact ⟨o,e,ex.2.1⟩
 |_=>exact False.elim ty
def tBM (K:PySem.W.Frag)(T:String)(r:V->List V->Hp->VK->Prop)(to:TE)(t:TA):TE:=fun σ H Q=>to σ H fun x H1=>tyV K T x H1/\t σ H1 fun xs H2=>r x xs H2 Q
variable {o e:Expr}{es:List Expr}{to:TE}{t:TA}{name:Str}{apos cpos:Pos}{T id:String}{r:V->List V->Hp->VK->Prop}
theorem zfe (pa:PlainAttrs T)(slot:Slot T name id)(hty:typeOf (.builtin id)=pure (.type "method_descriptor"))(hm:MtR X id r)(ho:PE X o to)(ha:PA X (e::es) t)
  (hbase:attributeBase o name X.env (eval o X.env)=eval o X.env:=by rfl)
  (hfew:((backTo cpos (starEach (e::es) X.env)).all (fun x=>!x.1) && (backToKw cpos (keywordEach [] X.env)).all (fun x=>x.1.isSome)
   && decide ((e::es).length+([]:List Keyword).length+(if ([]:List Keyword).isEmpty then 0 else 1)<30))=true:=by rfl)
  (hline:(apos.endLine == cpos.line)=true:=by rfl) (hs:starEach (e::es) X.env=(false,eval e X.env)::starEach es X.env:=by rfl) (hplain:(backTo cpos (starEach es X.env)).any (·.1)=false:=by rfl) :
  PE X (.Call (.Attribute o name apos) (e::es) [] cpos) (tBM X.K T r to t):=by
 intro pins s σ H Q I h
 refine wpAny_Call_method_late hbase hfew hline rfl (thn (ho pins s σ H _ I h) fun v s1 ⟨x,H1,I1,r1,ty,q1⟩=>?_)
 obtain ⟨h1,h2⟩:=zly I1 r1 ty
 refine ⟨T,id,pa,slot,hty,h1,h2,?_⟩
 have hA:=ha cpos pins s1 σ H1 _ I1 q1
 rw [hs] at hA ⊢
 refine Calls.callWith_builtin (by show (false || (backTo cpos (starEach es X.env)).any (·.1))=false;rw [hplain] <;> rfl) (Calls.evalArgs_plain ?_)
 exact thn hA fun us s2 ⟨vs,H2,I2,r2,q2⟩=>hm pins s2 σ H2 x vs v us Q I2 r1 r2 q2
/- xs.append(e),list.index on a module's tuple .. are MtR facts of 06m -/
end
def MtM (X:Cx)(id:String)(r:V->List V->Hp->VK->Prop):Prop :=
 ∀(pins:List (Addr×Obj)) (s:Shared) (σ:St) (H:Hp) (x:V) (xs:List V) (v:Value) (us:List Value) (Q:VK),Inv X pins σ H s->RelV x v->Vals xs us->r x xs H Q ->
  wpAny (model X.prog X.w) X.A (call (.builtin id) (v::us)) (EP X pins σ Q) X.xe s
theorem Vals.one:∀{x:V} {us:List Value},Vals [x] us->∃u,us=[u]/\RelV x u
 |_,_,.cons r .nil=>⟨_,rfl,r⟩
theorem Vals.two:∀{x y:V} {us:List Value},Vals [x,y] us->∃u v,us=[u,v]/\RelV x u/\RelV y v
 |_,_,_,.cons r (.cons q .nil)=>⟨_,_,rfl,r,q⟩
theorem Vals.reverse {xs:List V}{us:List Value}(h:Vals xs us):Vals xs.reverse us.reverse:=by
 induction h with
 |nil=>exact .nil
 |cons r t ih=>rw [List.reverse_cons,List.reverse_cons];exact Vals.append ih (.cons r .nil)
section
variable {X:Cx}{pins:List (Addr×Obj)}{σ:St}{H:Hp}{s:Shared}{l b:Addr}{xs ys zs:List V}
theorem Inv.lset {its its':List Value}{n:Nat}{f:Array Value->Array Value}{t':Nat}(I:Inv X pins σ H s)(hH:H l=some (.lst xs))
  (e:s.heap.get? l=some { cls:=.type "list",data:=.seq its.toArray n }) (hf:f its.toArray=its'.toArray) (hv:Vals ys its') (hz:ys.length<=sizeLine) :
  Inv X pins σ (upd H l (.lst ys)) { s with heap:=s.heap.update l (Obj.mapSeq f),toks:=t' }:=by
 have q:=PySem.IsL.update e f
 rw [hf] at q
 refine I.write (x:=l) (e:=l) (by rw [hH];exact trivial) (.inl rfl) (fun b' u hb hu=>(Heap.get?_update_other s.heap (Obj.mapSeq f) (Ne.symm hb)).trans hu) ⟨_,q⟩ ?_
 exact ⟨hz,its',_,hv,q⟩
theorem Inv.lnew {its:List Value}{t':Nat}(I:Inv X pins σ H s)(hv:Vals ys its)(hz:ys.length<=sizeLine) :
  Inv X pins σ (upd H s.heap.objs.size (.lst ys)) { s with heap:=s.heap.push { cls:=.type "list",data:=.seq its.toArray },toks:=t' } :=
 I.laid (fun _ _ q=>Heap.get?_push_of_some _ q) (Nat.le_refl _) ⟨hz,its,0,hv,Heap.get?_push_size _ rfl⟩
theorem Inv.fresh (I:Inv X pins σ H s):H s.heap.objs.size=none:=I.hok.fresh (Nat.le_refl _)
theorem Inv.lstM (I:Inv X pins σ H s)(hH:H l=some (.lst xs)):xs.length<=sizeLine/\∃(its:List Value) (n:Nat),Vals xs its/\xs.length=its.length/\s.heap.get? l=some { cls:=.type "list",data:=.seq its.toArray n }:=by
 obtain ⟨z,its,n,r,e⟩:=I.hok l _ hH
 exact ⟨z,its,n,r,r.length,e⟩
theorem notLongL {n:Nat}(h:n<=sizeLine):Builtin.List.listTooLong n=false:=by
 unfold Builtin.List.listTooLong
 exact decide_eq_false (by omega)
end
section
variable {X:Cx}
def rAppend:V->List V->Hp->VK->Prop:=fun x vs H Q=>∃l xs y,x=.ref l/\vs=[y]/\H l=some (.lst xs)/\xs.length<sizeLine/\Q .non (upd H l (.lst (xs++[y])))
theorem zbJ:MtM X "list.append" rAppend:=by
 intro pins s σ H x vs v us Q I rx rv h
 obtain ⟨l,xs,y,rfl,rfl,hH,hz,q⟩:=h
 cases rx
 obtain ⟨u,rfl,ru⟩:=rv.one
 obtain ⟨z,its,n,r,hl,e⟩:=I.lstM hH
 refine call_meets F.slot_list_append ⟨_,e,rfl⟩ F.entry_list_append (F.args_list_append_2 _ _) (PySem.list_append l its.toArray n u (by rw [List.size_toArray];omega)) ⟨e,?_⟩
 refine ⟨.non,_,I.lset (its':=its++[u]) hH e (by simp) (r.append (.cons ru .nil)) ?_,rfl,q⟩
 rw [List.length_append,List.length_singleton]
 omega
def rExtend:V->List V->Hp->VK->Prop:=fun x vs H Q=>∃l b xs zs,x=.ref l/\vs=[.ref b]/\H l=some (.lst xs)/\H b=some (.lst zs)/\xs.length+zs.length<=sizeLine/\Q .non (upd H l (.lst (xs++zs)))
theorem zhD:MtM X "list.extend" rExtend:=by
 intro pins s σ H x vs v us Q I rx rv h
 obtain ⟨l,b,xs,zs,rfl,rfl,hH,hB,hz,q⟩:=h
 cases rx
 obtain ⟨u,rfl,ru⟩:=rv.one
 cases ru
 obtain ⟨z,its,n,r,hl,e⟩:=I.lstM hH
 obtain ⟨z2,its2,n2,r2,hl2,e2⟩:=I.lstM hB
 have hsz:its.toArray.size+its2.toArray.size<=sizeLine:=by rw [List.size_toArray,List.size_toArray];omega
 have hlong:¬(!its.toArray.isEmpty && Builtin.List.listTooLong (its.toArray.size+its2.toArray.size))=true:=by
  rw [notLongL hsz,Bool.and_false]
  exact Bool.false_ne_true
 refine call_meets F.slot_list_extend ⟨_,e,rfl⟩ F.entry_list_extend (F.args_list_extend_2 _ _)
  (AutoSeq1.list_extend_list_list_0 l its.toArray n b its2.toArray n2 hlong (by rw [List.size_toArray];omega) (by omega)) ⟨e,e2,?_⟩
 refine ⟨.non,_,I.lset (its':=its++its2) hH e (by simp) (r.append r2) ?_,rfl,q⟩
 rw [List.length_append]
 omega
def rCat:R2:=fun x y H Q=>∃l b xs zs,x=.ref l/\y=.ref b/\H l=some (.lst xs)/\H b=some (.lst zs)/\xs.length+zs.length<=sizeLine/\∀p,H p=none->Q (.ref p) (upd H p (.lst (xs++zs)))
theorem zlG:OpR X (binaryOp .Add) rCat:=by
 intro pins s σ H x y v u Q I rx ry h
 obtain ⟨l,b,xs,zs,rfl,rfl,hH,hB,hz,q⟩:=h
 cases rx
 cases ry
 obtain ⟨z,its,n,r,hl,e⟩:=I.lstM hH
 obtain ⟨z2,its2,n2,r2,hl2,e2⟩:=I.lstM hB
 refine PySem.P.add_list e e2 ?_ (by rw [List.size_toArray,List.size_toArray];omega)
 have ea:its.toArray++its2.toArray=(its++its2).toArray:=by simp
 rw [ea]
 exact ⟨.ref _,_,I.lnew (t':=s.toks) (r.append r2) (by rw [List.length_append];omega),rfl,q _ I.fresh⟩
end
section
variable {prog:Program}{w:World}{A:Around}{E:Value->Shared->Prop}{s:Shared}
end
section
variable {X:Cx}
end
end L2
namespace Att
open PySem PySem.W PySem.Calls PyProof.Rows
theorem zcK {P:Params}{h:Heap}:∀(ns:List Int) (vs:List Value),WellAll P h vs (ns.map WData.int)->IntsAre vs ns:=by
 intro ns
 induction ns with
 |nil =>
  intro vs w
  rw [List.map_nil] at w
  cases w
  exact .nil
 |cons n ns ih =>
  intro vs w
  rw [List.map_cons] at w
  cases w with
  |cons a b =>
   cases a
   exact .cons _ _ (ih _ b)
theorem zhT {l:OpenLaw}{n:Nat}(hn:l.most=some n){P:Params}{h:Heap}{args:List WData}{vals:List Value}
  (hpre:l.row.toRowW.claim.pre args=true) (hwl:WellAll P h vals args) :
  ∃a vs ns,vals=[Value.ref a]/\args=[WData.list (ns.map WData.int)]/\h.get? a=some { cls:=.type "list",data:=.seq vs.toArray }/\IntsAre vs ns/\ns.length<=n:=by
 have hsh:WShape.hasAll [] args [.list .int]=true:=(pre_splitW hpre).1
 have hc:l.pre.holds [] { args:=args }=true:=(pre_splitW hpre).2
 obtain ⟨d,r,rfl,h1,h2⟩:=hasAllW_cons hsh
 obtain rfl:=hasAllW_nil h2
 obtain ⟨xs,rfl,h3⟩:=hasW_list h1
 obtain ⟨ns,rfl⟩:=items_int h3
 have hlen:ns.length<=n:=by
  unfold OpenLaw.pre at hc
  have h4:(WTm.not (.lt (.lit (.int (n:Int))) (.len (.arg 0)))).holds [] { args:=[.list (ns.map .int)] }=true:=by
   have h4:=(holds_andW hc).1
   rw [hn] at h4
   exact h4
  have h5:=condW_of h4 (w_not (w_lt w_lit (w_len_list (w_arg rfl))))
  rw [List.length_map] at h5
  refine Nat.le_of_not_lt fun q=>?_
  have q':(n:Int)<((ns.length:Nat):Int):=by omega
  first
   | (rw [decide_eq_true q'] at h5;exact absurd h5 (by decide))
   | (simp at h5;omega)
 cases hwl with
 |cons w1 w2 =>
  cases w2
  cases w1 with
  |list ho hall=>exact ⟨_,_,ns,rfl,rfl,ho,zcK ns _ hall,hlen⟩
theorem zhU (l:OpenLaw)(args:List WData):l.row.toRowW.claim.post args (.bool true) args=true :=
 postW_of (r:=l.row.toRowW) (X:=(true == true))
  (show WShape.has [] (.bool true) .bool=true by first|rfl|decide|simp [WShape.has,WShape.arms,WShape.armsAll])
  (show (WTm.eq .res (.lit (.bool true))).value [] { args:=args,res:=some (.bool true),after:=args }=some (.bool (true == true)) from w_eq_bool (w_res rfl) w_lit) rfl
theorem attach_call {l:OpenLaw}{n:Nat}{q:Program}{loose:List Str}{XP:(Str->Option Value)->Heap->Prop}{YP:World->Heap->Prop}{d:DefRec}
  (hn:l.most=some n) (hdf:d.params.defaults=[])
  (call:∀(w:World) (s₀ s₁:Shared) (mg mb:Str->Option Value) (fa:Addr) (o:Obj) (pm cd doc:Value) (a:Addr) (vs:List Value) (ns:List Int),
   Ground q loose [] XP w s₀ mg mb s₁.heap->YP w s₁.heap ->
   s₁.heap.get? fa=some o->o.data=.func (docDef d.name d.params d.body d.scope pm cd doc)->s₁.heap.CodeRec cd d.name->mg d.name=some (.ref fa) ->
   s₁.heap.get? a=some { cls:=.type "list",data:=.seq vs.toArray }->IntsAre vs ns->ns.length<=n->s₁.gens=#[] ->
   codeAny (model l.prog w) callerA (.call (.ref fa) ⟨[.ref a],[]⟩) (fun r s'=>r=.ok (.ret (.bool true))/\OldK s₁.heap s'.heap/\s'.os=s₁.os/\AllBare s'.gens) s₁) :
  WalkO q loose XP YP l.row.toRowW d [] (fun f vs=>PySem.call f vs):=by
 intro w s₀ s₁ mg mb G Y fa o pm cd doc dV kV ho hd hcd hD hmg hg args vals as hpre hlay hrd hwl hlo
 obtain rfl:dV=.none:=Dflts.none hD hdf
 obtain rfl:kV=.none:=Dflts.noKw hD
 obtain ⟨a,vs,ns,rfl,rfl,hobj,hints,hlen⟩:=zhT hn hpre hwl
 refine enter_call (codeAny_mono (call w s₀ s₁ mg mb fa o pm cd doc a vs ns G Y ho (fd_plain hd) hcd hmg hobj hints hlen hg) fun r s' hq=>?_)
 obtain ⟨rfl,h2,h3,h4⟩:=hq
 exact ⟨.inl ⟨.bool true,.bool true,[],rfl,fun _=>rfl,.bool true,zhU l _,fun _=>⟨List.Pairwise.nil,fun _ hm=>(nomatch hm)⟩⟩,h2,h3,h4⟩
section
variable {prog:Program}{w:World}{A:Around}{E:Value->Shared->Prop}{s:Shared}{K:Frag}
end
end Att
namespace L2
open PySem PySem.Spec PyProof.Rows
theorem zeo:∀{vs:List Value} {ns:List Int},IntsAre vs ns->Vals (ns.map V.int) vs
 |_,_,.nil=>.nil
 |_,_,.cons n t h=>.cons ⟨t,rfl⟩ (zeo h)
def Only (H:Hp):Prop:=∀b,H b=none \/ ∃o xs,H b=some (.frz o (.lst xs))
theorem ziD {P:Program}{w:World}{K:PySem.W.Frag}{mg mb:Str->Option Value}{CX:CXT}{k:Nat}{fa a:Addr}{fd:FuncData}{x:Str}{sp:Sp}{s₁:Shared}{vs:List Value}{ns:List Int}
  (KX:K.In s₁.heap) (hns:s₁.heap.Ns mainGlobals mg) (hb:s₁.heap.Ns builtinsNs mb) (hbb:∀x:Str,x ≠ "__name__"->mb x=bootBuiltins x) (hlim:s₁.heap.NoLimit) (hg:s₁.gens=#[])
  (ha:s₁.heap.get? a=some { cls:=.type "list",data:=.seq vs.toArray }) (hi:IntsAre vs ns) (hl:ns.length<=sizeLine) (hr:Room k callerA)
  (F:∀base:Heap,K.In base->base.Ns mainGlobals mg->FnOk P w K mg base CX k fa fd [x] sp) (hbind:∀(s:Shared) (u:Value),BindsTo s fd ⟨[u],[]⟩ [(x,u)])
  (hsp:∀H:Hp,Only H->SqL K H a (ns.map V.int)->sp [.ref a] H (fun v _=>v=.bl true) fun _ _ _=>False)
  (hCX:∀H e s',CX [] H s₁ (fun _ _ _=>False) e s'->False) :
  codeAny (model P w) callerA (.call (.ref fa) ⟨[.ref a],[]⟩) (fun r s'=>r=.ok (.ret (.bool true))/\OldK s₁.heap s'.heap/\s'.os=s₁.os/\AllBare s'.gens) s₁:=by
 have rv:=zeo hi
 have lenV:=hi.length
 have core:∀H:Hp,Only H->SqL K H a (ns.map V.int)->HOk P w H s₁.heap->(∀b,H b≠none->b=a)->(H a≠none->K.lookup a=none) ->
   codeAny (model P w) callerA (.call (.ref fa) ⟨[.ref a],[]⟩) (fun r s'=>r=.ok (.ret (.bool true))/\OldK s₁.heap s'.heap/\s'.os=s₁.os/\AllBare s'.gens) s₁:=by
  intro H hO hS hok hA hK
  have base_of:∀{b:Addr} {o:Obj},s₁.heap.get? b=some o->H b=none->(hidT s₁.heap H).get? b=some o:=fun e n=>zi1 e n
  have noA:∀{b:Addr} {o:Obj} {es:Array DictEntry} {ep:Nat},s₁.heap.get? b=some o->o.data=.dict es ep->H b=none:=fun {b o es ep} e d=>by
   cases q:H b with
   |none=>rfl
   |some u =>
    have e':b=a:=hA b (by rw [q];simp)
    subst e'
    rw [ha] at e;cases e
    have d':Data.seq vs.toArray _=Data.dict es ep:=d
    cases d'
  have nsK:∀{b:Addr} {m:Str->Option Value},s₁.heap.Ns b m->(hidT s₁.heap H).Ns b m:=fun {b m} ⟨o,es,ep,e,d,r⟩=>⟨o,es,ep,base_of e (noA e d),d,r⟩
  have hKb:K.In (hidT s₁.heap H):=fun b o e=>base_of (KX b o e) (by
   cases q:H b with
   |none=>rfl
   |some u =>
    have e':b=a:=hA b (by rw [q];simp)
    subst e'
    rw [hK (by rw [q];simp)] at e;cases e)
  have hM:Mod K mg (hidT s₁.heap H):=⟨hKb,nsK hns,⟨mb,nsK hb,hbb⟩,let ⟨mc,h1,h2⟩:=hlim;⟨mc,nsK h1,h2⟩⟩
  have e0:Env0 P w K mg (hidT s₁.heap H) callerA [] s₁ H:=⟨rfl,hM,fun b o e=>zj6 e,Nat.le_of_eq (zgL _ _),trivial,fun b hb=>absurd (show b∈([]:List Addr) from hb) (by simp),hok,.of_eq hg⟩
  refine codeAny_mono ((F _ hKb (nsK hns)).run callerA [] s₁ H ⟨[.ref a],[]⟩ [.ref a] [.ref a] _ _ hr e0 (hbind s₁ (.ref a)) (.cons rfl .nil) (hsp H hO hS)) fun r s' h=>?_
  cases r with
  |error e=>exact (hCX H e s' h).elim
  |ok fl =>
   cases fl with
   |next=>exact False.elim h
   |brk=>exact False.elim h
   |cont=>exact False.elim h
   |ret u =>
    obtain ⟨v,H',os,bare,un,hok',r',q⟩:=h
    have q':v=.bl true:=q
    subst q'
    obtain rfl:u=Value.bool true:=r'
    refine ⟨rfl,OldK.of_keep fun b o e=>?_,os,bare⟩
    cases q:H b with
    |none=>exact un.keep b o e q (by intro z;exact absurd (show b∈([]:List Addr) from z) (by simp)) (by simp)
    |some u =>
     rcases hO b with z|⟨ob,xs,z⟩
     ·rw [q] at z;cases z
     ·have z2:=un.frzs b ob _ z
      obtain ⟨e1,_⟩:=hok b _ z
      obtain ⟨e2,_⟩:=hok' b _ z2
      rw [e] at e1;cases e1
      exact e2
 cases hk:K.lookup a with
 |some o =>
  have e:=KX a o hk
  rw [ha] at e
  cases e
  refine core (fun _=>none) (fun _=>.inl rfl) (.inr ⟨_,vs.toArray,_,hk,rfl,rfl,rfl,by rw [List.size_toArray,lenV];exact hl,by simpa using rv⟩) (fun b u z=>by have z':(none:Option HO)=some u:=z;cases z') (fun b z=>absurd rfl z) fun z=>absurd rfl z
 |none =>
  refine core (fun b=>if b=a then some (.frz { cls:=.type "list",data:=.seq vs.toArray } (.lst (ns.map V.int))) else none) (fun b=>?_) (.inl (.inr ⟨{ cls:=.type "list",data:=.seq vs.toArray },if_pos rfl⟩)) (fun b u z=>?_) (fun b z=>?_) fun _=>hk
  ·by_cases hb:b=a
   ·exact .inr ⟨_,_,if_pos hb⟩
   ·exact .inl (if_neg hb)
  ·by_cases hb:b=a
   ·have z':=(if_pos hb).symm.trans z
    cases z'
    subst hb
    exact ⟨ha,by rw [List.length_map];exact hl,vs,_,rv,ha⟩
   ·have z':=(if_neg hb).symm.trans z
    cases z'
  ·by_cases hb:b=a
   ·exact hb
   ·exact absurd (if_neg hb) z
theorem walk_of {l:PySem.W.OpenLaw}{n k:Nat}{q:Program}{loose:List Str}{XP:(Str->Option Value)->Heap->Prop}{YP:World->Heap->Prop}{d:DefRec}{K:Params->PySem.W.Frag}{CX:World->CXT}{sp:World->Sp}{x:Str}
  (hn:l.most=some n) (hn2:n<=sizeLine) (hdf:d.params.defaults=[]) (hr:Room k callerA)
  (hY:∀(w:World) (h:Heap),YP w h->(K w.params).In h)
  (F:∀(w:World) (mg:Str->Option Value) (fa:Addr) (h:Heap),(K w.params).In h->h.Ns mainGlobals mg->mg d.name=some (.ref fa) ->
   ∃fd:FuncData,(∀(s:Shared) (u:Value),BindsTo s fd ⟨[u],[]⟩ [(x,u)]) /\
    ∀base:Heap,(K w.params).In base->base.Ns mainGlobals mg->FnOk l.prog w (K w.params) mg base (CX w) k fa fd [x] (sp w))
  (hsp:∀(w:World) (H:Hp) (a:Addr) (ns:List Int),ns.length<=n->Only H->SqL (K w.params) H a (ns.map V.int)->sp w [.ref a] H (fun v _=>v=.bl true) fun _ _ _=>False)
  (hCX:∀(w:World) (H:Hp) (s:Shared) (e:Value) (s':Shared),CX w [] H s (fun _ _ _=>False) e s'->False) :
  PySem.W.WalkO q loose XP YP l.row.toRowW d [] (fun f vs=>PySem.call f vs):=by
 refine Att.attach_call hn hdf fun w s₀ s₁ mg mb fa o pm cd doc a vs ns G Y ho hd hcd hmg hobj hints hlen hg=>?_
 have KX:=hY w _ Y
 obtain ⟨fd,hb,hF⟩:=F w mg fa _ KX G.T.g hmg
 exact ziD KX G.T.g G.T.b G.T.builtins G.T.nolimit hg hobj hints (Nat.le_trans hlen hn2) hr hF hb (fun H hO hS=>hsp w H a ns hlen hO hS) fun H e s'=>hCX w H s₁ e s'
def defArgs (s:Stmt):Arguments:=match s with
 | .FunctionDef _ a _ _ _ _ _ _ _ _=>a
 |_=>{ posonlyargs:=[],args:=[],vararg:=none,kwonlyargs:=[],kw_defaults:=[],kwarg:=none,defaults:=[] }
def defBody (s:Stmt):List Stmt:=match s with
 | .FunctionDef _ _ b _ _ _ _ _ _ _=>b
 |_=>[]
def defScope (s:Stmt):Scope:=match s with
 | .FunctionDef _ _ _ _ _ _ sc _ _ _=>sc
 |_=>{ kind:=.function,names:=[],isGenerator:=false,isCoroutine:=false }
structure Fun (K:PySem.W.Frag)(x qual:Str)(st:Stmt)(f:Addr)(fd:FuncData):Prop where
 ex:∃(oc:Value) (od:Option Addr) (kV doc pm:Value) (an:Option Addr) (cdv ct:Value) (osl:Array (Option Value)),
  fd=PySem.W.fnOf x qual (defArgs st) (defBody st) (defScope st) .none kV doc pm an cdv ct/\K.lookup f=some ⟨oc,od,.func fd,osl⟩/\PySem.W.codeIn K cdv qual=true
 kp:PySem.W.keepIn K (.ref f)=true
section
variable {P:Program}{w:World}{K:PySem.W.Frag}{mg:Str->Option Value}{base:Heap}
theorem Fun.binds {x qual:Str}{st:Stmt}{f:Addr}{fd:FuncData}{ps:List Str}(F:Fun K x qual st f fd)
  (h:∀(kV doc pm:Value) (an:Option Addr) (cdv ct:Value) (us:List Value),us.length=ps.length->bindArgs (PySem.W.fnOf x qual (defArgs st) (defBody st) (defScope st) .none kV doc pm an cdv ct) ⟨us,[]⟩=pure (ps.zip us)):Binds K fd ps []:=by
 obtain ⟨oc,od,kV,doc,pm,an,cdv,ct,osl,rfl,lk,hcd⟩:=F.ex
 exact .all (h kV doc pm an cdv ct)
theorem zjg {x qual:Str}{st:Stmt}{f:Addr}{oc:Value}{od an:Option Addr}{osl:Array (Option Value)}{kV doc pm cdv ct:Value}(l:K.lookup f=some ⟨oc,od,.func (PySem.W.fnOf x qual (defArgs st) (defBody st) (defScope st) .none kV doc pm an cdv ct),osl⟩)
  (c:PySem.W.codeIn K cdv qual=true) (k:PySem.W.keepIn K (.ref f)=true):Fun K x qual st f (PySem.W.fnOf x qual (defArgs st) (defBody st) (defScope st) .none kV doc pm an cdv ct):=⟨⟨oc,od,kV,doc,pm,an,cdv,ct,osl,rfl,l,c⟩,k⟩
end
theorem zaT {A:Around}{k:Nat}(hr:Room k A):A.units+1<cLine:=Nat.lt_of_le_of_lt (Nat.add_le_add_left (by decide:1<=64) _) hr.units
section
variable {X:Cx}
end
section
variable {κ:Type}[DecidableEq κ]
def valV (kvs:List (κ×V))(k:κ):Option V:=(kvs.find? fun kv=>decide (kv.1=k)).map (·.2)
def putK (kvs:List (κ×V))(k:κ)(v:V):List (κ×V) :=
 if (kvs.any fun kv=>decide (kv.1=k))=true then kvs.map (fun kv=>if kv.1=k then (kv.1,v) else kv) else kvs++[(k,v)]
theorem zfz {p:κ×V}{r:List (κ×V)}{k:κ}(e:p.1=k):valV (p::r) k=some p.2:=by simp [valV,List.find?_cons,e]
theorem zfO {p:κ×V}{r:List (κ×V)}{k:κ}(e:¬p.1=k):valV (p::r) k=valV r k:=by simp [valV,List.find?_cons,e]
theorem RelO.getD {o:Option V}{u:Option Value}{d:V}{d':Value}(r:RelO o u)(rd:RelV d d'):RelV (o.getD d) (u.getD d'):=by
 cases o with
 |none=>cases u with
  |none=>exact rd
  |some _=>exact (show False from r).elim
 |some _=>cases u with
  |none=>exact (show False from r).elim
  |some _=>exact r
end
section
variable {P:Program}{w:World}{H:Hp}{h:Heap}{a:Addr}
end
section
variable {X:Cx}{pins:List (Addr×Obj)}{σ:St}{H:Hp}{s:Shared}{a:Addr}{y v:V}{u r:Value}{o:Option V}{A:Around}{E:Value->Shared->Prop}
end
section
variable {X:Cx}{pins:List (Addr×Obj)}{σ:St}{H:Hp}{s:Shared}{a:Addr}{kvs:List (Key×V)}{k:Key}{u:Value}{A:Around}{E:Value->Shared->Prop}
end
section
variable {X:Cx}{o i e value:Expr}{pos pos' tpos:Pos}{td ty tv:TE}
end
section
variable {X:Cx}{pos:Pos}
end
section
variable {X:Cx}{pins:List (Addr×Obj)}{σ:St}{H:Hp}{s:Shared}{a:Addr}{y d:V}{u r:Value}{o:Option V}{A:Around}{E:Value->Shared->Prop}
end
section
variable {X:Cx}{o e f:Expr}{apos cpos:Pos}{td ty tx:TE}
end
section
variable {X:Cx}{pins:List (Addr×Obj)}{σ:St}{H:Hp}{s:Shared}{a:Addr}{kvs:List (Key×V)}{A:Around}{E:Value->Shared->Prop}
end
section
variable {X:Cx}{pins:List (Addr×Obj)}{σ:St}{H:Hp}{s:Shared}{a:Addr}{y:V}{u:Value}{A:Around}{E:Value->Shared->Prop}
end
end L2
namespace WE
open PySem PySem.Spec PyProof.Rows
open AutoSeq1 (wpAny_loadPart')
section
variable {pg:Program}{wd:World}{A:Around}{Er:Value->Shared->Prop}{s:Shared}
theorem zgl {it t:Addr}{i:Nat}{xs:Array Value}{x:Value}{Q:Value->Shared->Prop}(hi:s.heap.IsTupleIter it t i)(ht:s.heap.IsTuple t xs)(hx:xs[i]?=some x)
  (k:∀h',h'.IsTupleIter it t (i+1)->Heap.SameBut it s.heap h'->Q x { s with heap:=h' }):wpAny (model pg wd) A (Builtin.SmallTypes.nextOf (.ref it)) Q Er s:=by
 obtain ⟨oi,gi,ci,di⟩:=id hi
 obtain ⟨ot,gt,_,nt,dt⟩:=ht
 unfold Builtin.SmallTypes.nextOf
 refine wpAny_bind (wpAny_callSpecial?_slot (name:=Str.ofString "__next__") hi.typeIs F.slot_tuple_iterator_next (wpAny_call_entry F.slot_tuple_iterator_next hi.typeIs F.entry_tuple_iterator_next ?_ (F.args_tuple_iterator_next_1 _)))
 show wpAny _ _ (field (.ref it) 0 >>= _) _ _ _
 refine wpAny_bind (wpAny_field gi di (x:=.ref t) rfl ?_);show wpAny _ _ (if (Value.ref t == Value.none)=true then _ else _) _ _ _
 rw [if_neg (show ¬((Value.ref t == Value.none)=true) from fun z=>Bool.false_ne_true z)];show wpAny _ _ (field (.ref it) 1 >>= _) _ _ _
 refine wpAny_bind (wpAny_field gi di (x:=.int i 0) rfl ?_);show wpAny _ _ (seqItems? (.ref t) >>= _) _ _ _
 refine wpAny_bind (wpAny_seqItems gt dt ?_)
 simp only [Int.toNat_natCast,hx]
 refine wpAny_bind (wpAny_setField gi di (by simp) (wpAny_pure ⟨x,rfl,wpAny_pure (k _ ?_ (Heap.SameBut.update ..))⟩))
 refine ⟨_,Heap.get?_update_self _ gi (Obj.isFreed_of_fields (Obj.data_mapFields di _)),(Obj.cls_mapFields ..).trans ci,?_⟩
 rw [Obj.data_mapFields di];simp [rawInt]
theorem zhR {it t:Addr}{i:Nat}{xs:Array Value}{Q:Value->Shared->Prop}(hh:A.handled=none)(hi:s.heap.IsTupleIter it t i)(ht:s.heap.IsTuple t xs)(hx:xs[i]?=none)
  (k:∀h' e,Heap.ExtBut it s.heap h'->(∃o,h'.get? e=some o/\o.cls=.type "StopIteration")->Er (.ref e) { s with heap:=h' }):wpAny (model pg wd) A (Builtin.SmallTypes.nextOf (.ref it)) Q Er s:=by
 obtain ⟨oi,gi,ci,di⟩:=id hi
 obtain ⟨ot,gt,_,nt,dt⟩:=ht
 unfold Builtin.SmallTypes.nextOf
 refine wpAny_bind (wpAny_callSpecial?_slot (name:=Str.ofString "__next__") hi.typeIs F.slot_tuple_iterator_next (wpAny_call_entry F.slot_tuple_iterator_next hi.typeIs F.entry_tuple_iterator_next ?_ (F.args_tuple_iterator_next_1 _)))
 show wpAny _ _ (field (.ref it) 0 >>= _) _ _ _
 refine wpAny_bind (wpAny_field gi di (x:=.ref t) rfl ?_);show wpAny _ _ (if (Value.ref t == Value.none)=true then _ else _) _ _ _
 rw [if_neg (show ¬((Value.ref t == Value.none)=true) from fun z=>Bool.false_ne_true z)];show wpAny _ _ (field (.ref it) 1 >>= _) _ _ _
 refine wpAny_bind (wpAny_field gi di (x:=.int i 0) rfl ?_);show wpAny _ _ (seqItems? (.ref t) >>= _) _ _ _
 refine wpAny_bind (wpAny_seqItems gt dt ?_)
 simp only [Int.toNat_natCast,hx]
 refine wpAny_bind (wpAny_rule (wpAny_bind (wpAny_setField gi di (by simp) ?_)));show wpAny _ _ (newExc (.type "StopIteration") [] >>= _) _ _ _
 refine wpAny_bind ?_;simp only [newExc,newTuple]
 refine wpAny_bind (wpAny_newObj_type ?_ (by size_fits));refine wpAny_bind (m:=firstArgMember _ _) (wpAny_of_eq (a:=Value.none) (by first|rfl|(simp only [firstArgMember];rfl)) ?_)
 refine wpAny_newObj_type ?_ (by size_fits);simp only [raiseNew]
 refine wpAny_bind (wpAny_handled ?_);first|rw [show A.in1.handled=none from hh]|rw [hh]
 refine wpAny_bind (wpAny_pure (wpAny_throw ?_))
 exact k _ _ (((Heap.SameBut.update ..).extBut.push _).push _) ⟨_,Heap.get?_push_size _ rfl,rfl⟩
end
theorem draws_tuple {pg:Program}{wd:World}{A:Around}(hh:A.handled=none)(it t:Addr)(hne:t≠it)(xs:Array Value) :
  Draws pg wd A it [it,t] xs.size (fun i v=>xs[i]?=some v) (fun i h=>h.IsTupleIter it t i/\h.IsTuple t xs) where
 live:=fun _ _ st=>let ⟨o,g,_⟩:=st.1;⟨o,g⟩
 frame:=fun _ _ _ st kp=>⟨let ⟨o,g,r⟩:=st.1;⟨o,kp it (by simp) o g,r⟩,let ⟨o,g,r⟩:=st.2;⟨o,kp t (by simp) o g,r⟩⟩
 item:=fun i s Q E hi st hQ=>zgl st.1 st.2 (x:=xs[i]) (by simp [hi]) fun h' hit' hs'=>hQ _ h' s.toks (by simp [hi]) ⟨hit',st.2.extBut hs'.extBut hne⟩ hs'
 done:=fun s Q E st hE=>zhR hh st.1 st.2 (by simp) hE
theorem ze6 (l:Addr)(xs:Array Value)(n:Nat)(dc:Option Addr)(sl:Array (Option Value)) :
  Meets (Builtin.«enumerate.__new__» ⟨[.type "enumerate",.ref l],[]⟩) (fun _ R s=>s.heap.get? l=some { cls:=.type "tuple",dict:=dc,data:=.seq xs n,slots:=sl } /\
   R (.ok (.ret (.ref (s.heap.push { cls:=.type "tuple_iterator",data:=.fields #[.ref l,.int 0 0] }).objs.size)))
    { s with heap:=(s.heap.push { cls:=.type "tuple_iterator",data:=.fields #[.ref l,.int 0 0] }).push { cls:=.type "enumerate",data:=.fields #[.none,.bool false,.ref s.heap.objs.size,rawInt 0,.none,.none] } }) :=
 .of_wp fun prog w A R s h=>by
  obtain ⟨hp,g,d,tk,os⟩:=s;obtain ⟨gl,h⟩:=h
  have hsub:=sub_enumerate
  have hT:Heap.IsTuple (Shared.heap ⟨hp,g,d,tk,os⟩) l xs:=⟨_,gl,rfl,n,rfl⟩
  wp_walk using wpAny_loadPart' gl
  refine wpAny_stack_any fun st=>wpAny_pure ?_
  split
  ·rename_i c _ _ _ _ _
   cases (c == Value.type "enumerate")
   ·wp_walk using wpAny_loadPart' gl,wpAny_pyIter_tuple hT
    exact ⟨_,rfl,h⟩
   ·wp_walk using wpAny_loadPart' gl,wpAny_pyIter_tuple hT
    exact ⟨_,rfl,h⟩
  ·wp_walk using wpAny_loadPart' gl,wpAny_pyIter_tuple hT
   exact ⟨_,rfl,h⟩
theorem call_enumT {pg:Program}{wd:World}{A:Around}{Er:Value->Shared->Prop}{s:Shared}{l:Addr}{xs:Array Value}{Q:Value->Shared->Prop}(hT:s.heap.IsTuple l xs)
  (k:∀h',IsEnum h' (s.heap.objs.size+1) s.heap.objs.size 0 .none->h'.IsTupleIter s.heap.objs.size l 0->h'.objs.size=s.heap.objs.size+2 ->
   (∀b o,s.heap.get? b=some o->h'.get? b=some o)->Q (.ref (s.heap.objs.size+1)) { s with heap:=h' }):wpAny (model pg wd) A (call (.type "enumerate") [.ref l]) Q Er s:=by
 obtain ⟨⟨c,dct,dt,sl⟩,gl,hc,n,hd⟩:=hT
 cases (show c=.type "tuple" from hc)
 cases (show dt=.seq xs n from hd)
 refine callType_new F.called_enumerate (by decide) (F.typeCall_enumerate_1 _) (F.newCall_enumerate_1 _) (fun obj=>F.args_object_init_2 obj _) F.entry_enumerate_new (ze6 l xs n dct sl) ⟨gl,?_⟩
 have hz:(s.heap.push { cls:=.type "tuple_iterator",data:=.fields #[.ref l,.int 0 0] }).objs.size=s.heap.objs.size+1:=Heap.size_push ..
 show _/\_
 rw [hz]
 have he:IsEnum ((s.heap.push { cls:=.type "tuple_iterator",data:=.fields #[.ref l,.int 0 0] }).push { cls:=.type "enumerate",data:=.fields #[.none,.bool false,.ref s.heap.objs.size,rawInt 0,.none,.none] }) (s.heap.objs.size+1) s.heap.objs.size 0 .none:=by
  have q:=Heap.get?_push_size (s.heap.push { cls:=.type "tuple_iterator",data:=.fields #[.ref l,.int 0 0] }) (o:={ cls:=.type "enumerate",data:=.fields #[.none,.bool false,.ref s.heap.objs.size,rawInt 0,.none,.none] }) rfl
  rw [hz] at q;exact q
 exact ⟨⟨_,he,rfl⟩,k _ he ⟨_,Heap.get?_push_of_some _ (Heap.get?_push_size _ rfl),rfl,rfl⟩ (by rw [Heap.size_push,hz]) fun b o y=>Heap.get?_push_of_some _ (Heap.get?_push_of_some _ y)⟩
end WE
namespace L2
open PySem PySem.Spec PyProof.Rows
section
variable {X:Cx}
def CDivB (i j:Int):Prop:=0<j/\j<10000000000000000000000000000000000000000000000000000000000000000000000
theorem ziM:OpR X (binaryOp .FloorDiv) (rI CDivB fun i j=>.int (i / j)):=opI fun i j _ _ _ _ _ hc q=>by
 obtain ⟨h1,h2⟩:=hc
 refine floordiv_int (by omega) (by rw [Int.fdiv_eq_ediv_of_nonneg i (by omega)];exact q) (.inl (PyProof.noPylong_of_log2 ?_))
 have h0:j.natAbs≠0:=by omega
 refine Nat.lt_of_lt_of_le ((Nat.log2_lt h0).mpr (?_:j.natAbs<2 ^ 250)) (by decide)
 have e:(10000000000000000000000000000000000000000000000000000000000000000000000:Nat)<2 ^ 250:=by decide
 omega
end
section
variable {X:Cx}{pins:List (Addr×Obj)}{σ:St}{H:Hp}{s:Shared}{h':Heap}
theorem Inv.turnLaid {t':Nat}{ch:List Addr}{T:Addr}{o:HO}(I:Inv X pins σ H s)(hf:∀b∈ch,FpOk X pins H b)(k:∀b u,b∉ch->s.heap.get? b=some u->h'.get? b=some u)
  (hp:s.heap.objs.size<=T) (new:ObjOk X.prog X.w (upd H T o) h' T o):Inv X pins σ (upd H T o) { s with heap:=h',toks:=t' }:=by
 have hn:H T=none:=I.hok.fresh hp
 have nch:∀b u,H b=some u->b∉ch:=fun b u e z=>by
  have q:=(hf b z).1
  rw [e] at q
  cases q
 refine I.step (g':=s.gens) (d':=s.drawn) (ch:=ch) (fun b hb=>?_) (fun b u _ _ hc e _=>k b u hc e) (fun b u _ _ hc e _=>⟨u.slots,k b u hc e⟩) (fun b u _ e n=>?_) (fun b u hc e=>⟨u,k b u hc e⟩) (fun b xs e=>?_) (fun b u v e=>?_) (fun b ps e=>⟨#[],?_⟩) (fun m hm=>?_) (fun b u e=>?_) I.bare
 ·obtain ⟨f0,f1,f2,f3,f4,f5⟩:=hf b hb
  exact ⟨f3,f1,f4,f5⟩
 ·rw [zn (Nat.ne_of_lt (Nat.lt_of_lt_of_le (Heap.lt_size e) hp))]
  exact n
 ·rw [zn (zr e hn)]
  exact e
 ·rw [zn (zr e hn)]
  exact e
 ·rw [zn (zr e hn),e]
  simp
 ·obtain ⟨ob,es,ep,ho,r⟩:=hm
  exact ⟨ob,es,ep,k _ ob (fun z=>(hf _ z).2.1 rfl) ho,r⟩
 ·by_cases hb:b=T
  ·subst hb
   rw [zE] at e
   cases e
   exact new
  ·rw [zn hb] at e
   refine (I.hok b u e).stay (fun c v hc q=>k c v ?_ q) (fun c q=>by rw [zn (zr q hn)];exact q) fun c xs q=>by rw [zn (zr q hn)];exact q
   rcases hc with z|z
   ·rw [z]
    exact nch b u e
   ·exact nch c _ z
theorem Inv.turnedL {t':Nat}{ch:List Addr}(I:Inv X pins σ H s)(hf:∀b∈ch,FpOk X pins H b)(k:∀b u,b∉ch->s.heap.get? b=some u->h'.get? b=some u):Inv X pins σ H { s with heap:=h',toks:=t' }:=by
 have nch:∀b u,H b=some u->b∉ch:=fun b u e z=>by
  have q:=(hf b z).1
  rw [e] at q
  cases q
 refine I.step (g':=s.gens) (d':=s.drawn) (ch:=ch) (fun b hb=>?_) (fun b u _ _ hc e _=>k b u hc e) (fun b u _ _ hc e _=>⟨u.slots,k b u hc e⟩) (fun _ _ _ _ n=>n) (fun b u hc e=>⟨u,k b u hc e⟩) (fun _ _ e=>e) (fun _ _ _ e=>e) (fun b ps e=>⟨#[],by rw [e];simp⟩) (fun m hm=>?_) (fun b u e=>?_) I.bare
 ·obtain ⟨f0,f1,f2,f3,f4,f5⟩:=hf b hb
  exact ⟨f3,f1,f4,f5⟩
 ·obtain ⟨ob,es,ep,ho,r⟩:=hm
  exact ⟨ob,es,ep,k _ ob (fun z=>(hf _ z).2.1 rfl) ho,r⟩
 ·refine (I.hok b u e).stay (fun c v hc q=>k c v ?_ q) (fun _ q=>q) fun _ _ q=>q
  rcases hc with z|z
  ·rw [z]
   exact nch b u e
  ·exact nch c _ z
end
def Ite (K:PySem.W.Frag)(a:Addr):It :=
 ⟨fun i H=>∃xs x,SqT K H a xs/\xs[i]?=some x,fun i H x H'=>∃T,H T=none/\x=.ref T/\∀xs y,SqT K H a xs->xs[i]?=some y->H'=upd H T (.tup [.int i,y]),fun i H=>∃xs,SqT K H a xs/\xs.length=i⟩
theorem zdn {h:Heap}{a b:Addr}{o u:Obj}(x:h.get? a=some o)(y:h.get? b=some u)(z:o.cls≠u.cls):a≠b:=fun e=>by
 subst e
 rw [x] at y
 cases y
 exact z rfl
theorem zf8 {P:Program}{w:World}{K:PySem.W.Frag}{es:List Expr}{kk:Nat}{pos:Pos}(a e it:Addr) :
  Turn P w K (.Tuple es kk pos) (Ite K a) [e,it] e (fun i h=>(∃old,IsEnum h e it i old)/\h.IsTupleIter it a i) where
 mem:=by simp
 obj:=fun i h st b hb=>by
  obtain ⟨⟨old,he⟩,oi,gi,ci,di⟩:=st
  rcases List.mem_cons.mp hb with z|z
  ·subst z
   exact ⟨_,he,fun v y=>nomatch y⟩
  ·have z:b=it:=by simpa using z
   subst z
   exact ⟨oi,gi,fun v y=>by rw [di] at y;cases y⟩
 keep:=fun i h h' st k=>by
  obtain ⟨⟨old,he⟩,oi,gi,r⟩:=st
  exact ⟨⟨old,k e (by simp) _ he⟩,oi,k it (by simp) _ gi,r⟩
 item:=by
  intro X hP hw hK hc i pins s σ H E I hf st hg
  subst hP hw hK
  obtain ⟨xs,x,hq,hx⟩:=hg
  obtain ⟨its,rv,p,hz⟩:=I.tuple hq
  obtain ⟨⟨old,he⟩,hi⟩:=st
  obtain ⟨oi,gi,ci,di⟩:=id hi
  obtain ⟨oa,ga,ca,na,da⟩:=id p
  have nai:a≠it:=zdn ga gi (by rw [ca,ci];exact fun z=>absurd (Value.type.inj z) (by decide))
  have nei:e≠it:=zdn he gi (by rw [ci];exact fun z=>absurd (Value.type.inj z) (by decide))
  have nea:e≠a:=zdn he ga (by rw [ca];exact fun z=>absurd (Value.type.inj z) (by decide))
  have hl:=rv.length
  have hil:i<its.toArray.size:=by
   have:=(List.getElem?_eq_some_iff.mp hx).1
   simpa using (by omega:i<its.length)
  have W:=WalksT.enumerateD (prog:=X.prog) (w:=X.w) (A:=X.A) (WE.draws_tuple (pg:=X.prog) (wd:=X.w) (A:=X.A.in1) (I.ok.hd hc) it a nai its.toArray) e nei (by simp [nei,nea]) (by simp)
  refine W.item i s _ E hil ⟨⟨old,he⟩,hi,p⟩ fun T vals h1 tk hP hsz hT mid kp=>⟨.ref T,rfl,?_⟩
  refine W.go es kk pos i T _ _ E mid fun h2 st2 kp2=>?_
  obtain ⟨t,y,hy,rfl⟩:=hP
  obtain ⟨u,hu,ru⟩:=rv.get hx
  have ey:y=u:=Option.some.inj (hy.symm.trans (by simpa using hu))
  subst ey
  have hch:∀b o,b∉[e,it]->s.heap.get? b=some o->h2.get? b=some o:=fun b o hb q=>kp2 b o hb (kp b o hb q)
  have hTw:=W.apart i T h1 mid
  have new:ObjOk X.prog X.w (upd H T (.tup [.int i,x])) h2 T (.tup [.int i,x]):=by
   obtain ⟨o,g,r⟩:=hT
   exact ⟨by show 2<=sizeLine;decide,[.int i t,y],.cons ⟨t,rfl⟩ (.cons ru .nil),o,kp2 T o hTw g,r⟩
  have I2:=I.turnLaid (t':=tk) hf hch hsz new
  refine ⟨.ref T,_,I2,rfl,⟨T,I.hok.fresh hsz,rfl,fun ys z hy' hz'=>?_⟩,⟨st2.1,st2.2.1⟩,fun b hb=>?_⟩
  ·rw [I.tuple_inj hy' hq] at hz'
   rw [hx] at hz'
   cases hz'
   rfl
  ·rw [zn (fun z:b=T=>hTw (z ▸ hb))]
   exact (hf b hb).1
 done:=by
  intro X hP hw hK hc i pins s σ H E I hf st hg
  subst hP hw hK
  obtain ⟨xs,hq,hx⟩:=hg
  obtain ⟨its,rv,p,hz⟩:=I.tuple hq
  obtain ⟨⟨old,he⟩,hi⟩:=st
  obtain ⟨oi,gi,ci,di⟩:=id hi
  obtain ⟨oa,ga,ca,na,da⟩:=id p
  have nai:a≠it:=zdn ga gi (by rw [ca,ci];exact fun z=>absurd (Value.type.inj z) (by decide))
  have nei:e≠it:=zdn he gi (by rw [ci];exact fun z=>absurd (Value.type.inj z) (by decide))
  have nea:e≠a:=zdn he ga (by rw [ca];exact fun z=>absurd (Value.type.inj z) (by decide))
  have hl:=rv.length
  have W:=WalksT.enumerateD (prog:=X.prog) (w:=X.w) (A:=X.A) (WE.draws_tuple (pg:=X.prog) (wd:=X.w) (A:=X.A.in1) (I.ok.hd hc) it a nai its.toArray) e nei (by simp [nei,nea]) (by simp)
  have en:its.toArray.size=i:=by simp;omega
  refine W.done s _ E (by rw [en];exact ⟨⟨old,he⟩,hi,p⟩) fun h2 tk kp=>⟨rfl,I.turnedL (t':=tk) hf kp⟩
 self:=fun _ _ _ _ _ st q=>by
  obtain ⟨⟨old,he⟩,_⟩:=st
  exact wpAny_pyIter_enum he q
def iEnT (K:PySem.W.Frag)(ta:TA):TI:=fun σ H R=>ta σ H fun vs H1=>∃a,vs=[.ref a]/\(∃xs,SqT K H1 a xs)/\R (Ite K a) H1
theorem ziQ {X:Cx}{a:Expr}{es:List Expr}{kk:Nat}{tp:Pos}{ta:TA}{p pos:Pos}(hg:Gl X "enumerate")(hm:X.mg "enumerate"=none)(ha:PA X [a] ta)(hs:starEach [a] X.env=[(false,eval a X.env)]:=by rfl) :
  PI X (.Tuple es kk tp) (.Call (.Name "enumerate" p) [a] [] pos) (iEnT X.K ta):=by
 intro pins s σ H R I h
 refine wpAny_Call_Name_kw (zdq I hg hm boot_enumerate ?_)
 refine PyProof.Rows.callWith_type1 (thn (ha pos pins s σ H _ I h) fun us s1 ⟨vs,H1,I1,r1,q1⟩=>?_) hs rfl
 obtain ⟨l,rfl,⟨xs,hq⟩,q⟩:=q1
 obtain ⟨u,rfl,ru⟩:=Vals.one r1
 cases (show u=Value.ref l from ru)
 obtain ⟨its,rv,pt,hz⟩:=I1.tuple hq
 refine WE.call_enumT (show s1.heap.IsTuple l its.toArray from pt) fun h1 he hi hsz kp=>?_
 refine wpAny_pyIter_enum he ?_
 refine ⟨_,[s1.heap.objs.size+1,s1.heap.objs.size],_,_,H1,rfl,I1.kept (t':=s1.toks) kp,zf8 l _ s1.heap.objs.size,⟨⟨_,he⟩,hi⟩,fun b hb=>?_,q⟩
 have hb2:s1.heap.objs.size<=b:=by
  rcases List.mem_cons.mp hb with z|z
  ·subst z
   exact Nat.le_succ _
  ·have z:b=s1.heap.objs.size:=by simpa using z
   subst z
   exact Nat.le_refl _
 exact I1.fpOk hb2 (I1.hok.fresh hb2)
abbrev No:Value->Shared->Prop:=fun _ _=>False
abbrev ifsOf (ifs:List Expr)(env:Env):Sem Bool:=forIn ifs true fun c r=>if r=true then do let ok <- isTrue c env (eval c env);pure (ForInStep.yield ok) else pure (ForInStep.yield r)
section
variable {pg:Program}{wd:World}{A:Around}{R:Result->Shared->Prop}{s:Shared}
theorem zeK {elt tg iter:Expr}{ifs:List Expr}{sc:Scope}{pos:Pos}{it acc:Value}{env:Env}(I:Nat->Shared->Prop)
  (turn:∀n s,I n s->wpAny (model pg wd) A (pyNext it) (fun r s1=>match r with
   |none=>R (.ok .next) s1
   |some v=>wpAny (model pg wd) A (letOwnedTupleGo tg it v) (fun _ s2=>wpAny (model pg wd) A (assign tg env v) (fun _ s3=>wpAny (model pg wd) A (ifsOf ifs env) (fun ok s4 =>
     if ok=true then wpAny (model pg wd) A (eval elt env) (fun x s5=>wpAny (model pg wd) A (call (.builtin "list.append") [acc,x]) (fun _ s6=>∃m,m<n/\I m s6) No s5) No s4
     else ∃m,m<n/\I m s4) No s3) No s2) No s1) No s)
  (n:Nat) (h:I n s):codeAny (model pg wd) A (.compLoop (.ListComp elt [⟨tg,iter,ifs,0⟩] sc pos) 0 it acc env) R s:=by
 refine codeAny_loop rfl I (fun n s hI=>?_) n h
 show wpAny _ A ((compTurn (.ListComp elt [⟨tg,iter,ifs,0⟩] sc pos) 0 it acc env).onRaise (fun x=>do noteFrame x env;theTreesLotGoes x)) _ _ s
 refine wpAny_noted ?_
 rw [compTurn_list]
 refine wpAny_bind (wpAny_standAt (wpAny_bind (wpAny_mono (turn n s hI) (fun r s1 h1=>?_) fun _ _ f=>f.elim)))
 cases r with
 |none=>exact wpAny_pure h1
 |some v =>
  refine wpAny_bind (wpAny_mono h1 (fun _ s2 h2=>wpAny_bind (wpAny_mono h2 (fun _ s3 h3=>wpAny_bind (wpAny_mono h3 (fun ok s4 h4=>?_) fun _ _ f=>f.elim)) fun _ _ f=>f.elim)) fun _ _ f=>f.elim)
  cases ok with
  |false=>exact wpAny_pure ⟨rfl,h4⟩
  |true=>exact wpAny_bind (wpAny_bind (wpAny_mono h4 (fun x s5 h5=>wpAny_bind (wpAny_mono h5 (fun _ s6 h6=>wpAny_pure (wpAny_pure ⟨rfl,h6⟩)) fun _ _ f=>f.elim)) fun _ _ f=>f.elim))
end
def clStep (env:Env)(r:List (Str×Addr))(x:Str×NameKind):List (Str×Addr):=if x.2=.free then (x.1,(env.cells.lookup x.1).getD 0)::r else r
def clOf (sc:Scope)(env:Env):List (Str×Addr):=sc.names.foldl (clStep env) []
theorem zfX {α β:Type}{l:List α}{f:α->β->Sem (ForInStep β)}{g:β->α->β}(h:∀x∈l,∀c,f x c=pure (.yield (g c x))):∀c:β,forIn l c f=pure (l.foldl g c):=by
 induction l with
 |nil=>exact fun _=>rfl
 |cons x l ih =>
  intro c
  rw [List.forIn_cons,h x List.mem_cons_self,pure_bind,List.foldl_cons]
  exact ih (fun y hy=>h y (List.mem_cons_of_mem _ hy)) (g c x)
theorem zat {sc:Scope}{env:Env}(hf:∀y∈sc.names,y.2=.free->∃c,env.cells.lookup y.1=some c):closureFor sc env=pure (clOf sc env):=by
 simp only [closureFor]
 rw [zfX (g:=clStep env) (fun x hx c=>?_)]
 ·rfl
 ·obtain ⟨n,k⟩:=x
  by_cases hk:k=.free
  ·subst hk
   obtain ⟨a,ha⟩:=hf _ hx rfl
   have ha':env.cells.lookup n=some a:=ha
   simp [clStep,cellOf,ha']
  ·have hb:(k == NameKind.free)=false:=by simpa using hk
   simp [clStep,hk,hb]
theorem zbL {env:Env}:∀(l:List (Str×NameKind)) (r:List (Str×Addr)),(∀y∈l,y.2=.free->∃c,env.cells.lookup y.1=some c)->(∀x c,r.lookup x=some c->env.cells.lookup x=some c) ->
  ∀x c,(l.foldl (clStep env) r).lookup x=some c->env.cells.lookup x=some c
 | [],r,_,h=>h
 |y::l,r,hf,h=>by
  refine zbL l (clStep env r y) (fun z hz=>hf z (List.mem_cons_of_mem _ hz)) fun x c e=>?_
  unfold clStep at e
  by_cases hk:y.2=.free
  ·obtain ⟨a,ha⟩:=hf y List.mem_cons_self hk
   rw [if_pos hk,List.lookup_cons] at e
   cases hx:x == y.1 with
   |true =>
    rw [hx,ha] at e
    rw [eq_of_beq hx,ha]
    exact e
   |false =>
    rw [hx] at e
    exact h x c e
  ·rw [if_neg hk] at e
   exact h x c e
theorem zcx {env:Env}{x:Str}:∀(l:List (Str×NameKind)) (r:List (Str×Addr)),(∃c,r.lookup x=some c)->∃c,(l.foldl (clStep env) r).lookup x=some c
 | [],r,h=>h
 |y::l,r,h=>by
  refine zcx l (clStep env r y) ?_
  unfold clStep
  by_cases hk:y.2=.free
  ·rw [if_pos hk,List.lookup_cons]
   cases hx:x == y.1 with
   |true=>exact ⟨_,rfl⟩
   |false=>exact h
  ·rw [if_neg hk]
   exact h
theorem zaz {env:Env}:∀(l:List (Str×NameKind)) (r:List (Str×Addr)),∀y∈l,y.2=.free->∃c,(l.foldl (clStep env) r).lookup y.1=some c
 | [],_,y,hy,_=>nomatch hy
 |z::l,r,y,hy,hk=>by
  rcases List.mem_cons.mp hy with e|e
  ·subst e
   refine zcx l (clStep env r y) ?_
   unfold clStep
   rw [if_pos hk,List.lookup_cons,beq_self_eq_true]
   exact ⟨_,rfl⟩
  ·exact zaz l (clStep env r z) y e hk
theorem mem_of_lookup {β:Type}{x:Str}{k:β}:∀{l:List (Str×β)},l.lookup x=some k->(x,k)∈l
 | [],h=>nomatch h
 |y::l,h=>by
  rw [List.lookup_cons] at h
  cases hx:x == y.1 with
  |true =>
   rw [hx] at h
   cases h
   rw [eq_of_beq hx]
   exact List.mem_cons_self
  |false =>
   rw [hx] at h
   exact List.mem_cons_of_mem _ (mem_of_lookup h)
def relK (env:Env)(x:Str)(k:NameKind):NameKind:=if (k == .free && env.scope.kind == .function && env.kindOf x == some .cell)=true then .cell else k
theorem zaD {sc:Scope}{env:Env}(x:Str):(relabel sc env).names.lookup x=(sc.names.lookup x).map (relK env x):=by
 unfold relabel
 show (sc.names.map fun (n,k)=>if (k == NameKind.free && env.scope.kind == .function && env.kindOf n == some .cell) then (n,NameKind.cell) else (n,k)).lookup x=_
 induction sc.names with
 |nil=>rfl
 |cons y l ih =>
  obtain ⟨n,k⟩:=y
  rw [List.map_cons]
  show List.lookup x ((if (k == NameKind.free && env.scope.kind == .function && env.kindOf n == some .cell)=true then (n,NameKind.cell) else (n,k))::_)=_
  cases hx:x == n with
  |true =>
   have e:=eq_of_beq hx
   subst e
   by_cases hc:(k == NameKind.free && env.scope.kind == .function && env.kindOf x == some .cell)=true
   ·rw [if_pos hc,List.lookup_cons,beq_self_eq_true]
    simp [relK,hc]
   ·rw [if_neg hc,List.lookup_cons,beq_self_eq_true]
    simp [relK,hc]
  |false =>
   by_cases hc:(k == NameKind.free && env.scope.kind == .function && env.kindOf n == some .cell)=true
   ·rw [if_pos hc]
    simp only [List.lookup_cons,hx]
    exact ih
   ·rw [if_neg hc]
    simp only [List.lookup_cons,hx]
    exact ih
structure CI where
 C:Addr
 s:Shared
 H:Hp
 fp:List Addr
def cxC (X:Cx)(sc:Scope)(NC:List Str)(j:CI):Cx where
 prog:=X.prog
 w:=X.w
 K:=X.K
 mg:=X.mg
 base:=X.base
 A:=X.A
 N:=NC
 s₀:=j.s
 H₀:=j.H
 env:=compEnvC sc (clOf sc X.env) j.C X.env
 outer:=X.stack
 stack:=X.stack
 ex:=j.fp
 fn:=fun _=>false
 calm:=X.calm
 pn:=[]
 xe:=No
def inn (slots:List (Option Nat))(σ:St):St:=slots.map fun o=>o.bind fun j=>(σ[j]?).join
structure CompOk (X:Cx)(sc:Scope)(NC:List Str)(slots:List (Option Nat)):Prop where
 kind:sc.kind=.function
 names:∀y∈sc.names,y.2=.local->sc.names.lookup y.1=some .local
 nocell:∀y∈sc.names,y.2 ≠ .cell
 free:∀y∈sc.names,y.2=.free->X.env.scope.names.lookup y.1=some .cell
 slot:∀(i:Nat) (x:Str) (j:Nat),NC[i]?=some x->slots[i]?=some (some j)->X.N[j]?=some x/\sc.names.lookup x=some .free
 len:slots.length=NC.length
theorem compOk {X:Cx}{sc:Scope}{NC:List Str}{slots:List (Option Nat)}(N:List Str)(so:Scope)(hN:X.N=N)(hs:X.env.scope=so)(kind:sc.kind=.function)
  (names:∀y∈sc.names,y.2=.local->sc.names.lookup y.1=some .local) (nocell:∀y∈sc.names,y.2 ≠ .cell) (free:∀y∈sc.names,y.2=.free->so.names.lookup y.1=some .cell)
  (slot:∀p∈NC.zip slots,(p.2.all fun j=>decide (N[j]?=some p.1/\sc.names.lookup p.1=some .free))=true) (len:slots.length=NC.length):CompOk X sc NC slots:=by
 subst hN hs
 refine ⟨kind,names,nocell,free,fun i x j e1 e2=>?_,len⟩
 have hm:(x,some j)∈NC.zip slots:=List.mem_of_getElem? (i:=i) (by rw [List.getElem?_zip_eq_some];exact ⟨e1,e2⟩)
 have:=slot _ hm
 simpa using this
section
variable {X:Cx}{sc:Scope}{NC:List Str}{slots:List (Option Nat)}{pins:List (Addr×Obj)}{σ:St}{H:Hp}{s:Shared}
theorem CompOk.cells (O:CompOk X sc NC slots)(ok:X.Ok):∀y∈sc.names,y.2=.free->∃c,X.env.cells.lookup y.1=some c:=fun y hy hk=>ok.has y.1 (.inl (O.free y hy hk))
theorem CompOk.sub (O:CompOk X sc NC slots)(ok:X.Ok):∀x c,(clOf sc X.env).lookup x=some c->X.env.cells.lookup x=some c:=zbL sc.names [] (O.cells ok) fun _ _ e=>nomatch e
theorem CompOk.rel (O:CompOk X sc NC slots)(ok:X.Ok){x:Str}(h:sc.names.lookup x=some .free):(relabel sc X.env).names.lookup x=some .cell:=by
 rw [zaD,h]
 have e:X.env.kindOf x=some .cell:=O.free _ (mem_of_lookup h) rfl
 simp [relK,ok.kind,e]
theorem zdm (I:Inv X pins σ H s)(O:CompOk X sc NC slots){fp:List Addr}(hf:∀b∈fp,FpOk X pins H b)(hob:∀b∈fp,∃o,s.heap.get? b=some o){h1:Heap}{t':Nat}{m:Str->Option Value}(hns:h1.Ns s.heap.objs.size m)
  (hk:∀b o,s.heap.get? b=some o->h1.get? b=some o):Inv (cxC X sc NC ⟨s.heap.objs.size,s,H,fp⟩) [] (inn slots σ) H { s with heap:=h1,toks:=t' }:=by
 have sub:=O.sub I.ok
 have fss:∀b,b≠X.env.locals->b∉X.fs->b∉frs X.stack:=fun b h1 h2 hb=>(List.mem_cons.mp (I.stkSub b hb)).elim h1 h2
 have ltC:∀x c,(clOf sc X.env).lookup x=some c->c<s.heap.objs.size:=fun x c e=>by
  obtain ⟨v,q⟩:=I.cell x c (sub x c e)
  exact q.lt
 refine ⟨⟨I.ok.mod,O.kind,I.ok.glob,I.ok.blt,Nat.le_refl _,fun x y c e1 e2=>I.ok.inj x y c (sub x c e1) (sub y c e2),fun x hx=>?_,fun _ _ z=>(nomatch z),I.ok.hd,I.ok.frames,.inl rfl,fun b hb=>⟨?_,fun x c e=>(hf b hb).2.2.2.2.1 x c (sub x c e)⟩,I.bs,Nat.le_trans I.ok.bsz I.sz,fun b o e hb=>?_,fun b hb=>fss b (hf b hb).2.1 (hf b hb).2.2.1,I.stack,I.stkFree⟩,
  rfl,I.bare,Un.kept hk,⟨m,hns,fun i x v e1 e2 e3=>?_⟩,fun x c e=>?_,I.hok.fresh (Nat.le_refl _),fun x c e=>I.freeC x c (sub x c e),fun p hp=>(nomatch hp),I.hok.kept hk,?_⟩
 ·have hx':(relabel sc X.env).names.lookup x=some .cell \/ (relabel sc X.env).names.lookup x=some .free:=hx
  rw [zaD] at hx'
  cases q:sc.names.lookup x with
  |none =>
   rw [q] at hx'
   rcases hx' with z|z <;> cases z
  |some k =>
   have hm:=mem_of_lookup q
   have hkf:k=.free:=by
    rw [q] at hx'
    have nc:=O.nocell _ hm
    by_cases hk:k=.free
    ·exact hk
    ·exfalso
     have hb:(k == NameKind.free)=false:=by simpa using hk
     rcases hx' with z|z
     ·simp [relK,hb] at z
      exact nc z
     ·simp [relK,hb] at z
      exact hk z
   subst hkf
   exact zaz sc.names [] _ hm rfl
 ·obtain ⟨o,e⟩:=hob b hb
  exact Nat.ne_of_lt (Heap.lt_size e)
 ·rcases (hf b hb).2.2.2.1 with z|z
  ·exact I.ok.noex b o e z
  ·exact absurd (Nat.lt_of_lt_of_le (Heap.lt_size e) (Nat.le_trans I.ok.bsz z)) (Nat.lt_irrefl _)
 ·obtain ⟨j,e4,e5⟩:∃j,slots[i]?=some (some j)/\σ[j]?=some (some v):=by
   have e2':(slots.map fun o=>o.bind fun j=>(σ[j]?).join)[i]?=some (some v):=e2
   rw [List.getElem?_map] at e2'
   cases q:slots[i]? with
   |none =>
    rw [q] at e2'
    cases e2'
   |some o =>
    rw [q] at e2'
    cases o with
    |none=>cases e2'
    |some j =>
     refine ⟨j,rfl,?_⟩
     have e6:(σ[j]?).join=some v:=Option.some.inj e2'
     cases q2:σ[j]? with
     |none =>
      rw [q2] at e6
      cases e6
     |some w =>
      rw [q2] at e6
      have e7:w=some v:=e6
      rw [e7]
  obtain ⟨e6,e7⟩:=O.slot i x j e1 e4
  have kc:X.env.scope.names.lookup x=some .cell:=O.free _ (mem_of_lookup e7) rfl
  obtain ⟨m0,hn0,hl⟩:=I.loc
  obtain ⟨u,r,lk⟩:=hl j x v e6 e5 (.inr (.inl kc))
  refine ⟨u,r,.inr ⟨.inl (O.rel I.ok e7),?_⟩⟩
  rcases lk with ⟨z,_⟩|⟨_,c,hc,o,ho,hd⟩
  ·rw [show X.env.kindOf x=some .cell from kc] at z
   cases z
  ·obtain ⟨c',hc'⟩:=zaz (env:=X.env) sc.names [] _ (mem_of_lookup e7) rfl
   have e8:c'=c:=Option.some.inj ((sub x c' hc').symm.trans hc)
   subst e8
   exact ⟨c',hc',o,hk _ _ ho,hd⟩
 ·obtain ⟨v,o,ho,hd⟩:=I.cell x c (sub x c e)
  exact ⟨v,o,hk _ _ ho,hd⟩
 ·show (slots.map fun o=>o.bind fun j=>(σ[j]?).join).length=NC.length
  rw [List.length_map,O.len]
theorem zbR (I:Inv X pins σ H s){fp:List Addr}(hf:∀b∈fp,FpOk X pins H b){C:Addr}(hC:s.heap.objs.size<=C){pl:List (Addr×Obj)}{σ':St}{H':Hp}{s':Shared}(J:Inv (cxC X sc NC ⟨C,s,H,fp⟩) pl σ' H' s')
  {h2:Heap} (hb:Heap.SameBut C s'.heap h2):Inv X pins σ H' { s' with heap:=h2 }:=by
 have nC:∀b o,s.heap.get? b=some o->b≠C:=fun b o e=>Nat.ne_of_lt (Nat.lt_of_lt_of_le (Heap.lt_size e) hC)
 have B:Un (frs X.stack) fp H H' s.heap s'.heap:=J.base
 have fC:H' C=none:=J.free
 refine I.call' (ch:=fp) J.os ⟨fun b o e n h3 h4=>(hb.2 b (nC b o e)).trans (B.keep b o e n h3 h4),fun b o e n h3 h4=>?_,B.free,fun b o e h4=>?_,B.tups,B.frzs,B.tbls⟩ (fun b u e=>?_) J.bare fun b h3=>⟨(hf b h3).2.2.2.1,(hf b h3).2.1,(hf b h3).2.2.2.2.1,(hf b h3).2.2.2.2.2⟩
 ·obtain ⟨sl,q⟩:=B.slot b o e n h3 h4
  exact ⟨sl,(hb.2 b (nC b o e)).trans q⟩
 ·obtain ⟨o',q⟩:=B.there b o e h4
  exact ⟨o',(hb.2 b (nC b o e)).trans q⟩
 ·refine (J.hok b u e).stay (fun c v hc q=>(hb.2 c fun z=>?_).trans q) (fun _ q=>q) fun _ _ q=>q
  subst z
  rcases hc with z|z
  ·rw [z,e] at fC
   cases fC
  ·rw [z] at fC
   cases fC
end
def PTs (X:Cx)(ifs:List Expr)(t:TT):Prop :=
 ∀(pins:List (Addr×Obj)) (s:Shared) (σ:St) (H:Hp) (Q:Bool->Hp->Prop),Inv X pins σ H s->t σ H Q->wpAny (model X.prog X.w) X.A (ifsOf ifs X.env) (TP X pins σ Q) X.xe s
def tYes:TT:=fun _ H Q=>Q true H
theorem zha {X:Cx}:PTs X [] tYes:=fun _ _ _ H _ I h=>wpAny_tests_nil ⟨H,I,h⟩
def CompR (J:It)(D:Addr)(g:TG)(ti:TT)(te:TE)(W:Nat->Nat->St->List V->Hp->Prop)(Q:Hp->Prop):Prop :=
 ∀i m σc ys H2,W i m σc ys H2->H2 D=some (.lst ys)/\((J.stop i H2/\Q H2) \/ (J.go i H2/\ys.length<sizeLine/\∃N:St->List V->Hp->Prop,(∀σ' ys' H',N σ' ys' H'->∃m',m' < m/\W (i+1) m' σ' ys' H') /\
  ∀x H3,J.yld i H2 x H3->g x σc H3 fun σ4 H4=>ti σ4 H4 fun b H5=>if b=true then te σ4 H5 fun y H6=>H6 D=some (.lst ys)/\N σ4 (ys++[y]) (upd H6 D (.lst (ys++[y]))) else N σ4 ys H5))
def tComp (slots:List (Option Nat))(wi:TI)(g:TG)(ti:TT)(te:TE):TE:=fun σ H Q=>wi σ H fun J H1=>∀D,H1 D=none->∃W:Nat->Nat->St->List V->Hp->Prop,(∃m,W 0 m (inn slots σ) [] (upd H1 D (.lst [])))/\CompR J D g ti te W (Q (.ref D))
section
variable {X:Cx}{sc:Scope}{NC:List Str}{slots:List (Option Nat)}{elt tg iter:Expr}{ifs:List Expr}{pos:Pos}{g:TG}{ti:TT}{te:TE}
theorem zh7 (hc:X.calm=true)(hg:∀j,PG (cxC X sc NC j) tg g)(ht:∀j,PTs (cxC X sc NC j) ifs ti)(he:∀j,PE (cxC X sc NC j) elt te){cj:CI}{it D:Addr}{tn:Nat->Heap->Prop}{J:It}
  {W:Nat->Nat->St->List V->Hp->Prop} {Q:Hp->Prop} {R:Result->Shared->Prop} {s:Shared} {σc:St} {ys:List V} {H:Hp} (T:Turn X.prog X.w X.K tg J cj.fp it tn)
  (I:Inv (cxC X sc NC cj) [] σc H s) (hf:∀b∈cj.fp,FpOk (cxC X sc NC cj) [] H b) (st:tn 0 s.heap) {m:Nat} (w0:W 0 m σc ys H) (step:CompR J D g ti te W Q)
  (fin:∀σ' H' s',Inv (cxC X sc NC cj) [] σ' H' s'->Q H'->R (.ok .next) s') :
  codeAny (model X.prog X.w) X.A (.compLoop (.ListComp elt [⟨tg,iter,ifs,0⟩] sc pos) 0 (.ref it) (.ref D) (cxC X sc NC cj).env) R s:=by
 have stat:∀{H':Hp},(∀b∈cj.fp,H' b=none)->∀b∈cj.fp,FpOk (cxC X sc NC cj) [] H' b:=fun hn b hb=>⟨hn b hb,(hf b hb).2⟩
 refine zeK (fun n s'=>∃i σ' ys' H',Inv (cxC X sc NC cj) [] σ' H' s'/\tn i s'.heap/\(∀b∈cj.fp,H' b=none)/\W i n σ' ys' H') ?_ m ⟨0,σc,ys,H,I,st,fun b hb=>(hf b hb).1,w0⟩
 rintro n s3 ⟨i,σ3,ys3,H3,I3,st3,fr3,w3⟩
 obtain ⟨hD,q⟩:=step i n σ3 ys3 H3 w3
 rcases q with ⟨stop,qn⟩|⟨go,hz,N,hN,turn⟩
 ·refine thn (T.done (cxC X sc NC cj) rfl rfl rfl hc i [] s3 σ3 H3 No I3 (stat fr3) st3 stop) fun r s4 ⟨hr,I4⟩=>?_
  subst hr
  exact fin σ3 H3 s4 I4 qn
 ·refine thn (T.item (cxC X sc NC cj) rfl rfl rfl hc i [] s3 σ3 H3 No I3 (stat fr3) st3 go) fun r s4 ⟨u,hr,h4⟩=>?_
  subst hr
  refine thn h4 fun _ s5 ⟨x,H5,I5,r5,y5,st5,fr5⟩=>?_
  have I5':=I5.pinned (stat fr5) (T.obj _ _ st5)
  refine thn (hg cj _ s5 σ3 H5 x u _ I5' r5 (turn x H5 y5)) fun _ s6 ⟨σ6,H6,I6,q6⟩=>?_
  refine thn (ht cj _ s6 σ6 H6 _ I6 q6) fun ok s7 ⟨H7,I7,q7⟩=>?_
  have again:∀{σ8:St} {ys8:List V} {H8:Hp} {s8:Shared},Inv (cxC X sc NC cj) ([]++pinsAt cj.fp s5.heap) σ8 H8 s8->N σ8 ys8 H8->∃m,m<n/\∃i σ' ys' H',Inv (cxC X sc NC cj) [] σ' H' s8/\tn i s8.heap/\(∀b∈cj.fp,H' b=none)/\W i m σ' ys' H':=fun {σ8 ys8 H8 s8} I8 n8=>by
   obtain ⟨m',hm,w8⟩:=hN σ8 ys8 H8 n8
   refine ⟨m',hm,i+1,σ8,ys8,H8,I8.unpinned,T.keep _ _ _ st5 fun b hb o e=>(I8.pin (b,o) (List.mem_append_right _ (List.mem_append_right _ (z0 hb e)))).1,fun b hb=>?_,w8⟩
   obtain ⟨o,e,d⟩:=T.obj _ _ st5 b hb
   exact (I8.pin (b,o) (List.mem_append_right _ (List.mem_append_right _ (z0 hb e)))).2.1
  cases ok with
  |false =>
   rw [if_neg Bool.false_ne_true] at q7 ⊢
   exact again I7 q7
  |true =>
   rw [if_pos rfl] at q7 ⊢
   refine thn (he cj _ s7 σ6 H7 _ I7 q7) fun y s8 ⟨v,H8,I8,r8,hD8,q8⟩=>?_
   refine thn (zbJ (X:=cxC X sc NC cj) _ s8 σ6 H8 (.ref D) [v] (.ref D) [y] (fun z H'=>z=.non/\H'=upd H8 D (.lst (ys3++[v]))) I8 rfl (.cons r8 .nil) ⟨D,ys3,v,rfl,rfl,hD8,hz,rfl,rfl⟩) fun z s9 ⟨zv,H9,I9,r9,e1,e2⟩=>?_
   subst e2
   exact again I9 q8
theorem zgb (hc:X.calm=true)(O:CompOk X sc NC slots)(hg:∀j,PG (cxC X sc NC j) tg g)(ht:∀j,PTs (cxC X sc NC j) ifs ti)(he:∀j,PE (cxC X sc NC j) elt te){pins:List (Addr×Obj)}{s:Shared}{σ:St}{H:Hp}(I:Inv X pins σ H s)
  {it:Addr} {fp:List Addr} {tn:Nat->Heap->Prop} {J:It} (T:Turn X.prog X.w X.K tg J fp it tn) (st:tn 0 s.heap) (hf:∀b∈fp,FpOk X pins H b) {Q:VK}
  (h:∀D,H D=none->∃W:Nat->Nat->St->List V->Hp->Prop,(∃m,W 0 m (inn slots σ) [] (upd H D (.lst [])))/\CompR J D g ti te W (Q (.ref D))) {RR:Value->Addr->Result->Shared->Prop}
  (fin:∀D C s' H',Q (.ref D) H'->(∃o m,s'.heap.get? C=some o/\s'.heap.Ns C m/\∀v,o.data ≠ .cell v)->FpOk X pins H' C->(∀h2,Heap.SameBut C s'.heap h2->Inv X pins σ H' { s' with heap:=h2 })->RR (.ref D) C (.ok .next) s') :
  wpAny (model X.prog X.w) X.A (newList []) (fun acc s3=>wpAny (model X.prog X.w) X.A (newFunctionEnv sc X.env.globals (clOf sc X.env) [] X.env.qual none .none (some X.env)) (fun cenv s4 =>
   codeAny (model X.prog X.w) X.A (.compStart (.ListComp elt [⟨tg,iter,ifs,0⟩] sc pos) 0 (.ref it) acc { cenv with scope:=relabel sc X.env }) (RR acc cenv.locals) s4) X.xe s3) X.xe s:=by
 refine wpAny_newObj_type (wpAny_newFunctionEnv O.nocell (by intro y hy;simp at hy) (fun h1 hns1 hsb1=>?_) O.kind)
 dsimp only at hns1 hsb1 ⊢
 have hDn:H s.heap.objs.size=none:=I.hok.fresh (Nat.le_refl _)
 obtain ⟨W,⟨m,w0⟩,step⟩:=h s.heap.objs.size hDn
 obtain ⟨s3,hs3⟩:∃x:Shared,x=({ s with heap:=s.heap.push { cls:=.type "list",dict:=none,data:=.seq ([]:List Value).toArray } }:Shared):=⟨_,rfl⟩
 have e3:s3.heap=s.heap.push { cls:=.type "list",dict:=none,data:=.seq ([]:List Value).toArray }:=by rw [hs3]
 rw [<- e3] at hns1 hsb1
 have hp3:∀b o,s.heap.get? b=some o->s3.heap.get? b=some o:=fun b o e=>by
  rw [e3]
  exact Heap.get?_push_of_some _ e
 have I3:Inv X pins σ (upd H s.heap.objs.size (.lst [])) s3:=by
  have q:=I.laid (a:=s.heap.objs.size) (o:=.lst []) (h':=s3.heap) (t':=s.toks) hp3 (Nat.le_refl _) ⟨Nat.zero_le _,[],_,.nil,by rw [e3];exact Heap.get?_push_size _ rfl⟩
  rw [hs3] at q ⊢
  exact q
 have hf3:∀b∈fp,FpOk X pins (upd H s.heap.objs.size (.lst [])) b:=fun b hb=>by
  obtain ⟨o,e,_⟩:=T.obj _ _ st b hb
  refine ⟨?_,(hf b hb).2⟩
  rw [zn (Nat.ne_of_lt (Heap.lt_size e))]
  exact (hf b hb).1
 have st3:tn 0 s3.heap:=T.keep _ _ _ st fun b _ o e=>hp3 b o e
 have hob:∀b∈fp,∃o,s3.heap.get? b=some o:=fun b hb=>by
  obtain ⟨o,e,_⟩:=T.obj _ _ st3 b hb
  exact ⟨o,e⟩
 have hk1:∀b o,s3.heap.get? b=some o->h1.get? b=some o:=fun b o e=>hsb1.extBut b o (Nat.ne_of_lt (Heap.lt_size e)) (Heap.get?_push_of_some _ e)
 have J1:=zdm (t':=s3.toks+([]:List (Str×Value)).length) I3 O hf3 hob hns1 hk1
 have hfc:∀b∈fp,FpOk (cxC X sc NC ⟨s3.heap.objs.size,s3,upd H s.heap.objs.size (.lst []),fp⟩) [] (upd H s.heap.objs.size (.lst [])) b:=fun b hb =>
  ⟨(hf3 b hb).1,(J1.ok.exf b hb).1,J1.ok.exfs b hb,.inl hb,(J1.ok.exf b hb).2,fun p hp=>nomatch hp⟩
 have loop:codeAny (model X.prog X.w) X.A (.compLoop (.ListComp elt [⟨tg,iter,ifs,0⟩] sc pos) 0 (.ref it) (.ref s.heap.objs.size) (cxC X sc NC ⟨s3.heap.objs.size,s3,upd H s.heap.objs.size (.lst []),fp⟩).env) (RR (.ref s.heap.objs.size) s3.heap.objs.size)
   { s3 with heap:=h1,toks:=s3.toks+([]:List (Str×Value)).length }:=by
  refine zh7 (D:=s.heap.objs.size) (Q:=Q (.ref s.heap.objs.size)) hc hg ht he T J1 hfc (T.keep _ _ _ st3 fun b _ o e=>hk1 b o e) w0 step fun σ' H' s' J' q'=>?_
  have fC:H' s3.heap.objs.size=none:=J'.free
  refine fin _ _ s' H' q' ?_ (I3.fpOk (Nat.le_refl _) fC) fun h2 hb=>zbR I3 hf3 (Nat.le_refl _) J' hb
  obtain ⟨m',hn',_⟩:=J'.loc
  obtain ⟨o,es,ep,ho,hd,r⟩:=id hn'
  exact ⟨o,m',ho,hn',fun v z=>by rw [hd] at z;cases z⟩
 have self:=fun (RQ:Value->Shared->Prop) (EE:Value->Shared->Prop)=>T.self X.A 0 { s3 with heap:=h1,toks:=s3.toks+([]:List (Str×Value)).length } RQ EE (T.keep _ _ _ st3 fun b _ o e=>hk1 b o e)
 subst hs3
 exact codeAny_compStart_list loop (self _ _ loop)
variable {wi:TI}
theorem zj5 (hc:X.calm=true)(O:CompOk X sc NC slots)(hi:PI X tg iter wi)(hg:∀j,PG (cxC X sc NC j) tg g)(ht:∀j,PTs (cxC X sc NC j) ifs ti)(he:∀j,PE (cxC X sc NC j) elt te)
  (hs:∀x,foldedSetIterable iter X.env x=pure x:=by intro _;rfl):PE X (.ListComp elt [⟨tg,iter,ifs,0⟩] sc pos) (tComp slots wi g ti te):=by
 intro pins s σ H Q I h
 rw [eval_ListComp]
 refine wpAny_comprehension_free (use:=none) rfl hs (zat (O.cells I.ok)) O.kind O.names (thn (hi pins s σ H _ I h) fun v s1 h1=>thn h1 fun itv s2 h2=>?_)
 obtain ⟨it,fp,tn,J,H2,rfl,I2,T,st2,f2,q2⟩:=h2
 refine zgb hc O hg ht he I2 T st2 f2 q2 fun D C s' H' q' ⟨o,m,ho,hn,_⟩ _ out=>⟨m,hn,fun h2 hb=>⟨.ref D,H',out h2 hb,rfl,q'⟩⟩
end
theorem zed:∀{bs:List Bool} {us:List Value},Vals (bs.map V.bl) us->LSm.BoolsAre us bs
 | [],_,.nil=>.nil
 |b::bs,_,.cons r q=>by
  cases (show _=Value.bool b from r)
  exact .cons b (zed q)
section
variable {X:Cx}
def rAll (K:PySem.W.Frag):List V->Hp->VK->Prop:=fun xs H Q=>∃(l:Addr) (bs:List Bool),xs=[.ref l]/\SqL K H l (bs.map V.bl)/\Q (.bl (bs.all id)) H
theorem ziu (hc:X.calm=true):CallR X (.builtin "all") (rAll X.K):=by
 intro pins s σ H xs us Q I r h
 obtain ⟨l,bs,rfl,hq,q⟩:=h
 obtain ⟨u,rfl,ru⟩:=Vals.one r
 cases (show u=Value.ref l from ru)
 obtain ⟨its,rv,pl,hz⟩:=I.list hq
 have hb:=zed rv
 have hl:=pl.isList
 have hlt:l<s.heap.objs.size:=by
  obtain ⟨_,e,_⟩:=hl
  exact Heap.lt_size e
 refine call_all_walk (wpAny_pyIter_list hl ?_)
 refine ⟨s.heap.objs.size,[s.heap.objs.size,l],[s.heap.objs.size],its.toArray.size,_,_,fun i=>(bs[i]?).getD true,rfl,Walks.list (A:=X.A.in1) (I.ok.hd hc) _ l (Nat.ne_of_lt hlt) its.toArray,⟨⟨_,Heap.get?_push_size _ rfl,rfl,rfl⟩,hl.push _⟩,fun i v s' Q' E' hP hQ=>?_,fun h' tk hk=>?_⟩
 ·obtain ⟨b,e,rfl⟩:=hb.get i v (by simpa using hP)
  simp only [e,Option.getD_some] at hQ
  exact wpAny_truthy_bool hQ
 ·have e:((List.range its.toArray.size).all fun i=>(bs[i]?).getD true)=bs.all id:=by
   rw [List.size_toArray,hb.length]
   exact LSm.range_all bs
  rw [e]
  exact ⟨.bl _,H,I.kept (t':=tk) (LSm.kept_iter hk),rfl,q⟩
end
section
variable {X:Cx}{pins:List (Addr×Obj)}{σ:St}{H:Hp}{s:Shared}
end
section
variable {X:Cx}{a:Expr}{ta:TE}{K:PySem.W.Frag}
end
end L2
namespace L2
end L2
namespace L2
open PySem PySem.Spec PyProof.Rows
section
variable {X:Cx}
end
end L2
namespace WE
open PySem PySem.Spec PyProof.Rows
section
variable {pg:Program}{wd:World}{A:Around}{Er:Value->Shared->Prop}{s:Shared}
end
end WE
namespace L2
open PySem PySem.Spec PyProof.Rows
section
variable {X:Cx}
theorem zig {i:Int}(i0:0<=i)(i1:i<=sizeLine):(!Builtin.List.listFitsIndex i)=false:=by
 unfold Builtin.List.listFitsIndex
 have:sizeLine<=9000000000000000000:=by decide
 simp
 omega
def rInsert:V->List V->Hp->VK->Prop:=fun x vs H Q=>∃l i xs y,x=.ref l/\vs=[.int i,y]/\H l=some (.lst xs)/\0<=i/\i<=xs.length/\xs.length<sizeLine/\Q .non (upd H l (.lst (xs.take i.toNat++y::xs.drop i.toNat)))
theorem zh1:MtM X "list.insert" rInsert:=by
 intro pins s σ H x vs v us Q I rx rv h
 obtain ⟨l,i,xs,y,rfl,rfl,hH,i0,i1,hz,q⟩:=h
 cases rx
 obtain ⟨u,w,rfl,ru,rw⟩:=rv.two
 obtain ⟨tk,rfl⟩:=ru
 obtain ⟨z,its,n,r,hl,e⟩:=I.lstM hH
 refine call_meets F.slot_list_insert ⟨_,e,rfl⟩ F.entry_list_insert (F.args_list_insert_3 _ _ _) (AutoSeq1.list_insert_list_int_val_1 l its.toArray n i tk w (by rw [zig i0 (by omega)];exact Bool.false_ne_true) (by rw [List.size_toArray];omega)) ⟨e,?_⟩
 refine ⟨.non,_,I.lset (its':=its.take i.toNat++w::its.drop i.toNat) hH e ?_ ((r.take i.toNat).append (.cons rw (r.drop i.toNat))) ?_,rfl,q⟩
 ·show (its.toArray.extract 0 (if i<0 then (i+(its.toArray.size:Int)).toNat else min i.toNat its.toArray.size)).push w++its.toArray.extract (if i<0 then (i+(its.toArray.size:Int)).toNat else min i.toNat its.toArray.size)=_
  rw [if_neg (by omega),List.size_toArray,Nat.min_eq_left (by omega)]
  apply Array.toList_inj.mp
  simp
  exact List.take_of_length_le (by simp)
 ·rw [List.length_append,List.length_cons,List.length_take,List.length_drop]
  omega
end
end L2
namespace WE
open PySem PySem.Spec PyProof.Rows
section
variable {prog:Program}{w:World}{A:Around}{E:Value->Shared->Prop}{s:Shared}
theorem zcb:isSubtype (.type "range_iterator") (.type "reversed")=pure false:=by rw [isSubtype_type];kernel_rfl
abbrev rgI (n:Int):Obj:={ cls:=.type "range_iterator",data:=.fields #[rawInt (n - 1),rawInt n,rawInt (-1)] }
theorem zcZ {r:Addr}{n:Int}{t u v:Tok}{Q:Value->Shared->Prop}(hr:IsRange s.heap r 0 n 1 t u v)(h0:0<=n)(h1:n<1000000000)
  (h:Q (.ref s.heap.objs.size) { s with heap:=s.heap.push (rgI n) }):wpAny (model prog w) A (call (.builtin "range.__reversed__") [.ref r]) Q E s:=by
 have hT:s.TypeIs (.ref r) "range":=⟨_,hr,rfl⟩
 refine wpAny_call_entry F.slot_range_reversed hT F.entry_range_reversed ?_ (F.args_range_reversed_1 _)
 unfold Builtin.«range.__reversed__»
 refine wpAny_bind (wpAny_of_eq (a:=Value.ref r) rfl ?_)
 refine wpAny_bind ?_
 unfold Builtin.Range.rangeFields
 refine wpAny_bind (wpAny_field hr rfl (x:=.int 0 t) rfl ?_)
 refine wpAny_bind (wpAny_of_eq (a:=some (0:Int)) rfl ?_)
 refine wpAny_bind (wpAny_field hr rfl (x:=.int n u) rfl ?_)
 refine wpAny_bind (wpAny_of_eq (a:=some n) rfl ?_)
 refine wpAny_bind (wpAny_field hr rfl (x:=.int 1 v) rfl ?_)
 refine wpAny_bind (wpAny_of_eq (a:=some (1:Int)) rfl ?_)
 refine wpAny_pure ?_
 have e:Builtin.Range.rangeSize 0 n 1=n:=by rw [rangeSize_one];split <;> omega
 try dsimp only
 rw [e]
 have c:(Builtin.Range.rangeFitsLong 0 && Builtin.Range.rangeFitsLong n && Builtin.Range.rangeFitsLong 1 && Builtin.Range.rangeFitsLong (-1) && Builtin.Range.rangeFitsLong (0 - 1) && Builtin.Range.rangeFitsLong n)=true:=by
  simp only [Builtin.Range.rangeFitsLong,Bool.and_eq_true,decide_eq_true_eq]
  omega
 rw [c]
 simp only [Bool.not_true,Bool.false_eq_true,if_false,if_true]
 refine wpAny_bind (wpAny_newObj_type (wpAny_pure ⟨_,rfl,?_⟩))
 have e2:(0:Int)+(n - 1)*1=n - 1:=by omega
 rw [e2]
 exact h
theorem zc3 {r:Addr}{n:Int}{t u v:Tok}{Q₁:Value->Shared->Prop}(hr:IsRange s.heap r 0 n 1 t u v)(h0:0<=n)(h1:n<1000000000)(h:Q₁ (.ref s.heap.objs.size) { s with heap:=s.heap.push (rgI n) }) :
  codeAny (model prog w) A (.call (.builtin "reversed.__new__") ⟨[.type "reversed",.ref r],[]⟩) (wants Q₁ E) s:=by
 have hT:s.TypeIs (.ref r) "range":=⟨_,hr,rfl⟩
 refine codeAny_of_tree ?_
 show wpAny _ A.in1 (do checkBuiltinCall "reversed.__new__" ⟨[.type "reversed",.ref r],[]⟩;again (.builtin "reversed.__new__" ⟨[.type "reversed",.ref r],[]⟩)) _ _ s
 refine wpAny_bind (wpAny_of_eq (F.newCall_reversed_1 _) (wpAny_pure ⟨plainId_quiet F.plain_reversed_new _,codeAny_builtin F.entry_reversed_new ?_⟩))
 rw [Around.under_plainId F.plain_reversed_new _]
 unfold Builtin.«reversed.__new__»
 refine wpAny_bind (wpAny_of_eq (newClass_reversed _) ?_)
 try dsimp only
 refine wpAny_bind (wpAny_of_eq (a:=()) (by first|rfl|kernel_rfl) ?_)
 refine wpAny_bind (wpAny_of_eq (a:=()) (by first|rfl|kernel_rfl) ?_)
 try dsimp only
 refine wpAny_bind (wpAny_specialOf hT F.slot_range_reversed.lookup ?_)
 try dsimp only
 refine wpAny_bind (wpAny_of_eq (F.slot_range_reversed.bind _) ?_)
 try dsimp only
 show wpAny _ _ (if (Value.builtin "range.__reversed__" == Value.none)=true then _ else _) _ _ _
 rw [if_neg (show ¬((Value.builtin "range.__reversed__" == Value.none)=true) from Bool.false_ne_true)]
 refine wpAny_bind (wpAny_rule ?_)
 refine wpAny_bind (m:=runValue (.call (.builtin "range.__reversed__") ⟨[.ref r],[]⟩)) (show wpAny _ _ (call (.builtin "range.__reversed__") [.ref r]) _ _ _ from zcZ hr h0 h1 ?_)
 first
 | exact wpAny_pure h
 | exact wpAny_bind (wpAny_pure (wpAny_pure h))
theorem zh2 {r:Addr}{n:Int}{t u v:Tok}{Q:Value->Shared->Prop}(hr:IsRange s.heap r 0 n 1 t u v)(h0:0<=n)(h1:n<1000000000)
  (h:Q (.ref s.heap.objs.size) { s with heap:=s.heap.push (rgI n) }):wpAny (model prog w) A (call (.type "reversed") [.ref r]) Q E s:=by
 refine callType_other (U:="range_iterator") (Q₁:=fun obj s₁=>obj=.ref s.heap.objs.size/\s₁={ s with heap:=s.heap.push (rgI n) }) (by decide +kernel) F.create_reversed ⟨_,_,F.mro_reversed⟩ F.made_reversed zcb (F.typeCall_reversed_1 _) (zc3 hr h0 h1 ⟨rfl,rfl⟩) ?_
 rintro obj s₁ ⟨rfl,rfl⟩
 exact ⟨⟨_,Heap.get?_push_size _ rfl,rfl⟩,h⟩
theorem zeq:isSubtype (.type "tuple") (.type "dict")=pure false:=by rw [isSubtype_type];kernel_rfl
theorem zcX:typeLookup (.type "tuple") "__reversed__"=pure none:=by rw [typeLookup_type,builtinLookup_eq_fast];kernel_rfl
abbrev rvT (t:Addr)(i:Int):Obj:={ cls:=.type "reversed",data:=.fields #[.ref t,rawInt i] }
def IsRvT (h:Heap)(a t:Addr)(i:Int):Prop:=∃o,h.get? a=some o/\o.cls=.type "reversed"/\o.data=.fields #[.ref t,rawInt i]
theorem zei:Slot "reversed" "__init__" "object.__init__" :=
 .of (owner:="object") (n:="__init__") (by rw [typeLookup_type,builtinLookup_eq_fast];kernel_rfl) (by decide +kernel) (by decide +kernel) (by decide +kernel)
  (by first|exact .inl (by decide +kernel)|exact .inr (by decide +kernel)) (by rw [isSubtype_type];kernel_rfl)
theorem zgn:TypeCalled "reversed" "reversed.__new__" "object.__init__" :=
 ⟨by decide +kernel,by decide +kernel,⟨_,_,F.mro_reversed⟩,F.made_reversed,by decide +kernel,F.sub_reversed_self,zei⟩
theorem zga (t:Addr)(items:Array Value)(hz:items.size<=sizeLine) :
  Meets (Builtin.«reversed.__new__» ⟨[.type "reversed",.ref t],[]⟩) (fun _ R s=>IsTup s.heap t items/\∀tk,R (.ok (.ret (.ref s.heap.objs.size))) { s with heap:=s.heap.push (rvT t ((items.size:Int) - 1)),toks:=tk }) :=
 .of_wp fun prog w A R s h=>by
  obtain ⟨ht,h⟩:=h
  have hT:s.TypeIs (.ref t) "tuple":=ht.typeIs
  unfold Builtin.«reversed.__new__»
  refine wpAny_bind (wpAny_of_eq (newClass_reversed _) ?_)
  try dsimp only
  refine wpAny_bind (wpAny_of_eq (a:=()) (by first|rfl|kernel_rfl) ?_)
  refine wpAny_bind (wpAny_of_eq (a:=()) (by first|rfl|kernel_rfl) ?_)
  try dsimp only
  refine wpAny_bind (wpAny_specialOf hT zcX ?_)
  try dsimp only
  refine wpAny_bind ?_
  show wpAny _ _ (isInstance (.ref t) (.type "dict") >>= _) _ _ _
  refine wpAny_bind (wpAny_isInstance (T:="tuple") (U:="dict") (b:=false) hT zeq ?_)
  show wpAny _ _ (specialOf (.ref t) "__getitem__" >>= _) _ _ _
  refine wpAny_bind (wpAny_specialOf hT F.slot_tuple_getitem.lookup ?_)
  show wpAny _ _ (if (["tuple.__getitem__","str.__getitem__","bytes.__getitem__","bytearray.__getitem__","memoryview.__getitem__","numpy.ndarray.__getitem__","sqlite3.Row.__getitem__"].contains "tuple.__getitem__")=true then _ else _) _ _ _
  rw [if_pos (by decide)]
  refine wpAny_pure ?_
  simp only [Bool.not_true,Bool.false_eq_true,if_false]
  refine wpAny_bind (PyProof.Rows.len_tuple ht (by simp only [sizeLine_eq] at hz;omega) ?_)
  refine wpAny_bind (wpAny_of_eq (a:=some (items.size:Int)) rfl ?_)
  try dsimp only
  refine wpAny_bind ?_
  unfold Builtin.SmallTypes.newRecord
  exact wpAny_newObj_type (wpAny_pure ⟨_,rfl,h _⟩)
theorem call_rev_tuple {t:Addr}{items:Array Value}{Q:Value->Shared->Prop}(ht:IsTup s.heap t items)(hz:items.size<=sizeLine)
  (h:∀tk,Q (.ref s.heap.objs.size) { s with heap:=s.heap.push (rvT t ((items.size:Int) - 1)),toks:=tk }):wpAny (model prog w) A (call (.type "reversed") [.ref t]) Q E s :=
 callType_new zgn (by decide) (F.typeCall_reversed_1 _) (F.newCall_reversed_1 _) (fun obj=>F.initArgs_range_1 obj _) F.entry_reversed_new (zga t items hz) ⟨ht,fun tk=>⟨⟨_,Heap.get?_push_size _ rfl,rfl⟩,h tk⟩⟩
theorem IsRvT.typeIs {a t:Addr}{i:Int}(x:IsRvT s.heap a t i):s.TypeIs (.ref a) "reversed":=let ⟨o,ho,hc,_⟩:=x;⟨o,ho,hc⟩
theorem slot_rv_next:Slot "reversed" "__next__" "reversed.__next__" :=
 .of (owner:="reversed") (n:="__next__") (by rw [typeLookup_type,builtinLookup_eq_fast];kernel_rfl) (by decide +kernel) (by decide +kernel) (by decide +kernel)
  (by first|exact .inl (by decide +kernel)|exact .inr (by decide +kernel)) (by rw [isSubtype_type];kernel_rfl)
theorem zbw:entryFor table "reversed.__next__"=some Builtin.«reversed.__next__»:=entryFor_of_tree (by kernel_rfl)
theorem zb5 (a:Value):argsOk "reversed.__next__" ⟨[a],[]⟩:=by unfold argsOk;kernel_rfl
theorem zb7:Slot "reversed" "__iter__" "reversed.__iter__" :=
 .of (owner:="reversed") (n:="__iter__") (by rw [typeLookup_type,builtinLookup_eq_fast];kernel_rfl) (by decide +kernel) (by decide +kernel) (by decide +kernel)
  (by first|exact .inl (by decide +kernel)|exact .inr (by decide +kernel)) (by rw [isSubtype_type];kernel_rfl)
theorem zd2:entryFor table "reversed.__iter__"=some Builtin.«dict_keyiterator.__iter__» :=
 entryFor_alias (id':="dict_keyiterator.__iter__") (by kernel_rfl) rfl (by decide +kernel) (by kernel_rfl)
theorem zel (a:Value):argsOk "reversed.__iter__" ⟨[a],[]⟩:=by unfold argsOk;kernel_rfl
theorem rvT_item {it t:Addr}{i:Nat}{items:Array Value}{x:Value}{Q:Option Value->Shared->Prop}(hit:IsRvT s.heap it t (i:Int))(ht:IsTup s.heap t items)(hx:items[i]?=some x)(hz:items.size<=sizeLine)
  (hQ:∀h' tk,IsRvT h' it t ((i:Int) - 1)->Heap.SameBut it s.heap h'->Q (some x) { s with heap:=h',toks:=tk }):wpAny (model prog w) A (pyNext (.ref it)) Q E s:=by
 obtain ⟨o,ho,hc,hd⟩:=id hit
 have hT:s.TypeIs (.ref t) "tuple":=ht.typeIs
 unfold pyNext
 refine wpAny_bind (wpAny_attempt (wpAny_callSpecial?_slot (name:=Str.ofString "__next__") hit.typeIs slot_rv_next
  (wpAny_call_entry slot_rv_next hit.typeIs zbw ?_ (zb5 _))))
 unfold Builtin.«reversed.__next__»
 refine wpAny_bind (wpAny_of_eq (a:=(Value.ref it,[])) rfl ?_)
 try dsimp only
 refine wpAny_bind (wpAny_field ho hd (x:=.ref t) rfl ?_)
 refine wpAny_bind (wpAny_field ho hd (x:=rawInt (i:Int)) rfl ?_)
 show wpAny _ _ (if (i:Int)<0 then _ else _) _ _ s
 rw [if_neg (by omega)]
 refine wpAny_bind (wpAny_specialOf hT F.slot_tuple_getitem.lookup ?_)
 simp only [Option.isNone_some,Bool.false_eq_true,if_false]
 refine wpAny_bind (wpAny_mkInt ?_)
 have hi:i<items.size:=by
  rcases Nat.lt_or_ge i items.size with q|q
  ·exact q
  ·rw [Array.getElem?_eq_none q] at hx;cases hx
 have ht':IsTup ({ s with toks:=s.toks+1 }:Shared).heap t items:=ht
 refine wpAny_bind (wpAny_attempt (PyProof.Rows.getItem_tuple ht' (by omega) (by simp only [sizeLine_eq] at hz;omega) (j:=i) (by unfold seqIndex?;simp;omega) hx ?_))
 try dsimp only
 refine wpAny_bind (wpAny_field ho hd (x:=rawInt (i:Int)) rfl ?_)
 show wpAny _ _ (setField (.ref it) 1 (rawInt ((i:Int) - 1)) >>= _) _ _ _
 refine wpAny_bind (wpAny_setField ho hd (by simp) ?_)
 refine wpAny_pure ⟨x,rfl,wpAny_pure (hQ _ _ ?_ (Heap.SameBut.update ..))⟩
 exact ⟨_,Heap.get?_update_self _ ho (Obj.isFreed_of_fields (Obj.data_mapFields hd _)),(Obj.cls_mapFields ..).trans hc,by
  rw [Obj.data_mapFields hd];simp⟩
theorem rvT_end {it t:Addr}{Q:Option Value->Shared->Prop}(hh:A.handled=none)(hit:IsRvT s.heap it t (-1))
  (hQ:∀h',Heap.ExtBut it s.heap h'->Q none { s with heap:=h' }):wpAny (model prog w) A (pyNext (.ref it)) Q E s:=by
 obtain ⟨o,ho,hc,hd⟩:=id hit
 unfold pyNext
 refine wpAny_bind (wpAny_attempt (wpAny_callSpecial?_slot (name:=Str.ofString "__next__") hit.typeIs slot_rv_next
  (wpAny_call_entry slot_rv_next hit.typeIs zbw ?_ (zb5 _))))
 unfold Builtin.«reversed.__next__»
 refine wpAny_bind (wpAny_of_eq (a:=(Value.ref it,[])) rfl ?_)
 try dsimp only
 refine wpAny_bind (wpAny_field ho hd (x:=.ref t) rfl ?_)
 refine wpAny_bind (wpAny_field ho hd (x:=rawInt (-1)) rfl ?_)
 show wpAny _ _ (if (-1:Int)<0 then _ else _) _ _ s
 rw [if_pos (by decide)]
 refine wpAny_bind (wpAny_rule ?_)
 refine wpAny_bind ?_
 show wpAny _ _ (setField (.ref it) 1 (rawInt (-1)) >>= _) _ _ _
 refine wpAny_bind (wpAny_setField ho hd (by simp) ?_)
 have e1:(o.mapFields (·.setIfInBounds 1 (rawInt (-1)))).data=.fields #[.ref t,rawInt (-1)]:=by rw [Obj.data_mapFields hd];simp
 have ho1:=Heap.get?_update_self (fun o=>o.mapFields (·.setIfInBounds 1 (rawInt (-1)))) ho (Obj.isFreed_of_fields (Obj.data_mapFields hd _))
 refine wpAny_setField ho1 e1 (by simp) ?_
 refine wpAny_bind ?_
 show wpAny _ _ (newExc (.type "StopIteration") [] >>= _) _ _ _
 refine wpAny_bind ?_
 simp only [newExc,newTuple]
 refine wpAny_bind (wpAny_newObj_type ?_ (by size_fits))
 refine wpAny_bind (m:=firstArgMember _ _) (wpAny_of_eq (a:=Value.none) (by first|rfl|(simp only [firstArgMember];rfl)) ?_)
 refine wpAny_newObj_type ?_ (by size_fits)
 simp only [raiseNew]
 refine wpAny_bind (wpAny_handled ?_)
 first|rw [show A.in1.handled=none from hh]|rw [hh]
 refine wpAny_bind (wpAny_pure (wpAny_throw ?_))
 refine wpAny_bind (wpAny_isInstance (T:="StopIteration") (b:=true) ⟨_,Heap.get?_push_size _ rfl,rfl⟩ isSubtype_stop ?_)
 have sb:Heap.SameBut it s.heap ((s.heap.update it fun o=>o.mapFields (·.setIfInBounds 1 (rawInt (-1)))).update it (Obj.mapFields (·.setIfInBounds 0 .none))):=(Heap.SameBut.update ..).trans (Heap.SameBut.update ..)
 exact wpAny_pure (hQ _ ((sb.extBut.push _).push _))
theorem rvT_iter {it t:Addr}{i:Int}{Q:Value->Shared->Prop}(hit:IsRvT s.heap it t i)(h:Q (.ref it) s):wpAny (model prog w) A (pyIter (.ref it)) Q E s:=by
 refine wpAny_pyIter_slot hit.typeIs zb7 (wpAny_call_entry zb7 hit.typeIs zd2 ?_ (zel _))
 show wpAny _ _ (ret (.ref it)) _ _ s
 exact wpAny_pure ⟨_,rfl,"reversed",_,hit.typeIs,slot_rv_next.lookup,h⟩
end
end WE
namespace L2
open PySem PySem.Spec PyProof.Rows
def ItR (K:PySem.W.Frag)(a:Addr)(n:Nat):It :=
 ⟨fun i H=>∃xs x,SqT K H a xs/\xs.length=n/\xs.reverse[i]?=some x,fun i H x H'=>H'=H/\∀xs,SqT K H a xs->xs.reverse[i]?=some x,fun i H=>n<=i⟩
theorem zbO {α:Type}{xs:List α}{i:Nat}{x:α}(h:xs.reverse[i]?=some x):i<xs.length/\xs[xs.length - 1 - i]?=some x:=by
 have hi:i<xs.length:=by
  rcases Nat.lt_or_ge i xs.length with q|q
  ·exact q
  ·rw [List.getElem?_eq_none (by simpa using q)] at h;cases h
 exact ⟨hi,by rw [<- h,List.getElem?_reverse hi]⟩
theorem zg6 {P:Program}{w:World}{K:PySem.W.Frag}{tg:Expr}(a it:Addr)(n:Nat):Turn P w K tg (ItR K a n) [it] it (fun i h=>i<=n/\WE.IsRvT h it a ((n:Int) - 1 - i)) where
 mem:=by simp
 obj:=fun i h st b hb=>by
  have e:b=it:=by simpa using hb
  subst e
  obtain ⟨_,o,e,c,d⟩:=st
  exact ⟨o,e,fun v z=>by rw [d] at z;cases z⟩
 keep:=fun i h h' st k=>by
  obtain ⟨l,o,e,r⟩:=st
  exact ⟨l,o,k it (by simp) o e,r⟩
 item:=by
  intro X hP hw hK hc i pins s σ H E I hf st hg
  subst hP hw hK
  obtain ⟨xs,x,hq,hn,hx⟩:=hg
  obtain ⟨its,rv,p,hz⟩:=I.tuple hq
  obtain ⟨hi,hx'⟩:=zbO hx
  obtain ⟨u,hu,ru⟩:=rv.get hx'
  have hl:=rv.length
  obtain ⟨f0,f1,f2,f3,f4,f5⟩:=hf it (by simp)
  have e:(n:Int) - 1 - (i:Int)=((xs.length - 1 - i:Nat):Int):=by omega
  have hit:=st.2
  rw [e] at hit
  refine WE.rvT_item hit p (x:=u) (by simpa using hu) (by simp only [List.size_toArray];omega) fun h' tk st' sb=>?_
  have e2:((xs.length - 1 - i:Nat):Int) - 1=(n:Int) - 1 - ((i+1:Nat):Int):=by omega
  rw [e2] at st'
  have I1:Inv X pins σ H { s with heap:=h',toks:=tk }:=I.turned (fun b o hb e=>(sb.2 b hb).trans e) f0 f1 f3 f4 f5
  obtain ⟨o,e,c,d⟩:=id st'
  exact ⟨u,rfl,zfY (s:={ s with heap:=h',toks:=tk }) e c d (by decide) ⟨x,H,I1,ru,⟨rfl,fun ys hy=>by rw [I.tuple_inj hy hq];exact hx⟩,⟨by omega,st'⟩,fun b hb=>(hf b hb).1⟩⟩
 done:=by
  intro X hP hw hK hc i pins s σ H E I hf st hg
  subst hP hw hK
  obtain ⟨f0,f1,f2,f3,f4,f5⟩:=hf it (by simp)
  have hg:n<=i:=hg
  have e:(n:Int) - 1 - (i:Int)=-1:=by have:=st.1;omega
  have hit:=st.2
  rw [e] at hit
  exact WE.rvT_end (I.ok.hd hc) hit fun h' eb=>⟨rfl,I.turned (t':=s.toks) (fun b o hb e=>eb b o hb e) f0 f1 f3 f4 f5⟩
 self:=fun _ _ _ _ _ st h=>WE.rvT_iter st.2 h
def ItS (K:PySem.W.Frag)(a:Addr)(n:Nat):It :=
 ⟨fun i H=>∃xs x,SqL K H a xs/\xs.length=n/\xs.reverse[i]?=some x,fun i H x H'=>H'=H/\∀xs,SqL K H a xs->xs.reverse[i]?=some x,fun i H=>n<=i⟩
theorem zhG {P:Program}{w:World}{K:PySem.W.Frag}{tg:Expr}(a it:Addr)(n:Nat):Turn P w K tg (ItS K a n) [it] it (fun i h=>i<=n/\h.IsRevIter it a ((n:Int) - 1 - i)) where
 mem:=by simp
 obj:=fun i h st b hb=>by
  have e:b=it:=by simpa using hb
  subst e
  obtain ⟨_,o,e,c,d⟩:=st
  exact ⟨o,e,fun v z=>by rw [d] at z;cases z⟩
 keep:=fun i h h' st k=>by
  obtain ⟨l,o,e,r⟩:=st
  exact ⟨l,o,k it (by simp) o e,r⟩
 item:=by
  intro X hP hw hK hc i pins s σ H E I hf st hg
  subst hP hw hK
  obtain ⟨xs,x,hq,hn,hx⟩:=hg
  obtain ⟨its,rv,p,hz⟩:=I.list hq
  obtain ⟨hi,hx'⟩:=zbO hx
  obtain ⟨u,hu,ru⟩:=rv.get hx'
  have hl:=rv.length
  obtain ⟨f0,f1,f2,f3,f4,f5⟩:=hf it (by simp)
  have e:(n:Int) - 1 - (i:Int)=((xs.length - 1 - i:Nat):Int):=by omega
  have hit:=st.2
  rw [e] at hit
  refine wpAny_pyNext_rev_item hit p.isList (x:=u) (by simpa using hu) fun h' st' sb=>?_
  have e2:((xs.length - 1 - i:Nat):Int) - 1=(n:Int) - 1 - ((i+1:Nat):Int):=by omega
  rw [e2] at st'
  have I1:Inv X pins σ H { s with heap:=h' }:=I.turned (t':=s.toks) (fun b o hb e=>(sb.2 b hb).trans e) f0 f1 f3 f4 f5
  obtain ⟨o,e,c,d⟩:=id st'
  exact ⟨u,rfl,zfY (s:={ s with heap:=h' }) e c d (by decide) ⟨x,H,I1,ru,⟨rfl,fun ys hy=>by rw [I.list_inj hy hq];exact hx⟩,⟨by omega,st'⟩,fun b hb=>(hf b hb).1⟩⟩
 done:=by
  intro X hP hw hK hc i pins s σ H E I hf st hg
  subst hP hw hK
  obtain ⟨f0,f1,f2,f3,f4,f5⟩:=hf it (by simp)
  have hg:n<=i:=hg
  have e:(n:Int) - 1 - (i:Int)=-1:=by have:=st.1;omega
  have hit:=st.2
  rw [e] at hit
  exact wpAny_pyNext_rev_end (I.ok.hd hc) hit fun h' eb=>⟨rfl,I.turned (t':=s.toks) (fun b o hb e=>eb b o hb e) f0 f1 f3 f4 f5⟩
 self:=fun _ _ _ _ _ st h=>wpAny_pyIter_revIter st.2 h
theorem zkS {X:Cx}{e tg:Expr}{ta:TA}{p pos:Pos}(hg:Gl X "reversed")(hm:X.mg "reversed"=none)(ha:PA X [e] ta)(hs:starEach [e] X.env=[(false,eval e X.env)]:=by rfl) :
  PI X tg (.Call (.Name "reversed" p) [e] [] pos) (fun σ H R=>ta σ H fun vs H1=>∃a xs,vs=[.ref a]/\((SqL X.K H1 a xs/\R (ItS X.K a xs.length) H1) \/ (SqT X.K H1 a xs/\R (ItR X.K a xs.length) H1))):=by
 intro pins s σ H R I h
 refine Call_ (zdq I hg hm boot_reversed ?_)
 refine PyProof.Rows.callWith_type1 (thn (ha pos pins s σ H _ I h) fun us s1 ⟨vs,H1,I1,r1,q1⟩=>?_) (by rw [hs];rfl) rfl
 obtain ⟨a,xs,rfl,q⟩:=q1
 obtain ⟨u,rfl,rx⟩:=vals1 r1
 cases (show _=Value.ref a from rx)
 rcases q with ⟨hq,q⟩|⟨hq,q⟩
 ·obtain ⟨its,rv,p,hz⟩:=I1.list hq
  have hl:=rv.length
  refine call_reversed_list p.isList ?_
  refine wpAny_pyIter_revIter ⟨_,Heap.get?_push_size _ rfl,rfl,rfl⟩ ?_
  refine ⟨s1.heap.objs.size,[s1.heap.objs.size],_,_,H1,rfl,I1.kept (t':=s1.toks) fun b o e=>Heap.get?_push_of_some _ e,zhG a _ xs.length,⟨by omega,_,Heap.get?_push_size _ rfl,rfl,?_⟩,fun b hb=>?_,q⟩
  ·simp only [List.size_toArray,hl];simp [revObj]
  ·have e:b=s1.heap.objs.size:=by simpa using hb
   subst e
   exact I1.fpOk (Nat.le_refl _) (I1.hok.fresh (Nat.le_refl _))
 ·obtain ⟨its,rv,p,hz⟩:=I1.tuple hq
  have hl:=rv.length
  refine WE.call_rev_tuple p (by simp only [List.size_toArray];omega) fun tk=>?_
  refine WE.rvT_iter ⟨_,Heap.get?_push_size _ rfl,rfl,rfl⟩ ?_
  refine ⟨s1.heap.objs.size,[s1.heap.objs.size],_,_,H1,rfl,I1.kept (t':=tk) fun b o e=>Heap.get?_push_of_some _ e,zg6 a _ xs.length,⟨by omega,_,Heap.get?_push_size _ rfl,rfl,?_⟩,fun b hb=>?_,q⟩
  ·simp only [List.size_toArray,hl];simp
  ·have e:b=s1.heap.objs.size:=by simpa using hb
   subst e
   exact I1.fpOk (Nat.le_refl _) (I1.hok.fresh (Nat.le_refl _))
def CX1 (P:Program)(w:World):CXT:=fun outer H s E e s'=>∃(a:Addr) (cls a0:Value) (H':Hp) (B:Heap),e=.ref a/\s'.os=s.os/\AllBare s'.gens/\Heap.FlyingW B outer a cls a0 s'.heap/\HOk P w H' s'.heap/\Un (frs outer) [] H H' s.heap s'.heap /\
 (∀b o,s.heap.get? b=some o->H b=none->b∉frs outer->B.get? b=some o)/\(∀b u,H' b=some u->∃o,B.get? b=some o)/\(∀b o,s.heap.get? b=some o->b∉frs outer->∃o',B.get? b=some o')/\E cls none H'
theorem ObjOk.there {P:Program}{w:World}{H:Hp}{h:Heap}{a:Addr}{o:HO}(x:ObjOk P w H h a o):∃ob,h.get? a=some ob:=by
 induction o with
 |lst xs=>obtain ⟨_,_,_,_,e⟩:=x;exact ⟨_,e⟩
 |tup xs=>obtain ⟨_,_,_,ob,e,_⟩:=x;exact ⟨ob,e⟩
 |dK kvs=>obtain ⟨_,_,_,_,ob,_,_,e,_⟩:=x;exact ⟨ob,e⟩
 |dT kvs=>obtain ⟨_,_,_,_,ob,_,_,e,_⟩:=x;exact ⟨ob,e⟩
 |set S n=>obtain ⟨ob,_,_,_,e,_⟩:=x;exact ⟨ob,e⟩
 |ins C dx fs=>obtain ⟨_,_,_,e,_⟩:=x;exact ⟨_,e⟩
 |own y=>exact x
 |xd fs=>obtain ⟨_,⟨ob,_,_,e,_⟩,_⟩:=x;exact ⟨ob,e⟩
 |rng lo hi=>obtain ⟨_,_,_,e⟩:=x;exact ⟨_,e⟩
 |frz ob u ih=>exact ⟨ob,x.1⟩
 |tbl ps=>exact ⟨_,x⟩
 |met f y=>exact ⟨_,x⟩
 |ext φ=>exact x.2.1
theorem HOk.inB {P:Program}{w:World}{H:Hp}{h h' B:Heap}(ok:HOk P w H h)(hB:B.StaysIn h)(hB':B.StaysIn h')(tr:∀b u,H b=some u->∃o,B.get? b=some o):HOk P w H h':=fun a o e =>
 (ok a o e).stay (fun b u hb q=>by
  have hb':∃o,B.get? b=some o:=by
   rcases hb with z|z
   ·rw [z]
    exact tr a o e
   ·exact tr b _ z
  obtain ⟨o',q'⟩:=hb'
  have:=hB b o' q'
  rw [q] at this
  cases this
  exact hB' b u q') (fun _ q=>q) fun _ _ q=>q
section
variable {P:Program}{w:World}{K:PySem.W.Frag}{mg:Str->Option Value}{base:Heap}{N:List Str}{qual:Str}{scope:Scope}{f:Addr}{cd:Value}{A:Around}{outer:List Env}{s₀:Shared}{H₀:Hp}{E:XK}
 {pins:List (Addr×Obj)} {σ:St} {H:Hp} {s:Shared}
theorem zhJ {h':Heap}{e:Addr}{cls:Value}{vs:List Value}(I:Inv (cxOf (CX1 P w) P w K mg base N qual scope f cd A outer s₀ H₀ E) pins σ H s)(hx:Heap.MadeExcOf s.heap h' e cls vs)(hE:E cls none H) :
  (cxOf (CX1 P w) P w K mg base N qual scope f cd A outer s₀ H₀ E).xe (.ref e) { s with heap:=h' }:=by
 have stk:s.heap.FunFrames base (envOfC qual scope s₀.heap.objs.size f cd::outer):=I.stack
 have hst:∀b,b∈frs (envOfC qual scope s₀.heap.objs.size f cd::outer)->b=s₀.heap.objs.size \/ b∈frs outer:=fun b hb=>by
  have hb':b∈s₀.heap.objs.size::frs outer:=hb
  exact List.mem_cons.mp hb'
 have inB:∀b o,s.heap.get? b=some o->b∉frs (envOfC qual scope s₀.heap.objs.size f cd::outer)->(PySem.W.hideAll s.heap (frs (envOfC qual scope s₀.heap.objs.size f cd::outer))).get? b=some o:=fun b o q n=>PySem.W.hideAll_get _ q n
 have hB:(PySem.W.hideAll s.heap (frs (envOfC qual scope s₀.heap.objs.size f cd::outer))).StaysIn s.heap:=fun b o q=>PySem.W.of_hideAll _ q
 have bse:Un (frs outer) [] H₀ H s₀.heap s.heap:=I.base
 have lt:∀b o,s₀.heap.get? b=some o->b≠s₀.heap.objs.size:=fun b o q=>Nat.ne_of_lt (Heap.lt_size q)
 have tr:∀b u,H b=some u->∃o,(PySem.W.hideAll s.heap (frs (envOfC qual scope s₀.heap.objs.size f cd::outer))).get? b=some o:=fun b u q=>by
  obtain ⟨o,ho⟩:=ObjOk.there (I.hok b u q)
  exact ⟨o,inB b o ho fun hb=>by
   have:=I.stkFree b hb
   rw [q] at this
   cases this⟩
 refine wpAny_leaves_madeW (base:=PySem.W.hideAll s.heap (frs (envOfC qual scope s₀.heap.objs.size f cd::outer))) (h:=s.heap) I.ok.frames rfl hB (PySem.W.funFrames_hide stk fun env he a ha=>List.mem_filterMap.mpr ⟨env,he,ha⟩) hx fun h'' t fl tu tn up=>?_
 have up':s.heap.UpToSlots h'':=(Heap.UpToSlots.of_keeps hx.keeps).trans up
 refine ⟨e,cls,_,H,_,rfl,I.os,I.bare,fl,HOk.inB I.hok hB fl.1 tr,⟨fun b o q n hb _=>?_,fun b o q n hb _=>?_,bse.free,fun b o q _=>?_,bse.tups,bse.frzs,bse.tbls⟩,fun b o q n hb=>?_,tr,fun b o q hb=>?_,hE⟩
 ·refine fl.1 b o (inB b o (bse.keep b o q n hb (by simp)) fun z=>?_)
  rcases hst b z with z|z
  ·exact lt b o q z
  ·exact hb z
 ·obtain ⟨sl,q1⟩:=bse.slot b o q n hb (by simp)
  obtain ⟨_,o',ho',hd⟩:=Heap.FunFrames.mem stk (show b∈List.filterMap (fun (z:Env)=>z.frame) _ from List.mem_cons_of_mem _ hb)
  obtain ⟨sl',q2⟩:=up' b _ q1 (by rw [ho'] at q1;cases q1;exact hd)
  exact ⟨sl',q2⟩
 ·obtain ⟨o',q1⟩:=bse.there b o q (by simp)
  by_cases hb:b∈frs (envOfC qual scope s₀.heap.objs.size f cd::outer)
  ·obtain ⟨_,o2,ho',hd⟩:=Heap.FunFrames.mem stk hb
   obtain ⟨sl',q2⟩:=up' b _ ho' hd
   exact ⟨_,q2⟩
  ·exact ⟨o',fl.1 b o' (inB b o' q1 hb)⟩
 ·refine inB b o (bse.keep b o q n hb (by simp)) fun z=>?_
  rcases hst b z with z|z
  ·exact lt b o q z
  ·exact hb z
 ·obtain ⟨o',q1⟩:=bse.there b o q (by simp)
  refine ⟨o',inB b o' q1 fun z=>?_⟩
  rcases hst b z with z|z
  ·exact lt b o q z
  ·exact hb z
theorem pass1:Passes (CX1 P w) (cxOf (CX1 P w) P w K mg base N qual scope f cd A outer s₀ H₀ E) E:=by
 intro pins σ H s e s' I h
 obtain ⟨a,cls,a0,H',B,rfl,os,bare,fl,hok,un,hB,tr,hT,hE⟩:=h
 have bse:Un (frs outer) [] H₀ H s₀.heap s.heap:=I.base
 have lt:∀b o,s₀.heap.get? b=some o->b≠s₀.heap.objs.size:=fun b o q=>Nat.ne_of_lt (Heap.lt_size q)
 have hst:∀b,b∈frs (envOfC qual scope s₀.heap.objs.size f cd::outer)->b=s₀.heap.objs.size \/ b∈frs outer:=fun b hb=>by
  have hb':b∈s₀.heap.objs.size::frs outer:=hb
  exact List.mem_cons.mp hb'
 have un':Un (frs (envOfC qual scope s₀.heap.objs.size f cd::outer)) [] H H' s.heap s'.heap:=un
 have kB:∀b o,s₀.heap.get? b=some o->H₀ b=none->b∉frs outer->B.get? b=some o:=fun b o q n hb=>hB b o (bse.keep b o q n hb (by simp)) (bse.free b o q n (by simp)) fun z=>by
  rcases hst b z with z|z
  ·exact lt b o q z
  ·exact hb z
 have kT:∀b o,s₀.heap.get? b=some o->b∉frs outer->∃o',B.get? b=some o':=fun b o q hb=>by
  obtain ⟨o',q1⟩:=bse.there b o q (by simp)
  refine hT b o' q1 fun z=>?_
  rcases hst b z with z|z
  ·exact lt b o q z
  ·exact hb z
 refine wpAny_leaves_onW I.ok.frames rfl fl fun h'' fl' up=>?_
 refine ⟨a,cls,a0,H',B,rfl,os.trans I.os,bare,fl',HOk.inB hok fl.1 fl'.1 tr,⟨fun b o q n hb _=>fl'.1 b o (kB b o q n hb),fun b o q n hb _=>?_,fun b o q n _=>?_,fun b o q _=>?_,fun b xs q=>un'.tups b xs (bse.tups b xs q),fun b o u q=>un'.frzs b o u (bse.frzs b o u q),fun b ps q=>?_⟩,kB,tr,kT,hE⟩
 ·obtain ⟨sl,q1⟩:=bse.slot b o q n hb (by simp)
  have n1:=bse.free b o q n (by simp)
  obtain ⟨sl1,q2⟩:=un'.slot b _ q1 n1 (List.mem_cons_of_mem _ hb) (by simp)
  obtain ⟨_,o',ho',hd⟩:=Heap.FunFrames.mem fl.2.2.1 (show b∈List.filterMap (fun (z:Env)=>z.frame) _ from List.mem_cons_of_mem _ hb)
  obtain ⟨sl',q3⟩:=up b _ q2 (by rw [ho'] at q2;cases q2;exact hd)
  exact ⟨sl',q3⟩
 ·obtain ⟨o',q1⟩:=bse.there b o q (by simp)
  exact un'.free b o' q1 (bse.free b o q n (by simp)) (by simp)
 ·obtain ⟨o',q1⟩:=bse.there b o q (by simp)
  obtain ⟨o2,q2⟩:=un'.there b o' q1 (by simp)
  by_cases hb:b∈frs outer
  ·obtain ⟨_,o3,ho3,hd⟩:=Heap.FunFrames.mem fl.2.2.1 (show b∈List.filterMap (fun (z:Env)=>z.frame) _ from List.mem_cons_of_mem _ hb)
   obtain ⟨sl',q3⟩:=up b _ ho3 hd
   exact ⟨_,q3⟩
  ·obtain ⟨o4,q4⟩:=kT b o q hb
   exact ⟨o4,fl'.1 b o4 q4⟩
 ·obtain ⟨m1,e1⟩:=bse.tbls b ps q
  obtain ⟨m2,e2⟩:=un'.tbls b _ e1
  exact ⟨m1++m2,by rw [e2,Array.append_assoc]⟩
end
section
variable {X:Cx}{e:Expr}{es:List Expr}{te:TE}
abbrev TJ:=Str->St->Hp->VK->Prop
def PJ (X:Cx)(es:List Expr)(t:TJ):Prop :=
 ∀(out:Str) (pins:List (Addr×Obj)) (s:Shared) (σ:St) (H:Hp) (Q:VK),Inv X pins σ H s->t out σ H Q->wpAny (model X.prog X.w) X.A (joinParts out (evalEach es X.env)) (EP X pins σ Q) X.xe s
def jNil:TJ:=fun out _ H Q=>out.length<=sizeLine/\Q (.str out) H
def jCons (te:TE)(t:TJ):TJ:=fun out σ H Q=>te σ H fun v H1=>∃y,v=.str y/\(out++y).length<=sizeLine/\t (out++y) σ H1 Q
theorem zlS:PJ X [] jNil:=fun out _ _ _ H _ I h=>joinParts_nil ⟨.str out,H,I.tok _,⟨_,rfl⟩,h.2⟩ h.1
theorem zkm {t:TJ}(he:PE X e te)(hr:PJ X es t)(hs:evalEach (e::es) X.env=eval e X.env::evalEach es X.env:=by rfl):PJ X (e::es) (jCons te t):=by
 intro out pins s σ H Q I h
 rw [hs]
 refine joinParts_cons (thn (he pins s σ H _ I h) fun v s1 ⟨x,H1,I1,r1,y,e1,hz,q⟩=>?_)
 subst e1
 obtain ⟨tk,rfl⟩:=r1
 exact ⟨hz,hr (out++y) pins s1 σ H1 Q I1 q⟩
def tJoined (t:TJ):TE:=fun σ H Q=>t Str.empty σ H Q
theorem zhE {v1 v2:Expr}{rest:List Expr}{pos:Pos}{t:TJ}(h:PJ X (v1::v2::rest) t):PE X (.JoinedStr (v1::v2::rest) pos) (tJoined t):=fun pins s σ H Q I q=>JoinedStr_many (h Str.empty pins s σ H Q I q)
end
section
variable {X:Cx}{e:Expr}{es:List Expr}{t:TA}{E:XK}
end
def CXH (X:Cx)(H:Hp)(s:Shared)(E:XK)(e:Value)(s':Shared):Prop :=
 ∃(C a:Addr) (cls a0 fl:Value) (H':Hp) (B:Heap),X.s₀.heap.objs.size<=C/\e=.ref a/\s'.os=s.os/\AllBare s'.gens /\
  (B.StaysIn s'.heap/\B.get? a=none/\s'.heap.FunFrames B X.stack/\s'.heap.TracedAtW B a cls a0 fl)/\HOk X.prog X.w H' s'.heap/\Un (frs X.stack) [C] H H' s.heap s'.heap /\
  (∀b o,s.heap.get? b=some o->H b=none->b∉frs X.stack->b≠C->B.get? b=some o)/\(∀b u,H' b=some u->∃o,B.get? b=some o)/\(∀b o,s.heap.get? b=some o->b∉frs X.stack->b≠C->∃o',B.get? b=some o')/\E cls none H'
theorem CXH.mono {X:Cx}{H:Hp}{s:Shared}{E E':XK}{e:Value}{s':Shared}(h:CXH X H s E e s')(n:∀cls H',E cls none H'->E' cls none H'):CXH X H s E' e s':=by
 obtain ⟨C,a,cls,a0,fl,H',B,r1,r2,r3,r4,r5,r6,r7,r8,r9,r10,r11⟩:=h
 exact ⟨C,a,cls,a0,fl,H',B,r1,r2,r3,r4,r5,r6,r7,r8,r9,r10,n _ _ r11⟩
section
variable {M:Model}{A:Around}{E:Value->Shared->Prop}{s:Shared}
theorem ze5 {base:Heap}{env:Env}{outer:List Env}{L e:Addr}{cls a0 fl:Value}{Q:Unit->Shared->Prop}
  (hfr:A.frames=some (env::outer)) (hf:env.frame=some L) (f1:base.StaysIn s.heap) (f2:base.get? e=none) (f3:s.heap.FunFrames base (env::outer)) (f4:s.heap.TracedAtW base e cls a0 fl)
  (hQ:∀h',Heap.FlyingW base outer e cls a0 h'->s.heap.UpToSlots h'->Q () { s with heap:=h' }):wpAny M A (leaving env (.ref e)) Q E s:=by
 by_cases hfl:fl=rawInt L
 ·subst hfl
  unfold leaving
  refine wpAny_bind (wpAny_noteFrame_againW hf f4 ?_)
  refine wpAny_landsW ⟨f1,f2,f3,f4⟩ fun h' hfl up=>?_
  obtain ⟨k1,k2,⟨_,_,k3⟩,k4⟩:=hfl
  exact hQ h' ⟨k1,k2,k3,k4⟩ up
 ·obtain ⟨oe,vs,T,oT,ts,he,⟨hcls,h0⟩,hd,h1,hnT,hTe,hT,hdT,h3⟩:=f4
  subst hcls
  unfold leaving noteFrame
  simp only [hf]
  refine wpAny_bind (wpAny_bind (wpAny_field he hd h1 ?_))
  rw [if_pos (show (Value.ref T != Value.none)=true from by simp)]
  refine wpAny_bind (wpAny_field hT hdT h3 ?_)
  rw [if_neg (show ¬((fl == rawInt L)=true) from fun z=>hfl (eq_of_beq z))]
  refine wpAny_bind (wpAny_setField hT hdT (Array.getElem?_eq_some_iff.mp h3).1 ?_)
  have other:∀b,b≠T->(s.heap.update T (Obj.mapFields (·.setIfInBounds 3 Value.none))).get? b=s.heap.get? b:=fun b hb=>Heap.get?_update_other _ _ (Ne.symm hb)
  have noRecord:∀b o,s.heap.get? b=some o->(∀vs,o.data ≠ .fields vs)->b≠T:=fun b o hb hnf q=>by
   rw [q,hT] at hb;injection hb with hb;subst hb;exact hnf ts hdT
  refine wpAny_newEntryW hfr (f3.of_keeps fun b o hb hnf=>⟨o,(other b (noRecord b o hb hnf)).trans hb,rfl⟩) hf ((other e (Ne.symm hTe)).trans he)
   (fun b o hbo=>(other b fun q=>by rw [q,hnT] at hbo;cases hbo).trans (f1 b o hbo)) f2 hd (Array.getElem?_eq_some_iff.mp h1).1 h0
   fun h' ⟨x1,⟨_,_,x2⟩,x3,x4⟩=>hQ h' ⟨x1,f2,x2,x3⟩ fun b o hb hnf=>x4 b o ((other b (noRecord b o hb hnf)).trans hb) hnf
theorem zdP {base:Heap}{l:List Env}{e:Addr}{cls a0 fl:Value}{g:Option Addr}{Q:Unit->Shared->Prop}
  (f1:base.StaysIn s.heap) (f3:s.heap.FunFrames base l) (f4:s.heap.TracedAtW base e cls a0 fl)
  (h:∀h' fl',base.StaysIn h'->h'.FunFrames base l->h'.TracedAtW base e cls a0 fl'->(∀b o,s.heap.get? b=some o->(∀vs,o.data ≠ .fields vs)->h'.get? b=some o)->Q () { s with heap:=h' }) :
  wpAny M A (setFlight (.ref e) g) Q E s:=by
 obtain ⟨oe,vs,T,oT,ts,he,hcls,hd,h1,hnT,hTe,hT,hdT,h3⟩:=f4
 have hsz3:3<ts.size:=(Array.getElem?_eq_some_iff.mp h3).1
 have other:∀b,b≠T->(s.heap.update T (Obj.mapFields (·.setIfInBounds 3 (g.elim Value.none fun f=>rawInt f)))).get? b=s.heap.get? b :=
  fun b hb=>Heap.get?_update_other _ _ (Ne.symm hb)
 have noRecord:∀b o,s.heap.get? b=some o->(∀vs,o.data ≠ .fields vs)->b≠T:=fun b o hb hnf q=>by
  rw [q,hT] at hb;injection hb with hb;subst hb;exact hnf ts hdT
 unfold setFlight
 refine wpAny_bind (wpAny_field he hd h1 ?_)
 rw [if_pos (show (Value.ref T != Value.none)=true from by simp)]
 refine wpAny_setField hT hdT hsz3 (h _ (g.elim Value.none fun f=>rawInt f) (fun b o hbo=>(other b fun q=>by rw [q,hnT] at hbo;cases hbo).trans (f1 b o hbo))
  (f3.of_keeps fun b o hb hnf=>⟨o,(other b (noRecord b o hb hnf)).trans hb,rfl⟩) ?_ fun b o hb hnf=>(other b (noRecord b o hb hnf)).trans hb)
 exact ⟨oe,vs,T,_,_,(other e (Ne.symm hTe)).trans he,hcls,hd,h1,hnT,hTe,Heap.get?_update_self _ hT (Obj.isFreed_of_fields (Obj.data_mapFields hdT _)),Obj.data_mapFields hdT _,by simp [hsz3]⟩
end
section
variable {P:Program}{w:World}{K:PySem.W.Frag}{mg:Str->Option Value}{base:Heap}{N:List Str}{qual:Str}{scope:Scope}{f:Addr}{cd:Value}{A:Around}{outer:List Env}{s₀:Shared}{H₀:Hp}{E:XK}
theorem passH {pins:List (Addr×Obj)}{σ:St}{H:Hp}{s:Shared}{e:Value}{s':Shared}(I:Inv (cxOf (CX1 P w) P w K mg base N qual scope f cd A outer s₀ H₀ E) pins σ H s)(h:CXH (cxOf (CX1 P w) P w K mg base N qual scope f cd A outer s₀ H₀ E) H s E e s') :
  (cxOf (CX1 P w) P w K mg base N qual scope f cd A outer s₀ H₀ E).xe e s':=by
 obtain ⟨C,a,cls,a0,fl,H',B,hC,rfl,os,bare,⟨f1,f2,f3,f4⟩,hok,un,hB,tr,hT,hE⟩:=h
 have bse:Un (frs outer) [] H₀ H s₀.heap s.heap:=I.base
 have lt:∀b o,s₀.heap.get? b=some o->b≠s₀.heap.objs.size:=fun b o q=>Nat.ne_of_lt (Heap.lt_size q)
 have neC:∀b o,s₀.heap.get? b=some o->b≠C:=fun b o q=>Nat.ne_of_lt (Nat.lt_of_lt_of_le (Heap.lt_size q) hC)
 have niC:∀b o,s₀.heap.get? b=some o->b∉[C]:=fun b o q z=>neC b o q (by simpa using z)
 have hst:∀b,b∈frs (envOfC qual scope s₀.heap.objs.size f cd::outer)->b=s₀.heap.objs.size \/ b∈frs outer:=fun b hb=>by
  have hb':b∈s₀.heap.objs.size::frs outer:=hb
  exact List.mem_cons.mp hb'
 have un':Un (frs (envOfC qual scope s₀.heap.objs.size f cd::outer)) [C] H H' s.heap s'.heap:=un
 have kB:∀b o,s₀.heap.get? b=some o->H₀ b=none->b∉frs outer->B.get? b=some o:=fun b o q n hb=>hB b o (bse.keep b o q n hb (by simp)) (bse.free b o q n (by simp)) (fun z=>by
  rcases hst b z with z|z
  ·exact lt b o q z
  ·exact hb z) (neC b o q)
 have kT:∀b o,s₀.heap.get? b=some o->b∉frs outer->∃o',B.get? b=some o':=fun b o q hb=>by
  obtain ⟨o',q1⟩:=bse.there b o q (by simp)
  refine hT b o' q1 (fun z=>?_) (neC b o q)
  rcases hst b z with z|z
  ·exact lt b o q z
  ·exact hb z
 refine ze5 I.ok.frames rfl f1 f2 f3 f4 fun h'' fl' up=>?_
 refine ⟨a,cls,a0,H',B,rfl,os.trans I.os,bare,fl',HOk.inB hok f1 fl'.1 tr,⟨fun b o q n hb _=>fl'.1 b o (kB b o q n hb),fun b o q n hb _=>?_,fun b o q n _=>?_,fun b o q _=>?_,fun b xs q=>un'.tups b xs (bse.tups b xs q),fun b o u q=>un'.frzs b o u (bse.frzs b o u q),fun b ps q=>?_⟩,kB,tr,kT,hE⟩
 ·obtain ⟨sl,q1⟩:=bse.slot b o q n hb (by simp)
  have n1:=bse.free b o q n (by simp)
  obtain ⟨sl1,q2⟩:=un'.slot b _ q1 n1 (List.mem_cons_of_mem _ hb) (niC b o q)
  obtain ⟨_,o',ho',hd⟩:=Heap.FunFrames.mem f3 (show b∈List.filterMap (fun (z:Env)=>z.frame) _ from List.mem_cons_of_mem _ hb)
  obtain ⟨sl',q3⟩:=up b _ q2 (by rw [ho'] at q2;cases q2;exact hd)
  exact ⟨sl',q3⟩
 ·obtain ⟨o',q1⟩:=bse.there b o q (by simp)
  exact un'.free b o' q1 (bse.free b o q n (by simp)) (niC b o q)
 ·obtain ⟨o',q1⟩:=bse.there b o q (by simp)
  obtain ⟨o2,q2⟩:=un'.there b o' q1 (niC b o q)
  by_cases hb:b∈frs outer
  ·obtain ⟨_,o3,ho3,hd⟩:=Heap.FunFrames.mem f3 (show b∈List.filterMap (fun (z:Env)=>z.frame) _ from List.mem_cons_of_mem _ hb)
   obtain ⟨sl',q3⟩:=up b _ ho3 hd
   exact ⟨_,q3⟩
  ·obtain ⟨o4,q4⟩:=kT b o q hb
   exact ⟨o4,fl'.1 b o4 q4⟩
 ·obtain ⟨m1,e1⟩:=bse.tbls b ps q
  obtain ⟨m2,e2⟩:=un'.tbls b _ e1
  exact ⟨m1++m2,by rw [e2,Array.append_assoc]⟩
end
section
variable {pg:Program}{wd:World}{A:Around}{R:Result->Shared->Prop}{s:Shared}
theorem zf0 {elt tg iter:Expr}{ifs:List Expr}{sc:Scope}{pos:Pos}{it acc:Value}{env:Env}{Ex:Value->Shared->Prop}(hEx:∀e s',Ex e s'->notedBy (model pg wd) A env (fun x s''=>R (.error x) s'') e s')(I:Nat->Shared->Prop)
  (turn:∀n s,I n s->wpAny (model pg wd) A (pyNext it) (fun r s1=>match r with
   |none=>R (.ok .next) s1
   |some v=>wpAny (model pg wd) A (letOwnedTupleGo tg it v) (fun _ s2=>wpAny (model pg wd) A (assign tg env v) (fun _ s3=>wpAny (model pg wd) A (ifsOf ifs env) (fun ok s4 =>
     if ok=true then wpAny (model pg wd) A (eval elt env) (fun x s5=>wpAny (model pg wd) A (call (.builtin "list.append") [acc,x]) (fun _ s6=>∃m,m<n/\I m s6) No s5) Ex s4
     else ∃m,m<n/\I m s4) No s3) No s2) No s1) No s)
  (n:Nat) (h:I n s):codeAny (model pg wd) A (.compLoop (.ListComp elt [⟨tg,iter,ifs,0⟩] sc pos) 0 it acc env) R s:=by
 refine codeAny_loop rfl I (fun n s hI=>?_) n h
 show wpAny _ A ((compTurn (.ListComp elt [⟨tg,iter,ifs,0⟩] sc pos) 0 it acc env).onRaise (fun x=>do noteFrame x env;theTreesLotGoes x)) _ _ s
 refine wpAny_noted ?_
 rw [compTurn_list]
 refine wpAny_bind (wpAny_standAt (wpAny_bind (wpAny_mono (turn n s hI) (fun r s1 h1=>?_) fun _ _ f=>f.elim)))
 cases r with
 |none=>exact wpAny_pure h1
 |some v =>
  refine wpAny_bind (wpAny_mono h1 (fun _ s2 h2=>wpAny_bind (wpAny_mono h2 (fun _ s3 h3=>wpAny_bind (wpAny_mono h3 (fun ok s4 h4=>?_) fun _ _ f=>f.elim)) fun _ _ f=>f.elim)) fun _ _ f=>f.elim)
  cases ok with
  |false=>exact wpAny_pure ⟨rfl,h4⟩
  |true=>exact wpAny_bind (wpAny_bind (wpAny_mono h4 (fun x s5 h5=>wpAny_bind (wpAny_mono h5 (fun _ s6 h6=>wpAny_pure (wpAny_pure ⟨rfl,h6⟩)) fun _ _ f=>f.elim)) hEx))
end
def xeX (X:Cx)(sc:Scope)(NC:List Str)(j:CI)(E:XK):Value->Shared->Prop:=fun e s'=>∃pins σ H s,Inv (cxC X sc NC j) pins σ H s/\CX1 X.prog X.w X.stack H s E e s'
abbrev cxX (X:Cx)(sc:Scope)(NC:List Str)(j:CI)(E:XK):Cx:=(cxC X sc NC j).wish (xeX X sc NC j E)
theorem zf5 {e:Value}{env env':Env}(h:env.frame=env'.frame):noteFrame e env=noteFrame e env':=by unfold noteFrame PySem.frameOf;rw [h]
def CompRX (J:It)(D:Addr)(g:TG)(ti:TT)(te:CI->TE)(W:Nat->Nat->St->List V->Hp->Prop)(Q:Hp->Prop):Prop :=
 ∀i m σc ys H2,W i m σc ys H2->H2 D=some (.lst ys)/\((J.stop i H2/\Q H2) \/ (J.go i H2/\ys.length<sizeLine/\∃N:St->List V->Hp->Prop,(∀σ' ys' H',N σ' ys' H'->∃m',m' < m/\W (i+1) m' σ' ys' H') /\
  ∀x H3,J.yld i H2 x H3->g x σc H3 fun σ4 H4=>ti σ4 H4 fun b H5=>if b=true then ∀j,te j σ4 H5 fun y H6=>H6 D=some (.lst ys)/\N σ4 (ys++[y]) (upd H6 D (.lst (ys++[y]))) else N σ4 ys H5))
def tCompX (X:Cx)(slots:List (Option Nat))(wi:TI)(g:TG)(ti:TT)(te:CI->XK->TE):TE:=fun σ H Q=>wi σ H fun J H1=>∀D,H1 D=none->∃(E:XK) (W:Nat->Nat->St->List V->Hp->Prop),(∃m,W 0 m (inn slots σ) [] (upd H1 D (.lst [])))/\CompRX J D g ti (fun j=>te j E) W (Q (.ref D)) /\
 ∀pins H2 s e s',Inv X pins σ H2 s->CXH X H2 s E e s'->X.xe e s'
section
variable {X:Cx}{sc:Scope}{NC:List Str}{slots:List (Option Nat)}{elt tg iter:Expr}{ifs:List Expr}{pos:Pos}{g:TG}{ti:TT}{te:CI->TE}{E:XK}
theorem zhy (hc:X.calm=true)(hg:∀j,PG (cxC X sc NC j) tg g)(ht:∀j,PTs (cxC X sc NC j) ifs ti)(he:∀j,PE (cxX X sc NC j E) elt (te j)){cj:CI}{it D:Addr}{tn:Nat->Heap->Prop}{J:It}
  {W:Nat->Nat->St->List V->Hp->Prop} {Q:Hp->Prop} {R:Result->Shared->Prop} {s:Shared} {σc:St} {ys:List V} {H:Hp} (T:Turn X.prog X.w X.K tg J cj.fp it tn)
  (I:Inv (cxC X sc NC cj) [] σc H s) (hf:∀b∈cj.fp,FpOk (cxC X sc NC cj) [] H b) (st:tn 0 s.heap) {m:Nat} (w0:W 0 m σc ys H) (step:CompRX J D g ti te W Q)
  (fin:∀σ' H' s',Inv (cxC X sc NC cj) [] σ' H' s'->Q H'->R (.ok .next) s') (hEx:∀e s',xeX X sc NC cj E e s'->notedBy (model X.prog X.w) X.A (cxC X sc NC cj).env (fun x s''=>R (.error x) s'') e s') :
  codeAny (model X.prog X.w) X.A (.compLoop (.ListComp elt [⟨tg,iter,ifs,0⟩] sc pos) 0 (.ref it) (.ref D) (cxC X sc NC cj).env) R s:=by
 have stat:∀{H':Hp},(∀b∈cj.fp,H' b=none)->∀b∈cj.fp,FpOk (cxC X sc NC cj) [] H' b:=fun hn b hb=>⟨hn b hb,(hf b hb).2⟩
 refine zf0 hEx (fun n s'=>∃i σ' ys' H',Inv (cxC X sc NC cj) [] σ' H' s'/\tn i s'.heap/\(∀b∈cj.fp,H' b=none)/\W i n σ' ys' H') ?_ m ⟨0,σc,ys,H,I,st,fun b hb=>(hf b hb).1,w0⟩
 rintro n s3 ⟨i,σ3,ys3,H3,I3,st3,fr3,w3⟩
 obtain ⟨hD,q⟩:=step i n σ3 ys3 H3 w3
 rcases q with ⟨stop,qn⟩|⟨go,hz,N,hN,turn⟩
 ·refine thn (T.done (cxC X sc NC cj) rfl rfl rfl hc i [] s3 σ3 H3 No I3 (stat fr3) st3 stop) fun r s4 ⟨hr,I4⟩=>?_
  subst hr
  exact fin σ3 H3 s4 I4 qn
 ·refine thn (T.item (cxC X sc NC cj) rfl rfl rfl hc i [] s3 σ3 H3 No I3 (stat fr3) st3 go) fun r s4 ⟨u,hr,h4⟩=>?_
  subst hr
  refine thn h4 fun _ s5 ⟨x,H5,I5,r5,y5,st5,fr5⟩=>?_
  have I5':=I5.pinned (stat fr5) (T.obj _ _ st5)
  refine thn (hg cj _ s5 σ3 H5 x u _ I5' r5 (turn x H5 y5)) fun _ s6 ⟨σ6,H6,I6,q6⟩=>?_
  refine thn (ht cj _ s6 σ6 H6 _ I6 q6) fun ok s7 ⟨H7,I7,q7⟩=>?_
  have again:∀{σ8:St} {ys8:List V} {H8:Hp} {s8:Shared},Inv (cxC X sc NC cj) ([]++pinsAt cj.fp s5.heap) σ8 H8 s8->N σ8 ys8 H8->∃m,m<n/\∃i σ' ys' H',Inv (cxC X sc NC cj) [] σ' H' s8/\tn i s8.heap/\(∀b∈cj.fp,H' b=none)/\W i m σ' ys' H':=fun {σ8 ys8 H8 s8} I8 n8=>by
   obtain ⟨m',hm,w8⟩:=hN σ8 ys8 H8 n8
   refine ⟨m',hm,i+1,σ8,ys8,H8,I8.unpinned,T.keep _ _ _ st5 fun b hb o e=>(I8.pin (b,o) (List.mem_append_right _ (List.mem_append_right _ (z0 hb e)))).1,fun b hb=>?_,w8⟩
   obtain ⟨o,e,d⟩:=T.obj _ _ st5 b hb
   exact (I8.pin (b,o) (List.mem_append_right _ (List.mem_append_right _ (z0 hb e)))).2.1
  cases ok with
  |false =>
   rw [if_neg Bool.false_ne_true] at q7 ⊢
   exact again I7 q7
  |true =>
   rw [if_pos rfl] at q7 ⊢
   refine thn (he cj _ s7 σ6 H7 _ (I7.wish _) (q7 cj)) fun y s8 ⟨v,H8,I8,r8,hD8,q8⟩=>?_
   have I8:=I8.unwish
   refine thn (zbJ (X:=cxC X sc NC cj) _ s8 σ6 H8 (.ref D) [v] (.ref D) [y] (fun z H'=>z=.non/\H'=upd H8 D (.lst (ys3++[v]))) I8 rfl (.cons r8 .nil) ⟨D,ys3,v,rfl,rfl,hD8,hz,rfl,rfl⟩) fun z s9 ⟨zv,H9,I9,r9,e1,e2⟩=>?_
   subst e2
   exact again I9 q8
theorem zhr (hstk:∃outer,X.stack=X.env::outer)(hfr:X.env.frame=some X.env.locals){pins:List (Addr×Obj)}{σ:St}{H:Hp}{s:Shared}(I:Inv X pins σ H s){fp:List Addr}(hf:∀b∈fp,FpOk X pins H b){Q:Value->Shared->Prop}{acc:Value}
  (hX:∀pins H2 s e s',Inv X pins σ H2 s->CXH X H2 s E e s'->X.xe e s') {e:Value} {s':Shared} (h:xeX X sc NC ⟨s.heap.objs.size,s,H,fp⟩ E e s') :
  notedBy (model X.prog X.w) X.A (cxC X sc NC ⟨s.heap.objs.size,s,H,fp⟩).env (fun x s''=>compPost (model X.prog X.w) X.A X.xe none Q acc s.heap.objs.size (.error x) s'') e s':=by
 obtain ⟨pl,σ',H',s4,J,a,cls,a0,H2,B,rfl,os,bare,fl,hok,un,hB,tr,hT,hE⟩:=h
 have Ix:Inv X pins σ H' s4:=zbR I hf (Nat.le_refl _) J (Heap.SameBut.refl _ s4.heap)
 have fC:H' s.heap.objs.size=none:=J.free
 obtain ⟨_,n1,n2,_,_⟩:=I.fpOk (Nat.le_refl _) fC
 have nC:s.heap.objs.size∉frs X.stack:=fun hb=>(List.mem_cons.mp (I.stkSub _ hb)).elim n1 n2
 obtain ⟨m',hn',_⟩:=J.loc
 obtain ⟨o,es,ep,ho,r⟩:=id hn'
 have hBC:B.get? s.heap.objs.size=some o:=hB _ o ho fC nC
 obtain ⟨outer,hst⟩:=hstk
 show wpAny (model X.prog X.w) X.A (noteFrame (.ref a) (cxC X sc NC ⟨s.heap.objs.size,s,H,fp⟩).env) _ _ s'
 rw [zf5 (e:=.ref a) (env:=(cxC X sc NC ⟨s.heap.objs.size,s,H,fp⟩).env) (env':=X.env) rfl]
 rw [hst] at fl
 refine wpAny_looks_onW (I.ok.frames.trans (congrArg some hst)) hfr fl fun h6 held up=>?_
 rw [<- hst] at held fl
 obtain ⟨k1,k2,k3,k4⟩:=held
 refine ⟨m',⟨o,es,ep,k1 _ o hBC,r⟩,fun h' hb cenv _=>?_⟩
 have aC:a≠s.heap.objs.size:=fun z=>by rw [<- z,k2] at hBC;cases hBC
 obtain ⟨oe,vs,T,oT,ts,he,hcls,hd,h1,hnT,hTe,hT',hdT,h3⟩:=k4
 have tC:T≠s.heap.objs.size:=fun z=>by rw [<- z,hnT] at hBC;cases hBC
 have b1:∀b o,(PySem.W.hideAll B [s.heap.objs.size]).get? b=some o->B.get? b=some o/\b≠s.heap.objs.size:=fun b o q=>⟨PySem.W.of_hideAll _ q,fun z=>by
  rw [PySem.W.hideAll_none [s.heap.objs.size] (by rw [z];exact List.mem_cons_self)] at q;cases q⟩
 have b2:∀b o,B.get? b=some o->b≠s.heap.objs.size->(PySem.W.hideAll B [s.heap.objs.size]).get? b=some o:=fun b o q z=>PySem.W.hideAll_get _ q (by simpa using z)
 have b3:∀b,B.get? b=none->(PySem.W.hideAll B [s.heap.objs.size]).get? b=none:=fun b q=>by
  cases z:(PySem.W.hideAll B [s.heap.objs.size]).get? b with
  |none=>rfl
  |some o=>have:=(b1 b o z).1;rw [q] at this;cases this
 generalize hB1:PySem.W.hideAll B [s.heap.objs.size]=B1 at b1 b2 b3
 have g1:B1.StaysIn h':=fun b o q=>(hb.2 b (b1 b o q).2).trans (k1 b o (b1 b o q).1)
 have g3:∀{l:List Env},h6.FunFrames B l->h'.FunFrames B1 l:=fun {l}=>by
  induction l with
  |nil=>exact fun _=>trivial
  |cons env rest ih =>
   rintro ⟨q1,⟨L,oL,q2,q3,q4,q5⟩,q6⟩
   exact ⟨q1,⟨L,oL,q2,b3 L q3,(hb.2 L fun z=>by rw [z,hBC] at q3;cases q3).trans q4,q5⟩,ih q6⟩
 have g4:h'.TracedAtW B1 a cls a0 (rawInt X.env.locals):=⟨oe,vs,T,oT,ts,(hb.2 a aC).trans he,hcls,hd,h1,b3 T hnT,hTe,(hb.2 T tC).trans hT',hdT,h3⟩
 unfold PySem.passOn
 refine wpAny_bind (wpAny_field ((hb.2 a aC).trans he) hd h1 ?_)
 rw [if_neg (show ¬((Value.ref T == Value.none)=true) from by simp)]
 refine wpAny_bind (zdP g1 (g3 k3) g4 fun h'' fl' x1 x2 x3 x4=>wpAny_throw ?_)
 have tr1:∀b u,H2 b=some u->∃o,B1.get? b=some o:=fun b u q=>by
  obtain ⟨ob,q1⟩:=tr b u q
  exact ⟨ob,b2 b ob q1 fun z=>by
   have q5:H2 s.heap.objs.size=none:=un.free _ o ho fC (by simp)
   rw [<- z,q] at q5;cases q5⟩
 refine hX pins H' s4 _ _ Ix ⟨s.heap.objs.size,a,cls,a0,fl',H2,B1,I.sz,rfl,os,bare,⟨x1,b3 a k2,x2,x3⟩,HOk.inB hok (fun b ob q=>fl.1 b ob (b1 b ob q).1) x1 tr1,⟨fun b ob q n hb' hx=>?_,fun b ob q n hb' hx=>?_,fun b ob q n _=>un.free b ob q n (by simp),fun b ob q hx=>?_,un.tups,un.frzs,un.tbls⟩,
  fun b ob q n hb' hx=>b2 b ob (hB b ob q n hb') hx,tr1,fun b ob q hb' hx=>?_,hE⟩
 ·exact x1 b ob (b2 b ob (hB b ob q n hb') (by simpa using hx))
 ·obtain ⟨sl,q1⟩:=un.slot b ob q n hb' (by simp)
  obtain ⟨_,o',ho',hd'⟩:=Heap.FunFrames.mem fl.2.2.1 hb'
  have hd2:∀vs,({ ob with slots:=sl }:Obj).data ≠ .fields vs:=by rw [ho'] at q1;cases q1;exact hd'
  obtain ⟨sl',q2⟩:=up b _ q1 hd2
  exact ⟨sl',x4 b _ ((hb.2 b (by simpa using hx)).trans q2) hd2⟩
 ·obtain ⟨o2,q2⟩:=un.there b ob q (by simp)
  by_cases hb':b∈frs X.stack
  ·obtain ⟨_,o',ho',hd'⟩:=Heap.FunFrames.mem fl.2.2.1 hb'
   obtain ⟨sl',q3⟩:=up b _ ho' hd'
   exact ⟨_,x4 b _ ((hb.2 b (by simpa using hx)).trans q3) hd'⟩
  ·obtain ⟨o4,q4⟩:=hT b ob q hb'
   exact ⟨o4,x1 b o4 (b2 b o4 q4 (by simpa using hx))⟩
 ·obtain ⟨o4,q4⟩:=hT b ob q hb'
  exact ⟨o4,b2 b o4 q4 hx⟩
theorem zfl (hstk:∃outer,X.stack=X.env::outer)(hfr:X.env.frame=some X.env.locals)(hc:X.calm=true)(O:CompOk X sc NC slots)(hg:∀j,PG (cxC X sc NC j) tg g)(ht:∀j,PTs (cxC X sc NC j) ifs ti){te:CI->XK->TE}(he:∀j E,PE (cxX X sc NC j E) elt (te j E)){pins:List (Addr×Obj)}{s:Shared}{σ:St}{H:Hp}(I:Inv X pins σ H s)
  {it:Addr} {fp:List Addr} {tn:Nat->Heap->Prop} {J:It} (T:Turn X.prog X.w X.K tg J fp it tn) (st:tn 0 s.heap) (hf:∀b∈fp,FpOk X pins H b) {Q:VK}
  (h:∀D,H D=none->∃(E:XK) (W:Nat->Nat->St->List V->Hp->Prop),(∃m,W 0 m (inn slots σ) [] (upd H D (.lst [])))/\CompRX J D g ti (fun j=>te j E) W (Q (.ref D))/\∀pins H2 s e s',Inv X pins σ H2 s->CXH X H2 s E e s'->X.xe e s') :
  wpAny (model X.prog X.w) X.A (newList []) (fun acc s3=>wpAny (model X.prog X.w) X.A (newFunctionEnv sc X.env.globals (clOf sc X.env) [] X.env.qual none .none (some X.env)) (fun cenv s4 =>
   codeAny (model X.prog X.w) X.A (.compStart (.ListComp elt [⟨tg,iter,ifs,0⟩] sc pos) 0 (.ref it) acc { cenv with scope:=relabel sc X.env }) (compPost (model X.prog X.w) X.A X.xe none (EP X pins σ Q) acc cenv.locals) s4) X.xe s3) X.xe s:=by
 refine wpAny_newObj_type (wpAny_newFunctionEnv O.nocell (by intro y hy;simp at hy) (fun h1 hns1 hsb1=>?_) O.kind)
 dsimp only at hns1 hsb1 ⊢
 have hDn:H s.heap.objs.size=none:=I.hok.fresh (Nat.le_refl _)
 obtain ⟨E,W,⟨m,w0⟩,step,hX⟩:=h s.heap.objs.size hDn
 obtain ⟨s3,hs3⟩:∃x:Shared,x=({ s with heap:=s.heap.push { cls:=.type "list",dict:=none,data:=.seq ([]:List Value).toArray } }:Shared):=⟨_,rfl⟩
 have e3:s3.heap=s.heap.push { cls:=.type "list",dict:=none,data:=.seq ([]:List Value).toArray }:=by rw [hs3]
 rw [<- e3] at hns1 hsb1
 have hp3:∀b o,s.heap.get? b=some o->s3.heap.get? b=some o:=fun b o e=>by
  rw [e3]
  exact Heap.get?_push_of_some _ e
 have I3:Inv X pins σ (upd H s.heap.objs.size (.lst [])) s3:=by
  have q:=I.laid (a:=s.heap.objs.size) (o:=.lst []) (h':=s3.heap) (t':=s.toks) hp3 (Nat.le_refl _) ⟨Nat.zero_le _,[],_,.nil,by rw [e3];exact Heap.get?_push_size _ rfl⟩
  rw [hs3] at q ⊢
  exact q
 have hf3:∀b∈fp,FpOk X pins (upd H s.heap.objs.size (.lst [])) b:=fun b hb=>by
  obtain ⟨o,e,_⟩:=T.obj _ _ st b hb
  refine ⟨?_,(hf b hb).2⟩
  rw [zn (Nat.ne_of_lt (Heap.lt_size e))]
  exact (hf b hb).1
 have st3:tn 0 s3.heap:=T.keep _ _ _ st fun b _ o e=>hp3 b o e
 have hob:∀b∈fp,∃o,s3.heap.get? b=some o:=fun b hb=>by
  obtain ⟨o,e,_⟩:=T.obj _ _ st3 b hb
  exact ⟨o,e⟩
 have hk1:∀b o,s3.heap.get? b=some o->h1.get? b=some o:=fun b o e=>hsb1.extBut b o (Nat.ne_of_lt (Heap.lt_size e)) (Heap.get?_push_of_some _ e)
 have J1:=zdm (t':=s3.toks+([]:List (Str×Value)).length) I3 O hf3 hob hns1 hk1
 have hfc:∀b∈fp,FpOk (cxC X sc NC ⟨s3.heap.objs.size,s3,upd H s.heap.objs.size (.lst []),fp⟩) [] (upd H s.heap.objs.size (.lst [])) b:=fun b hb =>
  ⟨(hf3 b hb).1,(J1.ok.exf b hb).1,J1.ok.exfs b hb,.inl hb,(J1.ok.exf b hb).2,fun p hp=>nomatch hp⟩
 have loop:codeAny (model X.prog X.w) X.A (.compLoop (.ListComp elt [⟨tg,iter,ifs,0⟩] sc pos) 0 (.ref it) (.ref s.heap.objs.size) (cxC X sc NC ⟨s3.heap.objs.size,s3,upd H s.heap.objs.size (.lst []),fp⟩).env) (compPost (model X.prog X.w) X.A X.xe none (EP X pins σ Q) (.ref s.heap.objs.size) s3.heap.objs.size)
   { s3 with heap:=h1,toks:=s3.toks+([]:List (Str×Value)).length }:=by
  refine zhy (E:=E) (te:=fun j=>te j E) (D:=s.heap.objs.size) (Q:=Q (.ref s.heap.objs.size)) hc hg ht (fun j=>he j E) T J1 hfc (T.keep _ _ _ st3 fun b _ o e=>hk1 b o e) w0 step (fun σ' H' s' J' q'=>?_) fun e s' hx=>zhr hstk hfr I3 hf3 hX hx
  obtain ⟨m',hn',_⟩:=J'.loc
  exact ⟨m',hn',fun h2 hb=>⟨.ref s.heap.objs.size,H',zbR I3 hf3 (Nat.le_refl _) J' hb,rfl,q'⟩⟩
 have self:=fun (RQ:Value->Shared->Prop) (EE:Value->Shared->Prop)=>T.self X.A 0 { s3 with heap:=h1,toks:=s3.toks+([]:List (Str×Value)).length } RQ EE (T.keep _ _ _ st3 fun b _ o e=>hk1 b o e)
 subst hs3
 exact codeAny_compStart_list loop (self _ _ loop)
theorem zi5 (hstk:∃outer,X.stack=X.env::outer)(hfr:X.env.frame=some X.env.locals)(hc:X.calm=true)(O:CompOk X sc NC slots){wi:TI}(hi:PI X tg iter wi)(hg:∀j,PG (cxC X sc NC j) tg g)(ht:∀j,PTs (cxC X sc NC j) ifs ti){te:CI->XK->TE}(he:∀j E,PE (cxX X sc NC j E) elt (te j E))
  (hs:∀x,foldedSetIterable iter X.env x=pure x:=by intro _;rfl):PE X (.ListComp elt [⟨tg,iter,ifs,0⟩] sc pos) (tCompX X slots wi g ti te):=by
 intro pins s σ H Q I h
 rw [eval_ListComp]
 refine wpAny_comprehension_free (use:=none) rfl hs (zat (O.cells I.ok)) O.kind O.names (thn (hi pins s σ H _ I h) fun v s1 h1=>thn h1 fun itv s2 h2=>?_)
 obtain ⟨it,fp,tn,J,H2,rfl,I2,T,st2,f2,q2⟩:=h2
 exact zfl hstk hfr hc O hg ht he I2 T st2 f2 q2
end
structure ExcK (K:PySem.W.Frag)(C:Addr):Prop where
 ga:PySem.W.findIn K (.ref C) "__getattribute__"=some (some (.builtin "BaseException.__getattribute__"))
 gh:PySem.W.findIn K (.ref C) "__getattr__"=some none
 cl:PySem.W.findIn K (.ref C) "__class__"=some (some (.builtin "object.__class__"))
 sb:PySem.W.subIn K (.ref C) (.type "BaseException")=some true
 mo:PySem.W.mroIn K C (.type "object")=some true
 ct:∃cd,PySem.W.clsIn K C=some cd
section
variable {pg:Program}{wd:World}{A:Around}{E:Value->Shared->Prop}{h:Heap}{g:Array GenState}{d:Drawn}{t:Nat}{os:OsState}{a C:Addr}{o:Obj}{K:PySem.W.Frag}
theorem zfd {M:Model}{nv:Value}{Q:Unit->Shared->Prop}(X:K.In h)(Z:ExcK K C)(hx:h.get? a=some o)(hc:o.cls=.ref C)(hq:Q () ⟨h,g,d,t,os⟩):wpAny M A (checkBuiltinCall "BaseException.__getattribute__" ⟨[.ref a,nv],[]⟩) Q E ⟨h,g,d,t,os⟩:=by
 have hk:builtinKind "BaseException.__getattribute__"=some .slot:=by decide +kernel
 have hsp:splitId "BaseException.__getattribute__"=some ("BaseException","__getattribute__"):=by decide +kernel
 have ha:=F.args_bexc_ga (.ref a) nv
 have LS:=PySem.W.looks_subIn (M:=M) X Z.sb
 simp only [checkBuiltinCall,hk,hsp]
 refine wpAny_bind ?_
 ·unfold isInstance
  repeat (first|(with_reducible refine wpAny_loadPart_at hx ?_;rw [hc])|with_reducible refine LS.at ?_|wp_step)
  exact hq
theorem zgP {tp:Value}{R:Result->Shared->Prop}(X:K.In h)(Z:ExcK K C)(hx:h.get? a=some o)(hc:o.cls=.ref C)(hq:R (.ok (.ret (.ref C))) ⟨h,g,d,t,os⟩) :
  codeAny (model pg wd) A (.call (.builtin "getset_descriptor.__get__") ⟨[.builtin "object.__class__",.ref a,tp],[]⟩) R ⟨h,g,d,t,os⟩:=by
 have L0:PySem.W.Looks (model pg wd) h (typeOf (.ref a)) (.ref C):=hc ▸ (PySem.W.Looks.ld hx).andThen .now
 have L1:=PySem.W.looks_mroIn (M:=model pg wd) X Z.mo
 refine codeAny_call_builtin PySem.W.KF.slot_gs.plain PySem.W.KF.entry_gs (PySem.W.KF.slot_gs.check _ _ _ _ _ _ _ _ PySem.W.KF.type_class (PySem.W.KF.args_gs _ _ _) ?_)
 (unfold Builtin.«getset_descriptor.__get__» Builtin.Getset_descriptor.descrGet);rw [PySem.W.dga_obj]
 refine wpAny_bind (wpAny_pure ?_);(unfold Builtin.Getset_descriptor.descrGetter Builtin.Getset_descriptor.descrCheckInstance Builtin.Getset_descriptor.descrNameAndClass isInstance)
 simp only [PySem.W.KF.owner_class];repeat lk
 refine ⟨Code.quiet_builtin _ (by decide +kernel),codeAny_builtin PySem.W.KF.entry_class ?_⟩
 (unfold Builtin.«object.__class__» shownTypeOf);repeat lk
 exact hq
theorem ze0 {tk:Tok}{Q:Fin->Shared->Prop}(X:K.In h)(Z:ExcK K C)(hx:h.get? a=some o)(hc:o.cls=.ref C)(hq:Q (.done (.ret (.ref C))) ⟨h,g,d,t,os⟩) :
  wpAny (model pg wd) A (Builtin.«object.__getattribute__» ⟨[.ref a,.str "__class__" tk],[]⟩) Q E ⟨h,g,d,t,os⟩:=by
 have hT5:(⟨h,g,d,t,os⟩:Shared).TypeIs (.builtin "object.__class__") "getset_descriptor":=F.typeOf_object_class
 have f5:=F.typeOf_object_class
 have f6:=F.slot_gs_get.lookup
 have f7:=F.slot_gs_set.lookup
 have L3:=PySem.W.looks_findIn (M:=model pg wd) X Z.cl
 repeat (any_goals (first|assumption|(with_reducible refine wpAny_loadPart_at hx ?_;rw [hc])|with_reducible refine L3.at ?_|wp_step))
 refine zgP X Z hx hc ?_
 repeat (any_goals (first|assumption|wp_step))
theorem zgo {tk:Tok}{R:Result->Shared->Prop}{Bn:String}(ga:Slot Bn "__getattribute__" "BaseException.__getattribute__")(X:K.In h)(Z:ExcK K C)(hx:h.get? a=some o)(hc:o.cls=.ref C)(hq:R (.ok (.ret (.ref C))) ⟨h,g,d,t,os⟩) :
  codeAny (model pg wd) A (.call (.builtin "BaseException.__getattribute__") ⟨[.ref a,.str "__class__" tk],[]⟩) R ⟨h,g,d,t,os⟩ :=
 codeAny_call_builtin ga.plain F.entry_bexc_ga (zfd X Z hx hc (ze0 X Z hx hc hq))
theorem ziv {tk:Tok}{Q:Value->Shared->Prop}{Bn:String}(ga:Slot Bn "__getattribute__" "BaseException.__getattribute__")(X:K.In h)(Z:ExcK K C)(hx:h.get? a=some o)(hc:o.cls=.ref C)(hq:Q (.ref C) ⟨h,g,d,t,os⟩) :
  wpAny (model pg wd) A (getAttrBy (.ref a) (.str "__class__" tk) false) Q E ⟨h,g,d,t,os⟩:=by
 have f3:=ga.bind (.ref a)
 have hx2:(Value.builtin "BaseException.__getattribute__" == Value.builtin "object.__getattribute__")=false:=by decide +kernel
 have hx1:(onTheHeap (Value.ref C) && Value.builtin "BaseException.__getattribute__" == Value.builtin "object.__getattribute__")=false:=by rw [hx2];rfl
 have L1:=PySem.W.looks_findIn (M:=model pg wd) X Z.ga
 have L2:=PySem.W.looks_findIn (M:=model pg wd) X Z.gh
 repeat (any_goals (first|assumption|(with_reducible refine wpAny_loadPart_at hx ?_;rw [hc])|with_reducible refine L1.at ?_|with_reducible refine L2.at ?_|wp_step))
 refine zgo ga X Z hx hc ?_
 repeat (any_goals (first|assumption|wp_step))
theorem zfj {Q:Option Value->Shared->Prop}{Bn:String}(ga:Slot Bn "__getattribute__" "BaseException.__getattribute__")(X:K.In h)(Z:ExcK K C)(hx:h.get? a=some o)(hc:o.cls=.ref C)(hq:Q (some (.ref C)) ⟨h,g,d,t+1,os⟩) :
  wpAny (model pg wd) A (getAttr? (.ref a) "__class__") Q E ⟨h,g,d,t,os⟩:=by
 unfold getAttr? getAttrBy?
 repeat (any_goals (first|assumption|with_reducible apply ziv ga X Z hx hc|wp_step))
end
def ExcO (a C:Addr):Heap->Prop:=fun h=>∃o,h.get? a=some o/\o.cls=.ref C
theorem ExcO.keep {a C:Addr}{h1 h2:Heap}(x:ExcO a C h1)(k:∀o,h1.get? a=some o->h2.get? a=some o):ExcO a C h2:=by
 obtain ⟨o,h,c⟩:=x
 exact ⟨o,k o h,c⟩
theorem zfK {K:PySem.W.Frag}{a C:Addr}(Z:ExcK K C){Bn:String}(ga:Slot Bn "__getattribute__" "BaseException.__getattribute__"):PySem.W.KitX K (.ref a) (.ref C) (ExcO a C) where
 ty:=fun M h X p=>by
  obtain ⟨o,hx,hc⟩:=p
  exact hc ▸ (PySem.W.Looks.ld hx).andThen .now
 it:=fun M h X p=>by
  obtain ⟨cd,hcd⟩:=Z.ct
  unfold PySem.W.clsIn at hcd
  split at hcd
  ·rename_i c' d' cd' sl' ho
   intro A' Q' E' s' k q
   unfold isType loadHead
   exact wpAny_bind (wpAny_loadPart (k _ _ (X _ _ ho)) (wpAny_pure q))
  ·cases hcd
 ne:=fun h tp dd its n sl X htp=>by
  obtain ⟨cd,hcd⟩:=Z.ct
  refine Bool.eq_false_iff.mpr fun q=>?_
  have e:C=tp:=Value.ref.inj (beq_iff_eq.mp q)
  subst e
  unfold PySem.W.clsIn at hcd
  split at hcd
  ·rename_i c' d' cd' sl' ho
   have z:=(X _ _ ho).symm.trans htp
   cases z
  ·cases hcd
 ca:=fun {pg wd A E Q s} X p k=>by
  obtain ⟨o,hx,hc⟩:=p
  obtain ⟨h,g,d,t,os⟩:=s
  exact zfj ga X Z hx hc k
section
variable {X:Cx}
end
section
variable {X:Cx}{pins:List (Addr×Obj)}{σ:St}{H:Hp}{s:Shared}
theorem Inv.track {a:Addr}{o:HO}(I:Inv X pins σ H s)(hn:H a=none)(h0:∀ob,X.s₀.heap.get? a≠some ob)(hL:a≠X.env.locals)(hc:∀x c,X.env.cells.lookup x=some c->c≠a)(hp:∀p∈X.pn++pins,p.1≠a)
  (new:ObjOk X.prog X.w (upd H a o) s.heap a o):Inv X pins σ (upd H a o) s:=by
 refine ⟨I.ok,I.os,I.bare,⟨I.base.keep,I.base.slot,fun b u e n hx=>?_,I.base.there,fun b xs e=>?_,fun b u v e=>?_,fun b ps e=>?_⟩,I.loc,I.cell,?_,fun x c e=>?_,fun p hq=>?_,fun b u e=>?_,I.len⟩
 ·rw [zn (fun z:b=a=>h0 u (z ▸ e))]
  exact I.base.free b u e n hx
 ·have q:=I.base.tups b xs e
  rw [zn (zr q hn)]
  exact q
 ·have q:=I.base.frzs b u v e
  rw [zn (zr q hn)]
  exact q
 ·obtain ⟨m,q⟩:=I.base.tbls b ps e
  refine ⟨m,?_⟩
  rw [zn (zr q hn)]
  exact q
 ·rw [zn (Ne.symm hL)]
  exact I.free
 ·rw [zn (hc x c e)]
  exact I.freeC x c e
 ·obtain ⟨q1,q2,q3⟩:=I.pin p hq
  refine ⟨q1,?_,q3⟩
  rw [zn (hp p hq)]
  exact q2
 ·by_cases hb:b=a
  ·subst hb
   rw [zE] at e
   cases e
   exact new
  ·rw [zn hb] at e
   exact (I.hok b u e).stay (fun _ _ _ q=>q) (fun c q=>by rw [zn (zr q hn)];exact q) fun c xs q=>by rw [zn (zr q hn)];exact q
theorem Inv.back {s1:Shared}{h:Heap}{H':Hp}{B:Heap}{a:Addr}{cls a0:Value}{t':Nat}(I:Inv X pins σ H s)(os:s1.os=s.os)(bare:AllBare s1.gens)(fl:Heap.FlyingW B X.stack a cls a0 s1.heap)(hok:HOk X.prog X.w H' s1.heap)(un:Un (frs X.stack) [] H H' s.heap s1.heap)
  (hB:∀b o,s.heap.get? b=some o->H b=none->b∉frs X.stack->B.get? b=some o) (tr:∀b u,H' b=some u->∃o,B.get? b=some o) (hT:∀b o,s.heap.get? b=some o->b∉frs X.stack->∃o',B.get? b=some o') (st:B.StaysIn h) (up:s1.heap.UpToSlots h) :
  Inv X pins σ H' { s1 with heap:=h,toks:=t' }:=by
 refine I.call' (ch:=[]) (s':={ s1 with heap:=h,toks:=t' }) os ⟨fun b o q n hb _=>st b o (hB b o q n hb),fun b o q n hb _=>?_,un.free,fun b o q _=>?_,un.tups,un.frzs,un.tbls⟩ (HOk.inB hok fl.1 st tr) bare (fun b z=>absurd z (by simp))
 ·obtain ⟨sl,q1⟩:=un.slot b o q n hb (by simp)
  obtain ⟨_,o',ho',hd⟩:=Heap.FunFrames.mem fl.2.2.1 hb
  obtain ⟨sl',q2⟩:=up b _ q1 (by rw [ho'] at q1;cases q1;exact hd)
  exact ⟨sl',q2⟩
 ·by_cases hb:b∈frs X.stack
  ·obtain ⟨_,o',ho',hd⟩:=Heap.FunFrames.mem fl.2.2.1 hb
   obtain ⟨sl',q2⟩:=up b _ ho' hd
   exact ⟨_,q2⟩
  ·obtain ⟨o',q1⟩:=hT b o q hb
   exact ⟨o',st b o' q1⟩
end
abbrev cxP (X:Cx)(pn:List (Addr×Obj)):Cx:={ X with pn:=pn }
abbrev cxS (X:Cx)(pn:List (Addr×Obj))(a:Addr):Cx:={ X with A:=X.A.mark (some (.ref a)),calm:=false,pn:=pn,xe:=No }
section
variable {X:Cx}{pins:List (Addr×Obj)}{σ:St}{H:Hp}{s:Shared}
theorem Cx.Ok.pn (ok:X.Ok)(pn:List (Addr×Obj)):(cxP X pn).Ok:=⟨ok.mod,ok.kind,ok.glob,ok.blt,ok.above,ok.inj,ok.has,ok.cab,ok.hd,ok.frames,ok.stk,ok.exf,ok.bs,ok.bsz,ok.noex,ok.exfs,ok.funs,ok.frf⟩
theorem Cx.Ok.suite (ok:X.Ok)(pn:List (Addr×Obj))(a:Addr):(cxS X pn a).Ok:=⟨ok.mod,ok.kind,ok.glob,ok.blt,ok.above,ok.inj,ok.has,ok.cab,(fun z=>nomatch z),ok.frames,ok.stk,ok.exf,ok.bs,ok.bsz,ok.noex,ok.exfs,ok.funs,ok.frf⟩
theorem Inv.toP (I:Inv X pins σ H s):Inv (cxP X (X.pn++pins)) [] σ H s:=⟨I.ok.pn _,I.os,I.bare,I.base,I.loc,I.cell,I.free,I.freeC,fun p hp=>I.pin p (by simpa using hp),I.hok,I.len⟩
theorem Inv.ofP (ok:X.Ok){pl:List (Addr×Obj)}(I:Inv (cxP X (X.pn++pins)) pl σ H s):Inv X pins σ H s:=⟨ok,I.os,I.bare,I.base,I.loc,I.cell,I.free,I.freeC,fun p hp=>I.pin p (List.mem_append_left _ hp),I.hok,I.len⟩
theorem Inv.toS (I:Inv (cxP X (X.pn++pins)) [] σ H s)(a:Addr):Inv (cxS X (X.pn++pins) a) [] σ H s:=⟨Cx.Ok.suite (X:=X) ⟨I.ok.mod,I.ok.kind,I.ok.glob,I.ok.blt,I.ok.above,I.ok.inj,I.ok.has,I.ok.cab,I.ok.hd,I.ok.frames,I.ok.stk,I.ok.exf,I.ok.bs,I.ok.bsz,I.ok.noex,I.ok.exfs,I.ok.funs,I.ok.frf⟩ _ a,I.os,I.bare,I.base,I.loc,I.cell,I.free,I.freeC,I.pin,I.hok,I.len⟩
theorem Inv.ofS (ok:X.Ok){a:Addr}{pl:List (Addr×Obj)}(I:Inv (cxS X (X.pn++pins) a) pl σ H s):Inv X pins σ H s:=⟨ok,I.os,I.bare,I.base,I.loc,I.cell,I.free,I.freeC,fun p hp=>I.pin p (List.mem_append_left _ hp),I.hok,I.len⟩
end
section
variable {X:Cx}{body suite:List Stmt}{b₀:Stmt}{x n:Str}{np hpos pos:Pos}{tb:XK->TS}{ts:TS}{W:Addr}{i:Nat}
end
section
variable {P:Program}{w:World}{K:PySem.W.Frag}{mg:Str->Option Value}{base:Heap}
end
section
variable {X:Cx}{k:Nat}{f:Addr}{fd:FuncData}{ps:List Str}{sp:Sp}{x:Str}{p pos:Pos}{e:Expr}{es:List Expr}{t:TA}
end
section
variable {P:Program}{w:World}{K:PySem.W.Frag}{mg:Str->Option Value}{base:Heap}
theorem Fun.okX {x qual:Str}{st:Stmt}{f:Addr}{fd:FuncData}{N ps:List Str}{k:Nat}{sp:Sp}(F:Fun K x qual st f fd)(S:FnScope N ps (defScope st))(len:∀vs H Q E,sp vs H Q E->vs.length=ps.length)
  (body:∀(cdv:Value) (A:Around) (outer:List Env) (s:Shared) (H:Hp) (vs:List V) (Q:VK) (E:XK),Room k (A.deeper (envOfC qual (defScope st) s.heap.objs.size f cdv))->sp vs H Q E ->
   ∃t,PSs (cxOf (CX1 P w) P w K mg base N qual (defScope st) f cdv A outer s H E) (defBody st) t/\t { nx:=fun _ H'=>Q .non H',rt:=Q } (start N vs) H):FnOk P w K mg base (CX1 P w) (k+1) f fd ps sp:=by
 obtain ⟨oc,od,kV,doc,pm,an,cdv,ct,osl,rfl,lk,hcd⟩:=F.ex
 exact zmI lk hcd S len fun A outer s H vs Q E hr hsp=>body cdv A outer s H vs Q E hr hsp
theorem own1 {N:List Str}{qual:Str}{scope:Scope}{f:Addr}{cd:Value}{A:Around}{outer:List Env}{s:Shared}{H:Hp}{E:XK}{CX:CXT} :
  PassesOwn (model (cxOf CX P w K mg base N qual scope f cd A outer s H E).prog (cxOf CX P w K mg base N qual scope f cd A outer s H E).w) (cxOf CX P w K mg base N qual scope f cd A outer s H E).A (cxOf CX P w K mg base N qual scope f cd A outer s H E).env (cxOf CX P w K mg base N qual scope f cd A outer s H E).xe :=
 PassesOwn.leaving
theorem zT {C:Addr}(h:PySem.W.isClsIn K C=true):∃cd,PySem.W.clsIn K C=some cd:=Option.isSome_iff_exists.mp h
theorem ownX {x:Str}{C:Addr}{ts:List Value}{nid:String}{h:Heap}(X:K.In h)(b:mg x=some (.ref C))(q:PySem.W.excIn K C ts nid=true):OwnCls x C ts nid mg h:=by
 constructor
 ·exact b
 ·revert q
  unfold PySem.W.excIn
  cases hl:K.lookup C with
  |none=>intro q;cases q
  |some o =>
   intro q
   split at q
   ·rename_i dd cd sl ho
    split at q
    ·rename_i C' bm k0 k1 k2 k3 n k5 hm hs
     simp only [Bool.and_eq_true,beq_iff_eq,Bool.not_eq_true'] at q
     rcases q with ⟨⟨⟨⟨⟨r1,r2⟩,r3⟩,r4⟩,r5⟩,r6⟩
     subst r1 r2
     rcases cd with ⟨nm,bs,mro,ns,qn,hd,sn,sub,ab,col,del⟩
     dsimp only at hm r3 r5 r6
     subst hm r3
     rcases sl with ⟨l⟩
     simp only at hs
     subst hs
     cases ho
     exact ⟨bm,ns,nm,qn,bs,hd,sn,sub,ab,col,_,k0,k1,k2,k3,k5,_,X _ _ hl,.of_isNs (PySem.W.isNs_of_in X r5),PySem.W.nsMap_none_of_in X r5 r6,PySem.W.tail_of_in X r4⟩
    ·cases q
   ·cases q
end
def isB (k:Bool):Value->Bool
 | .bool b=>b == k
 |_=>false
section
variable {X:Cx}
end
def cxK (X:Cx)(sc:Scope)(NC:List Str)(x0:Str)(j:CI):Cx where
 prog:=X.prog
 w:=X.w
 K:=X.K
 mg:=X.mg
 base:=X.base
 A:=X.A
 N:=NC
 s₀:=j.s
 H₀:=j.H
 env:=compEnvC sc ((x0,j.C+1)::clOf sc X.env) j.C X.env
 outer:=X.stack
 stack:=X.stack
 ex:=j.fp
 fn:=fun x=>x == x0
 calm:=X.calm
 pn:=[]
 xe:=No
structure CompOkK (X:Cx)(sc:Scope)(NC:List Str)(slots:List (Option Nat))(x0:Str):Prop where
 kind:sc.kind=.function
 names:∀y∈sc.names,y.2=.local->sc.names.lookup y.1=some .local
 own:∀y∈sc.names,y.2=.cell->y.1=x0
 own2:∀y∈sc.names,y.2=.free->(y.1 == x0)=false
 cf:∀n acc,cellsFrom n sc.names acc=(x0,n)::acc
 pc:∀h,pushCells h sc.names=h.push { cls:=.type "cell",data:=.cell none }
 free:∀y∈sc.names,y.2=.free->X.env.scope.names.lookup y.1=some .cell
 slot:∀(i:Nat) (x:Str) (j:Nat),NC[i]?=some x->slots[i]?=some (some j)->X.N[j]?=some x/\sc.names.lookup x=some .free
 len:slots.length=NC.length
theorem compOkK {X:Cx}{sc:Scope}{NC:List Str}{slots:List (Option Nat)}{x0:Str}(N:List Str)(so:Scope)(hN:X.N=N)(hs:X.env.scope=so)(kind:sc.kind=.function)
  (names:∀y∈sc.names,y.2=.local->sc.names.lookup y.1=some .local) (own:∀y∈sc.names,y.2=.cell->y.1=x0) (own2:∀y∈sc.names,y.2=.free->(y.1 == x0)=false) (cf:∀n acc,cellsFrom n sc.names acc=(x0,n)::acc) (pc:∀h,pushCells h sc.names=h.push { cls:=.type "cell",data:=.cell none }) (free:∀y∈sc.names,y.2=.free->so.names.lookup y.1=some .cell)
  (slot:∀p∈NC.zip slots,(p.2.all fun j=>decide (N[j]?=some p.1/\sc.names.lookup p.1=some .free))=true) (len:slots.length=NC.length):CompOkK X sc NC slots x0:=by
 subst hN hs
 refine ⟨kind,names,own,own2,cf,pc,free,fun i x j e1 e2=>?_,len⟩
 have hm:(x,some j)∈NC.zip slots:=List.mem_of_getElem? (i:=i) (by rw [List.getElem?_zip_eq_some];exact ⟨e1,e2⟩)
 have:=slot _ hm
 simpa using this
theorem ziB {M:Model}{A:Around}{E:Value->Shared->Prop}{s:Shared}{scope:Scope}{globals:Addr}{closure:List (Str×Addr)}{qual:Str}{func:Option Addr}{code:Value}{outer:Env}{builtins:Addr}{x0:Str}{Q:Env->Shared->Prop}
  (cf:∀n acc,cellsFrom n scope.names acc=(x0,n)::acc) (pc:∀h,pushCells h scope.names=h.push { cls:=.type "cell",data:=.cell none })
  (hQ:∀h',h'.Ns s.heap.objs.size (fun _=>none)->(∀b o,s.heap.get? b=some o->h'.get? b=some o)->h'.IsCell (s.heap.objs.size+1) none->Q (newEnv scope s.heap.objs.size globals ((x0,s.heap.objs.size+1)::closure) qual func code (some outer) builtins) { s with heap:=h' }) :
  wpAny M A (newFunctionEnv scope globals closure [] qual func code (some outer) builtins) Q E s:=by
 simp only [newFunctionEnv,Option.isSome_some,if_true]
 refine wpAny_bind (wpAny_alloc ?_)
 refine wpAny_bind (wpAny_layCells _ (fun name kind cells=>by cases hkc:kind == NameKind.cell <;> simp [hkc]) _ _ _ _ ?_)
 rw [cf,pc]
 have e:({ s with heap:=s.heap.push { cls:=.type "dict",data:=.dict #[] } }:Shared).heap.objs.size=s.heap.objs.size+1:=Heap.size_push ..
 rw [e]
 refine wpAny_bind ?_
 rw [List.forIn_nil]
 refine wpAny_pure (wpAny_pure (hQ _ ?_ (fun b o q=>Heap.get?_push_of_some _ (Heap.get?_push_of_some _ q)) ?_))
 ·exact (Heap.Ns.new s.heap (.type "dict")).keeps fun b o q=>Heap.get?_push_of_some _ q
 ·exact ⟨_,by rw [<- e];exact Heap.get?_push_size _ rfl,rfl⟩
section
variable {X:Cx}{sc:Scope}{NC:List Str}{slots:List (Option Nat)}{x0:Str}{pins:List (Addr×Obj)}{σ:St}{H:Hp}{s:Shared}
theorem CompOkK.cells (O:CompOkK X sc NC slots x0)(ok:X.Ok):∀y∈sc.names,y.2=.free->∃c,X.env.cells.lookup y.1=some c:=fun y hy hk=>ok.has y.1 (.inl (O.free y hy hk))
theorem CompOkK.sub (O:CompOkK X sc NC slots x0)(ok:X.Ok):∀x c,(clOf sc X.env).lookup x=some c->X.env.cells.lookup x=some c:=zbL sc.names [] (O.cells ok) fun _ _ e=>nomatch e
theorem CompOkK.rel (O:CompOkK X sc NC slots x0)(ok:X.Ok){x:Str}(h:sc.names.lookup x=some .free):(relabel sc X.env).names.lookup x=some .cell:=by
 rw [zaD,h]
 have e:X.env.kindOf x=some .cell:=O.free _ (mem_of_lookup h) rfl
 simp [relK,ok.kind,e]
theorem ze3 (I:Inv X pins σ H s)(O:CompOkK X sc NC slots x0){fp:List Addr}(hf:∀b∈fp,FpOk X pins H b)(hob:∀b∈fp,∃o,s.heap.get? b=some o){h1:Heap}{t':Nat}{m:Str->Option Value}(hns:h1.Ns s.heap.objs.size m)
  (hk:∀b o,s.heap.get? b=some o->h1.get? b=some o) (hcell:h1.IsCell (s.heap.objs.size+1) none):Inv (cxK X sc NC x0 ⟨s.heap.objs.size,s,H,fp⟩) [] (inn slots σ) H { s with heap:=h1,toks:=t' }:=by
 have sub:=O.sub I.ok
 have fss:∀b,b≠X.env.locals->b∉X.fs->b∉frs X.stack:=fun b h1 h2 hb=>(List.mem_cons.mp (I.stkSub b hb)).elim h1 h2
 have ltC:∀x c,(clOf sc X.env).lookup x=some c->c<s.heap.objs.size:=fun x c e=>by
  obtain ⟨v,q⟩:=I.cell x c (sub x c e)
  exact q.lt
 have two:∀x c,((x0,s.heap.objs.size+1)::clOf sc X.env).lookup x=some c->(x=x0/\c=s.heap.objs.size+1) \/ ((x == x0)=false/\(clOf sc X.env).lookup x=some c):=fun x c e=>by
  rw [List.lookup_cons] at e
  cases q:x == x0 with
  |true =>
   rw [q] at e
   cases e
   exact .inl ⟨eq_of_beq q,rfl⟩
  |false =>
   rw [q] at e
   exact .inr ⟨rfl,e⟩
 refine ⟨⟨I.ok.mod,O.kind,I.ok.glob,I.ok.blt,Nat.le_refl _,fun x y c e1 e2=>?_,fun x hx=>?_,fun x c z e=>?_,I.ok.hd,I.ok.frames,.inl rfl,fun b hb=>⟨?_,fun x c e=>?_⟩,I.bs,Nat.le_trans I.ok.bsz I.sz,fun b o e hb=>?_,fun b hb=>fss b (hf b hb).2.1 (hf b hb).2.2.1,I.stack,I.stkFree⟩,
  rfl,I.bare,Un.kept hk,⟨m,hns,fun i x v e1 e2 e3=>?_⟩,fun x c e=>?_,I.hok.fresh (Nat.le_refl _),fun x c e=>?_,fun p hp=>(nomatch hp),I.hok.kept hk,?_⟩
 ·rcases two x c e1 with ⟨rfl,rfl⟩|⟨_,q1⟩
  ·rcases two y _ e2 with ⟨rfl,_⟩|⟨_,q2⟩
   ·rfl
   ·exact absurd (Nat.lt_trans (Nat.lt_succ_self _) (ltC _ _ q2)) (Nat.lt_irrefl _)
  ·rcases two y c e2 with ⟨rfl,rfl⟩|⟨_,q2⟩
   ·exact absurd (Nat.lt_trans (Nat.lt_succ_self _) (ltC _ _ q1)) (Nat.lt_irrefl _)
   ·exact I.ok.inj x y c (sub x c q1) (sub y c q2)
 ·have hx':(relabel sc X.env).names.lookup x=some .cell \/ (relabel sc X.env).names.lookup x=some .free:=hx
  show ∃c,((x0,s.heap.objs.size+1)::clOf sc X.env).lookup x=some c
  rw [List.lookup_cons]
  cases qx:x == x0 with
  |true=>exact ⟨_,rfl⟩
  |false =>
  rw [zaD] at hx'
  cases q:sc.names.lookup x with
  |none =>
   rw [q] at hx'
   rcases hx' with z|z <;> cases z
  |some k =>
   have hm:=mem_of_lookup q
   have hkf:k=.free:=by
    rw [q] at hx'
    by_cases hk:k=.free
    ·exact hk
    ·exfalso
     have hb:(k == NameKind.free)=false:=by simpa using hk
     rcases hx' with z|z
     ·simp [relK,hb] at z
      have:=O.own _ hm z
      have e:x=x0:=this
      rw [e] at qx
      simp at qx
     ·simp [relK,hb] at z
      exact hk z
   subst hkf
   exact zaz sc.names [] _ hm rfl
 ·have e0:x=x0:=eq_of_beq z
  rcases two x c e with ⟨_,rfl⟩|⟨q,_⟩
  ·exact Nat.le_succ _
  ·rw [e0] at q;simp at q
 ·obtain ⟨o,e⟩:=hob b hb
  exact Nat.ne_of_lt (Heap.lt_size e)
 ·rcases two x c e with ⟨_,rfl⟩|⟨_,q⟩
  ·obtain ⟨o,e⟩:=hob b hb
   exact Nat.ne_of_gt (Nat.lt_succ_of_lt (Heap.lt_size e))
  ·exact (hf b hb).2.2.2.2.1 x c (sub x c q)
 ·rcases (hf b hb).2.2.2.1 with z|z
  ·exact I.ok.noex b o e z
  ·exact absurd (Nat.lt_of_lt_of_le (Heap.lt_size e) (Nat.le_trans I.ok.bsz z)) (Nat.lt_irrefl _)
 ·obtain ⟨j,e4,e5⟩:∃j,slots[i]?=some (some j)/\σ[j]?=some (some v):=by
   have e2':(slots.map fun o=>o.bind fun j=>(σ[j]?).join)[i]?=some (some v):=e2
   rw [List.getElem?_map] at e2'
   cases q:slots[i]? with
   |none =>
    rw [q] at e2'
    cases e2'
   |some o =>
    rw [q] at e2'
    cases o with
    |none=>cases e2'
    |some j =>
     refine ⟨j,rfl,?_⟩
     have e6:(σ[j]?).join=some v:=Option.some.inj e2'
     cases q2:σ[j]? with
     |none =>
      rw [q2] at e6
      cases e6
     |some w =>
      rw [q2] at e6
      have e7:w=some v:=e6
      rw [e7]
  obtain ⟨e6,e7⟩:=O.slot i x j e1 e4
  have kc:X.env.scope.names.lookup x=some .cell:=O.free _ (mem_of_lookup e7) rfl
  obtain ⟨m0,hn0,hl⟩:=I.loc
  obtain ⟨u,r,lk⟩:=hl j x v e6 e5 (.inr (.inl kc))
  refine ⟨u,r,.inr ⟨.inl (O.rel I.ok e7),?_⟩⟩
  rcases lk with ⟨z,_⟩|⟨_,c,hc,o,ho,hd⟩
  ·rw [show X.env.kindOf x=some .cell from kc] at z
   cases z
  ·obtain ⟨c',hc'⟩:=zaz (env:=X.env) sc.names [] _ (mem_of_lookup e7) rfl
   have e8:c'=c:=Option.some.inj ((sub x c' hc').symm.trans hc)
   subst e8
   refine ⟨c',?_,o,hk _ _ ho,hd⟩
   show ((x0,s.heap.objs.size+1)::clOf sc X.env).lookup x=some c'
   rw [List.lookup_cons,O.own2 _ (mem_of_lookup e7) rfl]
   exact hc'
 ·rcases two x c e with ⟨_,rfl⟩|⟨_,q⟩
  ·exact ⟨none,hcell⟩
  ·obtain ⟨v,o,ho,hd⟩:=I.cell x c (sub x c q)
   exact ⟨v,o,hk _ _ ho,hd⟩
 ·rcases two x c e with ⟨_,rfl⟩|⟨_,q⟩
  ·exact I.hok.fresh (Nat.le_succ _)
  ·exact I.freeC x c (sub x c q)
 ·show (slots.map fun o=>o.bind fun j=>(σ[j]?).join).length=NC.length
  rw [List.length_map,O.len]
theorem zfo (I:Inv X pins σ H s){fp:List Addr}(hf:∀b∈fp,FpOk X pins H b){C:Addr}(hC:s.heap.objs.size<=C){pl:List (Addr×Obj)}{σ':St}{H':Hp}{s':Shared}(J:Inv (cxK X sc NC x0 ⟨C,s,H,fp⟩) pl σ' H' s')
  {h2:Heap} (hb:Heap.SameBut C s'.heap h2):Inv X pins σ H' { s' with heap:=h2 }:=by
 have nC:∀b o,s.heap.get? b=some o->b≠C:=fun b o e=>Nat.ne_of_lt (Nat.lt_of_lt_of_le (Heap.lt_size e) hC)
 have B:Un (frs X.stack) fp H H' s.heap s'.heap:=J.base
 have fC:H' C=none:=J.free
 refine I.call' (ch:=fp) J.os ⟨fun b o e n h3 h4=>(hb.2 b (nC b o e)).trans (B.keep b o e n h3 h4),fun b o e n h3 h4=>?_,B.free,fun b o e h4=>?_,B.tups,B.frzs,B.tbls⟩ (fun b u e=>?_) J.bare fun b h3=>⟨(hf b h3).2.2.2.1,(hf b h3).2.1,(hf b h3).2.2.2.2.1,(hf b h3).2.2.2.2.2⟩
 ·obtain ⟨sl,q⟩:=B.slot b o e n h3 h4
  exact ⟨sl,(hb.2 b (nC b o e)).trans q⟩
 ·obtain ⟨o',q⟩:=B.there b o e h4
  exact ⟨o',(hb.2 b (nC b o e)).trans q⟩
 ·refine (J.hok b u e).stay (fun c v hc q=>(hb.2 c fun z=>?_).trans q) (fun _ q=>q) fun _ _ q=>q
  subst z
  rcases hc with z|z
  ·rw [z,e] at fC
   cases fC
  ·rw [z] at fC
   cases fC
end
section
variable {X:Cx}{sc:Scope}{NC:List Str}{slots:List (Option Nat)}{x0:Str}{elt tg iter:Expr}{ifs:List Expr}{pos:Pos}{g:TG}{ti:TT}{te:TE}
theorem zhi (hc:X.calm=true)(hg:∀j,PG (cxK X sc NC x0 j) tg g)(ht:∀j,PTs (cxK X sc NC x0 j) ifs ti)(he:∀j,PE (cxK X sc NC x0 j) elt te){cj:CI}{it D:Addr}{tn:Nat->Heap->Prop}{J:It}
  {W:Nat->Nat->St->List V->Hp->Prop} {Q:Hp->Prop} {R:Result->Shared->Prop} {s:Shared} {σc:St} {ys:List V} {H:Hp} (T:Turn X.prog X.w X.K tg J cj.fp it tn)
  (I:Inv (cxK X sc NC x0 cj) [] σc H s) (hf:∀b∈cj.fp,FpOk (cxK X sc NC x0 cj) [] H b) (st:tn 0 s.heap) {m:Nat} (w0:W 0 m σc ys H) (step:CompR J D g ti te W Q)
  (fin:∀σ' H' s',Inv (cxK X sc NC x0 cj) [] σ' H' s'->Q H'->R (.ok .next) s') :
  codeAny (model X.prog X.w) X.A (.compLoop (.ListComp elt [⟨tg,iter,ifs,0⟩] sc pos) 0 (.ref it) (.ref D) (cxK X sc NC x0 cj).env) R s:=by
 have stat:∀{H':Hp},(∀b∈cj.fp,H' b=none)->∀b∈cj.fp,FpOk (cxK X sc NC x0 cj) [] H' b:=fun hn b hb=>⟨hn b hb,(hf b hb).2⟩
 refine zeK (fun n s'=>∃i σ' ys' H',Inv (cxK X sc NC x0 cj) [] σ' H' s'/\tn i s'.heap/\(∀b∈cj.fp,H' b=none)/\W i n σ' ys' H') ?_ m ⟨0,σc,ys,H,I,st,fun b hb=>(hf b hb).1,w0⟩
 rintro n s3 ⟨i,σ3,ys3,H3,I3,st3,fr3,w3⟩
 obtain ⟨hD,q⟩:=step i n σ3 ys3 H3 w3
 rcases q with ⟨stop,qn⟩|⟨go,hz,N,hN,turn⟩
 ·refine thn (T.done (cxK X sc NC x0 cj) rfl rfl rfl hc i [] s3 σ3 H3 No I3 (stat fr3) st3 stop) fun r s4 ⟨hr,I4⟩=>?_
  subst hr
  exact fin σ3 H3 s4 I4 qn
 ·refine thn (T.item (cxK X sc NC x0 cj) rfl rfl rfl hc i [] s3 σ3 H3 No I3 (stat fr3) st3 go) fun r s4 ⟨u,hr,h4⟩=>?_
  subst hr
  refine thn h4 fun _ s5 ⟨x,H5,I5,r5,y5,st5,fr5⟩=>?_
  have I5':=I5.pinned (stat fr5) (T.obj _ _ st5)
  refine thn (hg cj _ s5 σ3 H5 x u _ I5' r5 (turn x H5 y5)) fun _ s6 ⟨σ6,H6,I6,q6⟩=>?_
  refine thn (ht cj _ s6 σ6 H6 _ I6 q6) fun ok s7 ⟨H7,I7,q7⟩=>?_
  have again:∀{σ8:St} {ys8:List V} {H8:Hp} {s8:Shared},Inv (cxK X sc NC x0 cj) ([]++pinsAt cj.fp s5.heap) σ8 H8 s8->N σ8 ys8 H8->∃m,m<n/\∃i σ' ys' H',Inv (cxK X sc NC x0 cj) [] σ' H' s8/\tn i s8.heap/\(∀b∈cj.fp,H' b=none)/\W i m σ' ys' H':=fun {σ8 ys8 H8 s8} I8 n8=>by
   obtain ⟨m',hm,w8⟩:=hN σ8 ys8 H8 n8
   refine ⟨m',hm,i+1,σ8,ys8,H8,I8.unpinned,T.keep _ _ _ st5 fun b hb o e=>(I8.pin (b,o) (List.mem_append_right _ (List.mem_append_right _ (z0 hb e)))).1,fun b hb=>?_,w8⟩
   obtain ⟨o,e,d⟩:=T.obj _ _ st5 b hb
   exact (I8.pin (b,o) (List.mem_append_right _ (List.mem_append_right _ (z0 hb e)))).2.1
  cases ok with
  |false =>
   rw [if_neg Bool.false_ne_true] at q7 ⊢
   exact again I7 q7
  |true =>
   rw [if_pos rfl] at q7 ⊢
   refine thn (he cj _ s7 σ6 H7 _ I7 q7) fun y s8 ⟨v,H8,I8,r8,hD8,q8⟩=>?_
   refine thn (zbJ (X:=cxK X sc NC x0 cj) _ s8 σ6 H8 (.ref D) [v] (.ref D) [y] (fun z H'=>z=.non/\H'=upd H8 D (.lst (ys3++[v]))) I8 rfl (.cons r8 .nil) ⟨D,ys3,v,rfl,rfl,hD8,hz,rfl,rfl⟩) fun z s9 ⟨zv,H9,I9,r9,e1,e2⟩=>?_
   subst e2
   exact again I9 q8
theorem ze4 (hc:X.calm=true)(O:CompOkK X sc NC slots x0)(hg:∀j,PG (cxK X sc NC x0 j) tg g)(ht:∀j,PTs (cxK X sc NC x0 j) ifs ti)(he:∀j,PE (cxK X sc NC x0 j) elt te){pins:List (Addr×Obj)}{s:Shared}{σ:St}{H:Hp}(I:Inv X pins σ H s)
  {it:Addr} {fp:List Addr} {tn:Nat->Heap->Prop} {J:It} (T:Turn X.prog X.w X.K tg J fp it tn) (st:tn 0 s.heap) (hf:∀b∈fp,FpOk X pins H b) {Q:VK}
  (h:∀D,H D=none->∃W:Nat->Nat->St->List V->Hp->Prop,(∃m,W 0 m (inn slots σ) [] (upd H D (.lst [])))/\CompR J D g ti te W (Q (.ref D))) {RR:Value->Addr->Result->Shared->Prop}
  (fin:∀D C s' H',Q (.ref D) H'->(∃o m,s'.heap.get? C=some o/\s'.heap.Ns C m/\∀v,o.data ≠ .cell v)->FpOk X pins H' C->(∀h2,Heap.SameBut C s'.heap h2->Inv X pins σ H' { s' with heap:=h2 })->RR (.ref D) C (.ok .next) s') :
  wpAny (model X.prog X.w) X.A (newList []) (fun acc s3=>wpAny (model X.prog X.w) X.A (newFunctionEnv sc X.env.globals (clOf sc X.env) [] X.env.qual none .none (some X.env)) (fun cenv s4 =>
   codeAny (model X.prog X.w) X.A (.compStart (.ListComp elt [⟨tg,iter,ifs,0⟩] sc pos) 0 (.ref it) acc { cenv with scope:=relabel sc X.env }) (RR acc cenv.locals) s4) X.xe s3) X.xe s:=by
 refine wpAny_newObj_type (ziB O.cf O.pc fun h1 hns1 hsb1 hcl1=>?_)
 dsimp only at hns1 hsb1 hcl1 ⊢
 have hDn:H s.heap.objs.size=none:=I.hok.fresh (Nat.le_refl _)
 obtain ⟨W,⟨m,w0⟩,step⟩:=h s.heap.objs.size hDn
 obtain ⟨s3,hs3⟩:∃x:Shared,x=({ s with heap:=s.heap.push { cls:=.type "list",dict:=none,data:=.seq ([]:List Value).toArray } }:Shared):=⟨_,rfl⟩
 have e3:s3.heap=s.heap.push { cls:=.type "list",dict:=none,data:=.seq ([]:List Value).toArray }:=by rw [hs3]
 rw [<- e3] at hns1 hsb1 hcl1
 have hp3:∀b o,s.heap.get? b=some o->s3.heap.get? b=some o:=fun b o e=>by
  rw [e3]
  exact Heap.get?_push_of_some _ e
 have I3:Inv X pins σ (upd H s.heap.objs.size (.lst [])) s3:=by
  have q:=I.laid (a:=s.heap.objs.size) (o:=.lst []) (h':=s3.heap) (t':=s.toks) hp3 (Nat.le_refl _) ⟨Nat.zero_le _,[],_,.nil,by rw [e3];exact Heap.get?_push_size _ rfl⟩
  rw [hs3] at q ⊢
  exact q
 have hf3:∀b∈fp,FpOk X pins (upd H s.heap.objs.size (.lst [])) b:=fun b hb=>by
  obtain ⟨o,e,_⟩:=T.obj _ _ st b hb
  refine ⟨?_,(hf b hb).2⟩
  rw [zn (Nat.ne_of_lt (Heap.lt_size e))]
  exact (hf b hb).1
 have st3:tn 0 s3.heap:=T.keep _ _ _ st fun b _ o e=>hp3 b o e
 have hob:∀b∈fp,∃o,s3.heap.get? b=some o:=fun b hb=>by
  obtain ⟨o,e,_⟩:=T.obj _ _ st3 b hb
  exact ⟨o,e⟩
 have hk1:∀b o,s3.heap.get? b=some o->h1.get? b=some o:=hsb1
 have J1:=ze3 (t':=s3.toks) I3 O hf3 hob hns1 hk1 hcl1
 have hfc:∀b∈fp,FpOk (cxK X sc NC x0 ⟨s3.heap.objs.size,s3,upd H s.heap.objs.size (.lst []),fp⟩) [] (upd H s.heap.objs.size (.lst [])) b:=fun b hb =>
  ⟨(hf3 b hb).1,(J1.ok.exf b hb).1,J1.ok.exfs b hb,.inl hb,(J1.ok.exf b hb).2,fun p hp=>nomatch hp⟩
 have loop:codeAny (model X.prog X.w) X.A (.compLoop (.ListComp elt [⟨tg,iter,ifs,0⟩] sc pos) 0 (.ref it) (.ref s.heap.objs.size) (cxK X sc NC x0 ⟨s3.heap.objs.size,s3,upd H s.heap.objs.size (.lst []),fp⟩).env) (RR (.ref s.heap.objs.size) s3.heap.objs.size)
   { s3 with heap:=h1,toks:=s3.toks }:=by
  refine zhi (D:=s.heap.objs.size) (Q:=Q (.ref s.heap.objs.size)) hc hg ht he T J1 hfc (T.keep _ _ _ st3 fun b _ o e=>hk1 b o e) w0 step fun σ' H' s' J' q'=>?_
  have fC:H' s3.heap.objs.size=none:=J'.free
  refine fin _ _ s' H' q' ?_ (I3.fpOk (Nat.le_refl _) fC) fun h2 hb=>zfo I3 hf3 (Nat.le_refl _) J' hb
  obtain ⟨m',hn',_⟩:=J'.loc
  obtain ⟨o,es,ep,ho,hd,r⟩:=id hn'
  exact ⟨o,m',ho,hn',fun v z=>by rw [hd] at z;cases z⟩
 have self:=fun (RQ:Value->Shared->Prop) (EE:Value->Shared->Prop)=>T.self X.A 0 { s3 with heap:=h1,toks:=s3.toks } RQ EE (T.keep _ _ _ st3 fun b _ o e=>hk1 b o e)
 subst hs3
 exact codeAny_compStart_list loop (self _ _ loop)
variable {wi:TI}
theorem zi3 (hc:X.calm=true)(O:CompOkK X sc NC slots x0)(hi:PI X tg iter wi)(hg:∀j,PG (cxK X sc NC x0 j) tg g)(ht:∀j,PTs (cxK X sc NC x0 j) ifs ti)(he:∀j,PE (cxK X sc NC x0 j) elt te)
  (hs:∀x,foldedSetIterable iter X.env x=pure x:=by intro _;rfl):PE X (.ListComp elt [⟨tg,iter,ifs,0⟩] sc pos) (tComp slots wi g ti te):=by
 intro pins s σ H Q I h
 rw [eval_ListComp]
 refine wpAny_comprehension_free (use:=none) rfl hs (zat (O.cells I.ok)) O.kind O.names (thn (hi pins s σ H _ I h) fun v s1 h1=>thn h1 fun itv s2 h2=>?_)
 obtain ⟨it,fp,tn,J,H2,rfl,I2,T,st2,f2,q2⟩:=h2
 refine ze4 hc O hg ht he I2 T st2 f2 q2 fun D C s' H' q' ⟨o,m,ho,hn,_⟩ _ out=>⟨m,hn,fun h2 hb=>⟨.ref D,H',out h2 hb,rfl,q'⟩⟩
end
end L2
namespace L2
open PySem
@[irreducible] def KqSs (X:Cx)(st:List Stmt)(t:TS):Prop:=PSs X st t
@[irreducible] def KqS (X:Cx)(st:Stmt)(t:TS):Prop:=PS X st t
@[irreducible] def KqE (X:Cx)(e:Expr)(t:TE):Prop:=PE X e t
@[irreducible] def KqT (X:Cx)(e:Expr)(t:TT):Prop:=PT X e t
@[irreducible] def KqW (X:Cx)(e:Expr)(t:TT):Prop:=PW X e t
@[irreducible] def KqA (X:Cx)(es:List Expr)(t:TA):Prop:=PA X es t
@[irreducible] def KqG (X:Cx)(target:Expr)(t:TG):Prop:=PG X target t
@[irreducible] def KqGs (X:Cx)(ts:List Expr)(t:TGs):Prop:=PGs X ts t
@[irreducible] def KqI (X:Cx)(tg iter:Expr)(wi:TI):Prop:=PI X tg iter wi
@[irreducible] def KqO (X:Cx)(e:Option Expr)(t:TO):Prop:=PO X e t
@[irreducible] def KqTs (X:Cx)(ifs:List Expr)(t:TT):Prop:=PTs X ifs t
section
variable {X:Cx}{pos:Pos}
theorem zan {X:Cx}{e:Expr}{t:TT}(h:KqW X e t):KqT X e t:=by with_unfolding_all exact PW.pt h
theorem zba {o i:Expr}{to ti:TE}{t:TSet}(ho:KqE X o to)(hi:KqE X i ti)(hs:PSet X t)
  (ha:∀v,assign (.Subscript o i pos) X.env v=(do
   let ov <- holding [v] (eval o X.env)
   let iv <- holding [v,ov] (eval i X.env)
   standAt pos
   holding [v,ov,iv] (setItem ov iv v)
   release [v,ov,iv] []):=by intro _;rfl):KqG X (.Subscript o i pos) (gSub to ti t):=by with_unfolding_all exact zhk ho hi hs ha
theorem ziH {i j:Nat}{x y:Str}{a b:Expr}{ta:TA}{px py pt:Pos}{kt k2 pt2}(hc:X.calm=true)(hN:X.N.Nodup)(hi:X.N[i]?=some x)(hj:X.N[j]?=some y)(hij:i≠j)
  (hx:X.env.scope.names.lookup x=some .local) (hy:X.env.scope.names.lookup y=some .local) (ha:KqA X [a,b] ta)
  (hw:swappedStores [.Tuple [.Name x px,.Name y py] kt pt] (.Tuple [a,b] k2 pt2) X.env=pure (some [x,y]))
  (hs:swapsWithSole [.Tuple [.Name x px,.Name y py] kt pt] (.Tuple [a,b] k2 pt2) pos.line X.env=pure false:=by rfl) :
  KqS X (.Assign [.Tuple [.Name x px,.Name y py] kt pt] (.Tuple [a,b] k2 pt2) pos) (tPar i j ta):=by with_unfolding_all exact zmj hc hN hi hj hij hx hy ha hw hs
end
end L2
namespace IC
open PySem
inductive PV where
 | non|bl (b:Bool)|int (i:Int)|str (x:Str)|tp (k:Bool) (xs:List PV)|lst (xs:List PV)|loc (n:Nat)|exn (c:Nat)|scr (xs:List PV)
deriving Inhabited
noncomputable abbrev PV.tup (xs:List PV):PV:=.tp false xs
mutual
noncomputable def noLoc:PV->Bool
 | .loc _=>false
 | .exn _=>false
 | .tp _ xs=>noLocs xs
 | .lst xs=>noLocs xs
 | .scr xs=>noLocs xs
 |_=>true
noncomputable def noLocs:List PV->Bool
 | []=>true
 |x::xs=>noLoc x && noLocs xs
end
mutual
noncomputable def shd (n:Nat):PV->Bool
 | .non=>true
 | .bl _=>true
 | .int _=>true
 | .str x=>x.cps.all (· < 0x110000)
 | .tp _ xs=>decide (0<n) && shds (n - 1) xs
 | .lst xs=>decide (0<n) && shds (n - 1) xs
 |_=>false
noncomputable def shds (n:Nat):List PV->Bool
 | []=>true
 |x::xs=>shd n x && shds n xs
end
noncomputable abbrev shp (v:PV):Bool:=shd 60 v
noncomputable def flat:PV->Bool
 | .non=>true
 | .bl _=>true
 | .int _=>true
 | .str _=>true
 |_=>false
noncomputable def bi (b:Bool):Int:=if b then 1 else 0
mutual
noncomputable def peq:PV->PV->Bool
 | .non,.non=>true
 | .bl a,.bl b=>a == b
 | .bl a,.int j=>bi a == j
 | .int i,.bl b=>i == bi b
 | .int i,.int j=>i == j
 | .str x,.str y=>x == y
 | .tp _ xs,.tp _ ys=>peqs xs ys
 | .lst xs,.lst ys=>peqs xs ys
 |_,_=>false
noncomputable def peqs:List PV->List PV->Bool
 | [],[]=>true
 |x::xs,y::ys=>peq x y && peqs xs ys
 |_,_=>false
end
inductive Ob where
 | lst (xs:List PV)|dct (t:Bool) (kvs:List (PV×PV))|dead|ins (c:Nat) (fs:List (Str×PV))
noncomputable abbrev Env:=List (Option PV)
noncomputable abbrev Store:=List Ob
inductive R (α:Type) where
 | ok (a:α) (st:Store)|exc (c:Nat) (st:Store)|bad
noncomputable def R.bind {α β:Type}(r:R α)(k:α->Store->R β):R β :=
 match r with
 | .ok a st=>k a st
 | .exc c st=>.exc c st
 | .bad=>.bad
inductive BOp where
 | add|sub|mul|fdiv|mod|pow|shl|shr|band|bor|bxor
inductive COp where
 | eq|ne|lt|le|gt|ge|is|isnot|isin|notin
inductive Ty where
 | int|bool|str|tuple|list|cls (c:Nat)|val
inductive Blt where
 | len|int|abs|min|max|tuple|list|all|sum|dict|rev|str|any
inductive Mth where
 | append|extend|get|bits|upper|insert|count|index|join|split|sidx|clear
inductive Tg where
 | n (i:Nat)|t (l:List Nat)
mutual
inductive Ce where
 | cst (v:PV)
 | var (i:Nat)
 | bin (o:BOp) (a b:Ce)
 | neg (a:Ce)
 | not (a:Ce)
 | and (a b:Ce)
 | or (a b:Ce)
 | cmp (o:COp) (a b:Ce)
 | chain (o p:COp) (a b c:Ce)
 | ite (c a b:Ce)
 | tup (es:Ces)
 | lst (es:Ces)
 | newl (es:Ces)
 | newd (kvs:List (Str×Int))
 | dict0 (t:Bool)
 | idx (a i:Ce)
 | slc (a:Ce) (lo hi:Ce)
 | call (f:Nat) (args:Ces)
 | blt (b:Blt) (args:Ces)
 | mth (m:Mth) (o:Ce) (args:Ces)
 | isi (a:Ce) (t:List Ty)
 | isx (a:Ce) (cs:List Nat) (t:List Ty)
 | comp (sl:List (Option Nat)) (tg:Tg) (it:Cit) (c:Ce) (e:Ce)
 | frz (a:Ce)
 | nope
 | fst (e:Ces)
 | rep (a b:Ce)
 | dix (D:List (Str×PV)) (a:Ce)
 | din (a:Ce) (D:List (Str×PV))
 | thw (a:Ce)
 | nin (a b:Ce)
 | fld (c:Nat) (a:Ce) (f:Str)
 | new (c i:Nat) (es:Ces)
 | mcl (c i:Nat) (m:Str) (o:Ce) (es:Ces)
 | dgt (a i:Ce)
 | inn (a b:Ce)
 | qcl (i:Nat) (es:Ces)
 | dsub (ks:List Str) (es:Ces) (i:Ce)
 | isl (a:Ce)
 | cmx (sl:List (Option Nat)) (tg:Tg) (it:Cit) (e:Ce)
 | cml (sl:List (Option Nat)) (tg:Tg) (i:Ce) (e:Ce)
 | nel (a b:Ce)
inductive Ces where
 | nil
 | cons (e:Ce) (es:Ces)
inductive Cit where
 | seq (e:Ce)
 | range1 (a:Ce)
 | range2 (a b:Ce)
 | rangeD (a b:Ce)
 | enum (e:Ce)
 | zip (a b:Ce)
 | revl (e:Ce)
 | revr (a:Ce)
 | chars (e:Ce)
end
mutual
inductive Cs where
 | expr (e:Ce)
 | asg (t:Tg) (e:Ce)
 | six (o i e:Ce)
 | dput (o i e:Ce)
 | aug (i:Nat) (o:BOp) (e:Ce)
 | ret (e:Ce)
 | ite (c:Ce) (a b:Css)
 | for (t:Tg) (it:Cit) (b:Css)
 | while (c:Ce) (b:Css)
 | nope
 | brk
 | cnt
 | pass
 | raise (c:Nat) (e:Ce)
 | try (b:Css) (cs:List Nat) (i:Nat) (h:Css)
 | six2 (o i p j e f:Ce)
 | sfl (c:Nat) (o:Ce) (f:Str) (e:Ce)
 | mkr (i:Nat) (D:List (Str×Nat)) (n:Ce) (es:Ces)
 | forl (t:Tg) (e:Ce) (b:Css)
inductive Css where
 | nil
 | cons (s:Cs) (ss:Css)
end
noncomputable def CMulB (i j:Int):Bool:=(decide (i.natAbs<18446744073709551616)) || (decide (j.natAbs<18446744073709551616))
noncomputable def binI (o:BOp)(i j:Int):Option PV :=
 match o with
 | .add=>some (.int (i+j))
 | .sub=>some (.int (i - j))
 | .mul=>if CMulB i j then some (.int (i*j)) else none
 | .fdiv=>if 0<j/\j<10000000000000000000000000000000000000000000000000000000000000000000000 then some (.int (i / j)) else none
 | .mod=>if 0<j then some (.int (i % j)) else none
 | .pow=>if 0<=j/\j<=1000000/\i.natAbs<18446744073709551616 then some (.int (i ^ j.toNat)) else none
 | .shl=>if 0<=j/\j<=1000000/\i.natAbs<18446744073709551616 then some (.int (i*2 ^ j.toNat)) else none
 | .shr=>if 0<=j then some (.int (i / 2 ^ j.toNat)) else none
 | .band=>some (.int (Builtin.bitAnd i j))
 | .bor=>some (.int (Builtin.bitOr i j))
 | .bxor=>some (.int (Builtin.bitXor i j))
noncomputable def sizeMax:Nat:=16777216
noncomputable def catT (k:Bool)(a:List PV)(j:Bool)(b:List PV):PV:=if a.isEmpty then .tp j b else if b.isEmpty then .tp k a else .tup (a++b)
noncomputable def repV (x y:PV):Option PV :=
 match x,y with
 | .str a,.int n=>if 1<=n/\n<=1000/\a.length<=1000/\1<=a.length then some (.str ⟨(List.replicate n.toNat a.cps.toList).flatten.toArray⟩) else none
 | .tp _ a,.int n=>if 2<=n/\n<=1000/\a.isEmpty=false/\a.length<=1000 then some (.tup (List.replicate n.toNat a).flatten) else none
 |_,_=>none
noncomputable def binV (o:BOp)(x y:PV):Option PV :=
 match x,y with
 | .int i,.int j=>binI o i j
 | .int i,.bl b=>match o with
  | .add=>some (.int (i+bi b))
  |_=>none
 | .str a,.str b=>match o with
  | .add=>if a.length+b.length<=sizeMax then some (.str (a++b)) else none
  |_=>none
 | .tp k a,.tp j b=>match o with
  | .add=>if a.length+b.length<=sizeMax then some (catT k a j b) else none
  |_=>none
 | .lst a,.lst b=>match o with
  | .add=>if a.length+b.length<=sizeMax then some (.lst (a++b)) else none
  |_=>none
 |_,_=>none
noncomputable def augV (o:BOp)(x y:PV):Option PV :=
 match x,y with
 | .int i,.int j=>binI o i j
 |_,_=>none
noncomputable def isNon:PV->Bool
 | .non=>true
 |_=>false
noncomputable def inL (x:PV):List PV->Bool
 | []=>false
 |y::ys=>peq y x || inL x ys
noncomputable def inS (a b:Str):Bool:=(List.range (b.length+1)).any fun i=>decide (i+a.length<=b.length) && (b.cps.extract i (i+a.length) == a.cps)
noncomputable def cmpI (o:COp)(i j:Int):Option PV :=
 match o with
 | .lt=>some (.bl (decide (i<j)))
 | .le=>some (.bl (decide (i<=j)))
 | .gt=>some (.bl (decide (j<i)))
 | .ge=>some (.bl (decide (j<=i)))
 |_=>none
noncomputable def cmpS (o:COp)(a b:Str):Option PV :=
 match o with
 | .lt=>some (.bl (decide (a.cps.toList<b.cps.toList)))
 | .le=>some (.bl (!decide (b.cps.toList<a.cps.toList)))
 |_=>none
noncomputable def cmpV (o:COp)(x y:PV):Option PV :=
 match o with
 | .eq=>if shp x && shp y then some (.bl (peq x y)) else none
 | .ne=>if shp x && shp y then some (.bl (!peq x y)) else none
 | .is=>match y with
  | .non=>some (.bl (isNon x))
  | .bl b=>match x with
   | .bl a=>some (.bl (a == b))
   |_=>none
  |_=>none
 | .isnot=>match y with
  | .non=>some (.bl (!isNon x))
  | .bl b=>match x with
   | .bl a=>some (.bl (!(a == b)))
   |_=>none
  |_=>none
 | .isin=>match x,y with
  | .str a,.str b=>some (.bl (inS a b))
  |x,.tp _ l=>if flat x && l.all flat then some (.bl (inL x l)) else none
  |x,.lst l=>if flat x && l.all flat then some (.bl (inL x l)) else none
  |_,_=>none
 | .notin=>match x,y with
  | .str a,.str b=>some (.bl (!inS a b))
  |x,.tp _ l=>if flat x && l.all flat then some (.bl (!inL x l)) else none
  |x,.lst l=>if flat x && l.all flat then some (.bl (!inL x l)) else none
  |_,_=>none
 |o=>match x,y with
  | .int i,.int j=>cmpI o i j
  | .str a,.str b=>cmpS o a b
  |_,_=>none
noncomputable def truV (st:Store)(x:PV):Option Bool :=
 match x with
 | .non=>some false
 | .bl b=>some b
 | .int i=>some (i != 0)
 | .str y=>if y.length<=sizeMax then some ((y.length:Int) != 0) else none
 | .tp _ xs=>some (!xs.isEmpty)
 | .lst xs=>some (!xs.isEmpty)
 | .loc n=>match st[n]? with
  |some (.lst xs)=>some (!xs.isEmpty)
  |_=>none
 |_=>none
noncomputable def ixI (n:Nat)(i:Int):Option Nat:=if 0<=i then (if i<n then some i.toNat else none) else if -(n:Int)<=i then some (i+n).toNat else none
noncomputable def at? {α:Type}(xs:List α)(i:Int):Option α:=(ixI xs.length i).bind fun j=>xs[j]?
noncomputable def look (k:PV):List (PV×PV)->Option PV
 | []=>none
 | (a,b)::r=>if peq a k then some b else look k r
noncomputable def put (k v:PV)(kvs:List (PV×PV)):List (PV×PV) :=
 if (kvs.any fun p=>peq p.1 k)=true then kvs.map (fun p=>if peq p.1 k=true then (p.1,v) else p) else kvs++[(k,v)]
noncomputable def isKey0:PV->Bool
 | .int _=>true
 | .str _=>true
 |_=>false
noncomputable def isKey (t:Bool)(k:PV):Bool :=
 match t with
 |false=>isKey0 k
 |true=>match k with
  | .tp false xs=>xs.all isKey0
  |_=>false
noncomputable def idxI {α:Type}(xs:List α)(i:PV):Option α :=
 match i with
 | .int k=>at? xs k
 |_=>none
noncomputable def idxV (st:Store)(x i:PV):Option PV :=
 match x with
 | .tp _ xs=>idxI xs i
 | .lst xs=>idxI xs i
 | .str s=>if s.length<=sizeMax then (idxI s.cps.toList i).map fun c=>.str ⟨#[c]⟩ else none
 | .loc n=>match st[n]? with
  |some (.lst xs)=>idxI xs i
  |_=>none
 |_=>none
noncomputable def clampI (n:Nat)(v:Int):Nat:=if v<0 then (v+(n:Int)).toNat else min v.toNat n
noncomputable def loOf (n:Nat)(lo:Option Int):Nat :=
 match lo with
 |none=>0
 |some i=>clampI n i
noncomputable def hiOf (n:Nat)(hi:Option Int):Nat :=
 match hi with
 |none=>n
 |some i=>clampI n i
noncomputable def cut {α:Type}(xs:List α)(lo hi:Option Int):List α:=(xs.drop (loOf xs.length lo)).take (hiOf xs.length hi - loOf xs.length lo)
noncomputable def optI:PV->Option (Option Int)
 | .non=>some none
 | .int i=>some (some i)
 |_=>none
noncomputable def slcO (x:PV)(a b:Option Int):Option PV :=
 match x with
 | .tp k xs=>if loOf xs.length a=0/\hiOf xs.length b=xs.length then some (.tp k xs) else some (.tup (cut xs a b))
 | .str s=>if s.length<=sizeMax then some (.str ⟨(cut s.cps.toList a b).toArray⟩) else none
 | .lst xs=>some (.lst (cut xs a b))
 | .scr xs=>some (.lst (cut xs a b))
 |_=>none
noncomputable def slcV (x:PV)(a:Option Int)(hi:PV):Option PV :=
 match optI hi with
 |some b=>slcO x a b
 |none=>none
noncomputable def isTy (x:PV)(t:Ty):Bool :=
 match x,t with
 | .int _,.int=>true
 | .bl _,.int=>true
 | .bl _,.bool=>true
 | .str _,.str=>true
 | .tp _ _,.tuple=>true
 | .lst _,.list=>true
 | .exn c,.cls d=>c == d
 | .exn _,.val=>true
 |_,_=>false
noncomputable def isBl:Ty->Bool
 | .cls _=>false
 | .val=>false
 |_=>true
noncomputable def isiV (x:PV)(ts:List Ty):Option PV :=
 match x with
 | .loc _=>none
 | .scr _=>none
 | .exn c=>if ts.all isBl then none else some (.bl (ts.any (isTy (.exn c))))
 |x=>match ts with
  | [t]=>if isBl t then some (.bl (isTy x t)) else none
  |_=>none
noncomputable def isxV (cs:List Nat)(x:PV)(ts:List Ty):Option PV :=
 match x with
 | .exn c=>if cs.contains c then some (.bl (ts.any (isTy (.exn c)))) else none
 |_=>none
noncomputable def fstS:PV->Option Str
 | .int i=>if i.natAbs.log2<1920 then some (Str.ofString (toString i)) else none
 | .str s=>if s.length<=16777216 then some s else none
 |_=>none
noncomputable def fstJ:Str->List PV->Option Str
 |out,[]=>if out.length<=16777216 then some out else none
 |out,v::vs=>match fstS v with
  |some y=>if (out++y).length<=16777216 then fstJ (out++y) vs else none
  |none=>none
noncomputable def fstR (r:R (List PV)):R PV :=
 match r with
 | .ok vs st=>match fstJ Str.empty vs with
  |some z=>.ok (.str z) st
  |none=>.bad
 |_=>.bad
noncomputable def allB:List PV->Option Bool
 | []=>some true
 | .bl b::r=>match allB r with
  |some c=>some (b && c)
  |none=>none
 |_::_=>none
noncomputable def sumI:List PV->Option Int
 | []=>some 0
 | .int i::r=>match sumI r with
  |some c=>some (i+c)
  |none=>none
 |_::_=>none
noncomputable def maxI:List PV->Option Int
 | []=>none
 | [.int i]=>some i
 | .int i::r=>match maxI r with
  |some c=>some (if i<c then c else i)
  |none=>none
 |_::_=>none
noncomputable def seqOf (st:Store):PV->Option (List PV)
 | .tp _ xs=>some xs
 | .lst xs=>some xs
 | .loc n=>match st[n]? with
  |some (.lst xs)=>some xs
  |_=>none
 |_=>none
noncomputable def lstOf (st:Store):PV->Option (List PV)
 | .lst xs=>some xs
 | .loc n=>match st[n]? with
  |some (.lst xs)=>some xs
  |_=>none
 |_=>none
noncomputable def lenV (st:Store)(x:PV):Option PV :=
 match x with
 | .str s=>if s.length<=sizeMax then some (.int s.length) else none
 |x=>(seqOf st x).map fun xs=>.int xs.length
noncomputable def intV (x:PV):Option PV :=
 match x with
 | .int i=>some (.int i)
 | .bl k=>some (.int (bi k))
 |_=>none
noncomputable def absV1 (x:PV):Option PV :=
 match x with
 | .int i=>some (.int (if i<0 then -i else i))
 |_=>none
noncomputable def minV (x y:PV):Option PV :=
 match x,y with
 | .int i,.int j=>some (.int (if j<i then j else i))
 |_,_=>none
noncomputable def maxV (x y:PV):Option PV :=
 match x,y with
 | .int i,.int j=>some (.int (if i<j then j else i))
 |_,_=>none
noncomputable def tupV (st:Store)(x:PV):Option PV :=
 match x with
 | .tp k xs=>some (.tp k xs)
 |x=>(lstOf st x).map .tup
noncomputable def revV:PV->Option PV
 | .tp _ xs=>if xs.isEmpty then none else some (.tup xs.reverse)
 | .lst xs=>some (.lst xs.reverse)
 |_=>none
noncomputable def anyB:List PV->Option Bool
 | []=>some false
 | .bl b::r=>match anyB r with
  |some c=>some (b || c)
  |none=>none
 |_=>none
noncomputable def strV:PV->Option PV
 | .int i=>if i=0 then some (.str "0") else if i=1 then some (.str "1") else none
 |_=>none
noncomputable def bltV (b:Blt)(st:Store)(vs:List PV):Option PV :=
 match vs with
 | [x]=>match b with
  | .len=>lenV st x
  | .int=>intV x
  | .abs=>absV1 x
  | .max=>(lstOf st x).bind fun xs=>(maxI xs).map .int
  | .tuple=>tupV st x
  | .list=>(seqOf st x).map .lst
  | .all=>(lstOf st x).bind fun xs=>(allB xs).map .bl
  | .sum=>(lstOf st x).bind fun xs=>(sumI xs).map .int
  | .rev=>revV x
  | .str=>strV x
  | .any=>(lstOf st x).bind fun xs=>(anyB xs).map .bl
  |_=>none
 | [x,y]=>match b with
  | .min=>minV x y
  | .max=>maxV x y
  |_=>none
 |_=>none
noncomputable def dctOf (st:Store):PV->Option (Bool×List (PV×PV))
 | .loc n=>match st[n]? with
  |some (.dct t xs)=>some (t,xs)
  |_=>none
 |_=>none
noncomputable def mthOk (m:Mth)(st:Store)(x:PV):Option Bool :=
 match m with
 | .append=>(lstOf st x).map fun _=>true
 | .extend=>(lstOf st x).map fun _=>true
 | .insert=>(lstOf st x).map fun _=>true
 | .count=>(lstOf st x).map fun _=>true
 | .index=>(lstOf st x).map fun _=>true
 | .get=>(dctOf st x).map fun _=>true
 | .bits=>match x with
  | .int _=>some true
  |_=>none
 | .upper=>match x with
  | .str _=>some true
  |_=>none
 | .join=>match x with
  | .str _=>some true
  |_=>none
 | .split=>match x with
  | .str _=>some true
  |_=>none
 | .sidx=>match x with
  | .str _=>some true
  |_=>none
 | .clear=>match x with
  | .loc n=>(lstOf st (.loc n)).map fun _=>true
  |_=>none
noncomputable def appV (st:Store)(o v:PV):R PV :=
 match o with
 | .loc n=>match st[n]? with
  |some (.lst xs)=>if xs.length<1000000 then .ok .non (st.set n (.lst (xs++[v]))) else .bad
  |_=>.bad
 |_=>.bad
noncomputable def extV (st:Store)(o v:PV):R PV :=
 match o with
 | .loc n=>match st[n]? with
  |some (.lst xs)=>match v with
   | .lst ys=>if xs.length+ys.length<=1000000 then .ok .non (st.set n (.lst (xs++ys))) else .bad
   |_=>.bad
  |_=>.bad
 |_=>.bad
noncomputable def insV (st:Store)(o i v:PV):R PV :=
 match o with
 | .loc n=>match st[n]? with
  |some (.lst xs)=>match i with
   | .int k=>if 0<=k/\k<=xs.length/\xs.length<1000000 then .ok .non (st.set n (.lst (xs.take k.toNat++v::xs.drop k.toNat))) else .bad
   |_=>.bad
  |_=>.bad
 |_=>.bad
noncomputable def getV (st:Store)(o k d:PV):R PV :=
 match dctOf st o with
 |some (t,kvs)=>if isKey t k then .ok ((look k kvs).getD d) st else .bad
 |none=>.bad
noncomputable def cntV (st:Store)(o v:PV):R PV :=
 match lstOf st o with
 |some xs=>if flat v && xs.all flat then .ok (.int (xs.countP fun y=>peq y v)) st else .bad
 |none=>.bad
noncomputable def findP (v:PV):List PV->Option Nat
 | []=>none
 |y::ys=>if peq y v then some 0 else (findP v ys).map (·+1)
noncomputable def fndV (st:Store)(o v:PV):R PV :=
 match lstOf st o with
 |some xs=>if flat v && xs.all flat then (match findP v xs with
  |some j=>.ok (.int j) st
  |none=>.bad) else .bad
 |none=>.bad
noncomputable def upC (c:Nat):Nat:=if 97<=c/\c<=122 then c - 32 else c
noncomputable def upS (s:Str):Str:=⟨(s.cps.toList.map upC).toArray⟩
noncomputable def splitL (c:Nat):List Nat->List (List Nat)
 | []=>[[]]
 |x::xs=>if x=c then []::splitL c xs else match splitL c xs with
  | []=>[[x]]
  |p::ps=>(x::p)::ps
noncomputable def strsOf:List PV->Option (List Str)
 | []=>some []
 | .str s::r=>(strsOf r).map (s :: ·)
 |_=>none
noncomputable def joinV (st:Store)(o v:PV):R PV :=
 match o,lstOf st v with
 | .str s,some xs=>match strsOf xs with
  |some ys=>if s.length<=10/\xs.length<=1000/\(ys.all fun y=>decide (y.length<=1000))=true then .ok (.str (Str.join s ys)) st else .bad
  |none=>.bad
 |_,_=>.bad
noncomputable def clrV (st:Store)(o:PV):R PV :=
 match o with
 | .loc n=>match st[n]? with
  |some (.lst _)=>.ok .non (st.set n (.lst []))
  |_=>.bad
 |_=>.bad
noncomputable def dsubV (ks:List Str)(vs:List PV)(y:PV):Option PV :=
 match y with
 | .str q=>look (.str q) ((ks.zip vs).foldl (fun acc kv=>put (.str kv.1) kv.2 acc) [])
 |_=>none
noncomputable def islV (st:Store)(x:PV):Option PV :=
 match x with
 | .loc n=>(lstOf st (.loc n)).map fun _=>.bl true
 | .tp _ _=>some (.bl false)
 |_=>none
noncomputable def sidxV (st:Store)(o v:PV):R PV :=
 match o,v with
 | .str s,.str y=>if s=Str.ofString "01" then (if y=Str.ofString "0" then .ok (.int 0) st else if y=Str.ofString "1" then .ok (.int 1) st else .bad) else .bad
 |_,_=>.bad
noncomputable def splitV (st:Store)(o v:PV):R PV :=
 match o,v with
 | .str s,.str y=>match y.cps.toList with
  | [c]=>if s.length<=100000 then .ok (.lst ((splitL c s.cps.toList).map fun l=>.str ⟨l.toArray⟩)) st else .bad
  |_=>.bad
 |_,_=>.bad
noncomputable def mthV (m:Mth)(st:Store)(o:PV)(vs:List PV):R PV :=
 match m,vs with
 | .append,[v]=>appV st o v
 | .extend,[v]=>extV st o v
 | .insert,[i,v]=>insV st o i v
 | .get,[k,d]=>getV st o k d
 | .count,[v]=>cntV st o v
 | .index,[v]=>fndV st o v
 | .join,[v]=>joinV st o v
 | .split,[v]=>splitV st o v
 | .sidx,[v]=>sidxV st o v
 | .clear,[]=>clrV st o
 | .bits,[]=>match o with
  | .int i=>.ok (.int (Builtin.Int.intBits i)) st
  |_=>.bad
 | .upper,[]=>match o with
  | .str s=>if s.cps.toList.all (· < 128)/\s.length<=1000000 then .ok (.str (upS s)) st else .bad
  |_=>.bad
 |_,_=>.bad
noncomputable def toR (o:Option PV)(st:Store):R PV :=
 match o with
 |some v=>.ok v st
 |none=>.bad
noncomputable def bindT (t:Tg)(v:PV)(ρ:Env):Option Env :=
 match t,v with
 | .n i,v=>some (ρ.set i (some v))
 | .t l,.tp _ xs=>if l.length=xs.length then some ((l.zip xs).foldl (fun ρ p=>ρ.set p.1 (some p.2)) ρ) else none
 |_,_=>none
noncomputable def pairsUp:Nat->List PV->List PV
 |_,[]=>[]
 |k,x::xs=>.tup [.int k,x]::pairsUp (k+1) xs
noncomputable def zipUp:List PV->List PV->List PV
 |x::xs,y::ys=>.tup [x,y]::zipUp xs ys
 |_,_=>[]
noncomputable def revL:PV->Option (List PV)
 | .tp _ xs=>some xs.reverse
 | .lst xs=>some xs.reverse
 |_=>none
noncomputable def charsV:PV->Option (List PV)
 | .str s=>if s.length<=1000000 then some (s.cps.toList.map fun c=>.str ⟨#[c]⟩) else none
 |_=>none
noncomputable def zipV (x y:PV):Option (List PV) :=
 match x,y with
 | .tp _ xs,.tp _ ys=>if xs.length<=ys.length then some (zipUp xs ys) else none
 |_,_=>none
noncomputable def dlook (s:Str):List (Str×PV)->Option PV
 | []=>none
 | (a,b)::r=>if decide (a=s) then some b else dlook s r
noncomputable def dixV (D:List (Str×PV))(x:PV):Option PV :=
 match x with
 | .str s=>dlook s D
 |_=>none
noncomputable def dinV (D:List (Str×PV))(x:PV):Option PV :=
 match x with
 | .str s=>some (.bl (dlook s D).isSome)
 |_=>none
noncomputable def rangeL:Nat->Int->Int->List PV
 |0,_,_=>[]
 |n+1,a,d=>.int a::rangeL n (a+d) d
noncomputable def rng1 (x:PV):Option (List PV) :=
 match x with
 | .int j=>if j.natAbs<1000000000 then some (rangeL j.toNat 0 1) else none
 |_=>none
noncomputable def rngR (x:PV):Option (List PV) :=
 match x with
 | .int j=>if 0<=j/\j<1000000000 then some (rangeL j.toNat (j - 1) (-1)) else none
 |_=>none
noncomputable def rng2 (x y:PV):Option (List PV) :=
 match x,y with
 | .int i,.int j=>if i.natAbs<1000000000/\j.natAbs<1000000000 then some (rangeL (j - i).toNat i 1) else none
 |_,_=>none
noncomputable def rngD (x y:PV):Option (List PV) :=
 match x,y with
 | .int i,.int j=>if i.natAbs<1000000000/\j.natAbs<1000000000 then some (rangeL (i - j).toNat i (-1)) else none
 |_,_=>none
noncomputable def toL (o:Option (List PV))(st:Store):R (List PV) :=
 match o with
 |some v=>.ok v st
 |none=>.bad
noncomputable def frzV (v:PV)(st:Store):R PV :=
 match v with
 | .loc n=>match st[n]? with
  |some (.lst xs)=>.ok (.lst xs) (st.set n .dead)
  |_=>.bad
 |v=>.ok v st
noncomputable def thwV (v:PV)(st:Store):R PV :=
 match v with
 | .lst xs=>.ok (.loc st.length) (st++[.lst xs])
 |_=>.bad
noncomputable def ninV (st:Store)(x y:PV):Option PV :=
 match y with
 | .loc n=>match st[n]? with
  |some (.lst xs)=>if shp x && shds 60 xs then some (.bl (!inL x xs)) else none
  |_=>none
 |_=>none
noncomputable def dgtV (st:Store)(x k:PV):Option PV :=
 match dctOf st x with
 |some (t,kvs)=>if isKey t k then look k kvs else none
 |none=>none
noncomputable def innV (st:Store)(x y:PV):Option PV :=
 match seqOf st y with
 |some xs=>if shp x && shds 60 xs then some (.bl (inL x xs)) else none
 |none=>none
noncomputable def mkV (D:List (Str×Nat))(b:Bool)(x:PV):Option Nat :=
 match x with
 | .str s=>if b then D.lookup s else none
 |_=>none
noncomputable def fldV (c:Nat)(st:Store)(x:PV)(f:Str):Option PV :=
 match x with
 | .loc n=>match st[n]? with
  |some (.ins d fs)=>if d=c then fs.lookup f else none
  |_=>none
 |_=>none
noncomputable def putA (f:Str)(v:PV):List (Str×PV)->List (Str×PV)
 | []=>[(f,v)]
 | (g,x)::r=>if g=f then (g,v)::r else (g,x)::putA f v r
noncomputable def sflV (c:Nat)(st:Store)(x:PV)(f:Str)(v:PV):Option Store :=
 match x with
 | .loc n=>match st[n]? with
  |some (.ins d fs)=>if d=c/\fs.length<1000 then some (st.set n (.ins c (putA f v fs))) else none
  |_=>none
 |_=>none
noncomputable def insB (c:Nat)(m:Str)(st:Store)(x:PV):Option Bool :=
 match x with
 | .loc n=>match st[n]? with
  |some (.ins d fs)=>if d=c/\fs.lookup m=none then some true else none
  |_=>none
 |_=>none
noncomputable def newV (n:Nat)(v:PV)(st:Store):R PV :=
 match v with
 | .non=>.ok (.loc n) st
 |_=>.bad
noncomputable def noExc (r:R PV):R PV :=
 match r with
 | .ok v st=>.ok v st
 |_=>.bad
inductive Fl where
 | nx (ρ:Env) (st:Store)|rt (v:PV) (st:Store)|bk (ρ:Env) (st:Store)|ct (ρ:Env) (st:Store)|exc (c:Nat) (ρ:Env) (st:Store)|bad
noncomputable def onBl {α:Type}(x:PV)(k:Bool->R α):R α :=
 match x with
 | .bl b=>k b
 |_=>.bad
noncomputable def onO {α:Type}(o:Option Bool)(k:Bool->R α):R α :=
 match o with
 |some b=>k b
 |none=>.bad
noncomputable def onF (o:Option Bool)(k:Bool->Fl):Fl :=
 match o with
 |some b=>k b
 |none=>.bad
noncomputable def onP {α:Type}(o:Option (Option Int))(k:Option Int->R α):R α :=
 match o with
 |some b=>k b
 |none=>.bad
noncomputable def blO (o:Option PV):Option Bool :=
 match o with
 |some (.bl b)=>some b
 |_=>none
noncomputable def consO (o:Option PV)(ys:List PV):List PV :=
 match o with
 |some y=>y::ys
 |none=>ys
noncomputable def compL (one:PV->Store->R (Option PV)):List PV->Store->R (List PV)
 | [],st=>.ok [] st
 |x::xs,st=>(one x st).bind fun o st1=>(compL one xs st1).bind fun ys st2=>.ok (consO o ys) st2
noncomputable def lstR (r:R (List PV)):R PV :=
 match r with
 | .ok ys st=>if ys.length<=1000000 then .ok (.lst ys) st else .bad
 |_=>.bad
noncomputable def compV (one:PV->Store->R (Option PV))(n:Nat):Nat->Nat->Store->R (List PV)
 |0,_,_=>.bad
 |f+1,i,st=>match st[n]? with
  |some (.lst xs)=>match xs[i]? with
   |some x=>(one x st).bind fun o st1=>(compV one n f (i+1) st1).bind fun ys st2=>.ok (consO o ys) st2
   |none=>.ok [] st
  |_=>.bad
noncomputable def nelV (st:Store)(x y:PV):Option PV :=
 match x with
 | .loc n=>match st[n]? with
  |some (.lst xs)=>if shp (.lst xs) && shp y then some (.bl (!peq (.lst xs) y)) else none
  |_=>none
 |_=>none
noncomputable def lstX (r:R (List PV)):R PV :=
 match r with
 | .ok ys st=>.ok (.lst ys) st
 | .exc k st=>.exc k st
 | .bad=>.bad
mutual
noncomputable def ev (call:Nat->List PV->Store->R PV)(ρ:Env)(st:Store):Ce->R PV
 | .cst v=>.ok v st
 | .var i=>match ρ[i]? with
  |some (some v)=>.ok v st
  |_=>.bad
 | .bin o a b=>(ev call ρ st a).bind fun x st1=>(ev call ρ st1 b).bind fun y st2=>toR (binV o x y) st2
 | .neg a=>(ev call ρ st a).bind fun x st1=>match x with
  | .int i=>.ok (.int (-i)) st1
  |_=>.bad
 | .not a=>(ev call ρ st a).bind fun x st1=>onBl x fun k=>.ok (.bl (!k)) st1
 | .and a b=>(ev call ρ st a).bind fun x st1=>onBl x fun k=>cond k (ev call ρ st1 b) (.ok (.bl false) st1)
 | .or a b=>(ev call ρ st a).bind fun x st1=>onBl x fun k=>cond k (.ok (.bl true) st1) (ev call ρ st1 b)
 | .cmp o a b=>(ev call ρ st a).bind fun x st1=>(ev call ρ st1 b).bind fun y st2=>toR (cmpV o x y) st2
 | .chain o p a b c=>(ev call ρ st a).bind fun x st1=>(ev call ρ st1 b).bind fun y st2=>onO (blO (cmpV o x y)) fun k=>cond k ((ev call ρ st2 c).bind fun z st3=>toR (cmpV p y z) st3) (.ok (.bl false) st2)
 | .ite c a b=>(ev call ρ st c).bind fun x st1=>onO (truV st1 x) fun k=>cond k (ev call ρ st1 a) (ev call ρ st1 b)
 | .tup es=>(evs call ρ st es).bind fun vs st1=>if vs.length<=sizeMax then .ok (.tup vs) st1 else .bad
 | .lst es=>(evs call ρ st es).bind fun vs st1=>if vs.length<=sizeMax then .ok (.lst vs) st1 else .bad
 | .newl es=>(evs call ρ st es).bind fun vs st1=>if vs.length<=sizeMax then .ok (.loc st1.length) (st1++[.lst vs]) else .bad
 | .newd kvs=>if kvs.length<=15 then .ok (.loc st.length) (st++[.dct false (kvs.foldl (fun acc kv=>put (.str kv.1) (.int kv.2) acc) [])]) else .bad
 | .dict0 t=>.ok (.loc st.length) (st++[.dct t []])
 | .idx a i=>(ev call ρ st a).bind fun x st1=>(ev call ρ st1 i).bind fun y st2=>toR (idxV st2 x y) st2
 | .slc a l h=>(ev call ρ st a).bind fun x st1=>(ev call ρ st1 l).bind fun y st2=>onP (optI y) fun o=>(ev call ρ st2 h).bind fun z st3=>toR (slcV x o z) st3
 | .call f es=>(evs call ρ st es).bind fun vs st1=>call f vs st1
 | .blt b es=>(evs call ρ st es).bind fun vs st1=>toR (bltV b st1 vs) st1
 | .mth m o es=>(ev call ρ st o).bind fun x st1=>onO (mthOk m st1 x) fun _=>(evs call ρ st1 es).bind fun vs st2=>mthV m st2 x vs
 | .isi a ts=>(ev call ρ st a).bind fun x st1=>toR (isiV x ts) st1
 | .isx a cs ts=>(ev call ρ st a).bind fun x st1=>toR (isxV cs x ts) st1
 | .comp sl tg it c e=>(evi call ρ st it).bind fun xs st1 =>
  let ρ0:Env:=sl.map fun o=>o.bind fun j=>(ρ[j]?).join
  lstR (compL (fun x st2=>match bindT tg x ρ0 with
   |none=>.bad
   |some ρ1=>(ev call ρ1 st2 c).bind fun b st3=>onO (truV st3 b) fun k=>cond k ((ev call ρ1 st3 e).bind fun y st4=>.ok (some y) st4) (.ok none st3)) xs st1)
 | .nope=>.bad
 | .frz a=>(ev call ρ st a).bind fun x st1=>frzV x st1
 | .fst es=>fstR (evs call ρ st es)
 | .rep a b=>(ev call ρ st a).bind fun x st1=>(ev call ρ st1 b).bind fun y st2=>toR (repV x y) st2
 | .dix D a=>(ev call ρ st a).bind fun x st1=>toR (dixV D x) st1
 | .din a D=>(ev call ρ st a).bind fun x st1=>toR (dinV D x) st1
 | .thw a=>(ev call ρ st a).bind fun x st1=>thwV x st1
 | .nin a b=>(ev call ρ st a).bind fun x st1=>(ev call ρ st1 b).bind fun y st2=>toR (ninV st2 x y) st2
 | .fld c a f=>(ev call ρ st a).bind fun x st1=>toR (fldV c st1 x f) st1
 | .new c i es=>(evs call ρ st es).bind fun vs st1=>(noExc (call i (.loc st1.length::vs) (st1++[.ins c []]))).bind fun v st2=>newV st1.length v st2
 | .dgt a i=>(ev call ρ st a).bind fun x st1=>(ev call ρ st1 i).bind fun y st2=>toR (dgtV st2 x y) st2
 | .qcl i es=>(evs call ρ st es).bind fun vs st1=>noExc (call i vs st1)
 | .inn a b=>(ev call ρ st a).bind fun x st1=>(ev call ρ st1 b).bind fun y st2=>toR (innV st2 x y) st2
 | .mcl c i m o es=>(ev call ρ st o).bind fun x st1=>onO (insB c m st1 x) fun _=>(evs call ρ st1 es).bind fun vs st2=>call i (x::vs) st2
 | .dsub ks es i=>match evs call ρ st es with
  | .ok vs st1=>if ks.length=vs.length/\ks.length<=15 then (ev call ρ st1 i).bind fun y st2=>toR (dsubV ks vs y) st2 else .bad
  |_=>.bad
 | .isl a=>(ev call ρ st a).bind fun x st1=>toR (islV st1 x) st1
 | .cmx sl tg it e=>(evi call ρ st it).bind fun xs st1 =>
  let ρ0:Env:=sl.map fun o=>o.bind fun j=>(ρ[j]?).join
  if xs.length<=1000000 then lstX (compL (fun x st2=>match bindT tg x ρ0 with
   |none=>.bad
   |some ρ1=>(ev call ρ1 st2 e).bind fun y st4=>.ok (some y) st4) xs st1) else .bad
 | .cml sl tg i e=>(ev call ρ st i).bind fun v st1=>match v with
  | .loc n =>
   let ρ0:Env:=sl.map fun o=>o.bind fun j=>(ρ[j]?).join
   lstR (compV (fun x st2=>match bindT tg x ρ0 with
    |none=>.bad
    |some ρ1=>(ev call ρ1 st2 e).bind fun y st4=>.ok (some y) st4) n 1000000 0 st1)
  |_=>.bad
 | .nel a b=>(ev call ρ st a).bind fun x st1=>(ev call ρ st1 b).bind fun y st2=>toR (nelV st2 x y) st2
noncomputable def evs (call:Nat->List PV->Store->R PV)(ρ:Env)(st:Store):Ces->R (List PV)
 | .nil=>.ok [] st
 | .cons e es=>(ev call ρ st e).bind fun v st1=>(evs call ρ st1 es).bind fun vs st2=>.ok (v::vs) st2
noncomputable def evi (call:Nat->List PV->Store->R PV)(ρ:Env)(st:Store):Cit->R (List PV)
 | .seq e=>(ev call ρ st e).bind fun v st1=>match v with
  | .tp _ xs=>.ok xs st1
  | .lst xs=>.ok xs st1
  |_=>.bad
 | .range1 a=>(ev call ρ st a).bind fun x st1=>toL (rng1 x) st1
 | .range2 a b=>(ev call ρ st a).bind fun x st1=>(ev call ρ st1 b).bind fun y st2=>toL (rng2 x y) st2
 | .rangeD a b=>(ev call ρ st a).bind fun x st1=>(ev call ρ st1 b).bind fun y st2=>toL (rngD x y) st2
 | .enum e=>(ev call ρ st e).bind fun v st1=>match v with
  | .tp _ xs=>.ok (pairsUp 0 xs) st1
  |_=>.bad
 | .zip a b=>(ev call ρ st a).bind fun x st1=>(ev call ρ st1 b).bind fun y st2=>toL (zipV x y) st2
 | .revl e=>(ev call ρ st e).bind fun v st1=>toL (revL v) st1
 | .revr a=>(ev call ρ st a).bind fun x st1=>toL (rngR x) st1
 | .chars e=>(ev call ρ st e).bind fun v st1=>toL (charsV v) st1
end
noncomputable def R.fl {α:Type}(r:R α)(ρ:Env)(k:α->Store->Fl):Fl :=
 match r with
 | .ok a st=>k a st
 | .exc c st=>.exc c ρ st
 | .bad=>.bad
noncomputable def againF (f:Fl)(k:Env->Store->Fl):Fl :=
 match f with
 | .nx ρ st=>k ρ st
 | .ct ρ st=>k ρ st
 | .bk ρ st=>.nx ρ st
 |f=>f
noncomputable def forL (t:Tg)(body:Env->Store->Fl):List PV->Env->Store->Fl
 | [],ρ,st=>.nx ρ st
 |x::xs,ρ,st=>match bindT t x ρ with
  |none=>.bad
  |some ρ1=>againF (body ρ1 st) fun ρ2 st2=>forL t body xs ρ2 st2
noncomputable def forV (t:Tg)(body:Env->Store->Fl)(n:Nat):Nat->Nat->Env->Store->Fl
 |0,_,_,_=>.bad
 |f+1,i,ρ,st=>match st[n]? with
  |some (.lst xs)=>match xs[i]? with
   |some x=>(match bindT t x ρ with
    |none=>.bad
    |some ρ1=>againF (body ρ1 st) fun ρ2 st2=>forV t body n f (i+1) ρ2 st2)
   |none=>.nx ρ st
  |_=>.bad
noncomputable def whileL (test:Env->Store->R PV)(body:Env->Store->Fl):Nat->Env->Store->Fl
 |0,_,_=>.bad
 |n+1,ρ,st=>(test ρ st).fl ρ fun x st1=>onF (truV st1 x) fun k=>cond k (againF (body ρ st1) fun ρ2 st2=>whileL test body n ρ2 st2) (.nx ρ st1)
noncomputable def sixV (st:Store)(o i v:PV):Option Store :=
 match o with
 | .loc n=>match st[n]? with
  |some (.lst xs)=>match i with
   | .int k=>match ixI xs.length k with
    |some j=>some (st.set n (.lst (xs.set j v)))
    |none=>none
   |_=>none
  |_=>none
 |_=>none
noncomputable def dputV (st:Store)(o i v:PV):Option Store :=
 match o with
 | .loc n=>match st[n]? with
  |some (.dct t kvs)=>if isKey t i/\kvs.length<1000000 then some (st.set n (.dct t (put i v kvs))) else none
  |_=>none
 |_=>none
mutual
noncomputable def ex (call:Nat->List PV->Store->R PV)(ρ:Env)(st:Store):Cs->Fl
 | .expr e=>(ev call ρ st e).fl ρ fun _ st1=>.nx ρ st1
 | .asg t e=>(ev call ρ st e).fl ρ fun v st1=>match bindT t v ρ with
  |some ρ1=>.nx ρ1 st1
  |none=>.bad
 | .six o i e=>(ev call ρ st e).fl ρ fun v st1=>(ev call ρ st1 o).fl ρ fun x st2=>(ev call ρ st2 i).fl ρ fun y st3=>match sixV st3 x y v with
  |some st4=>.nx ρ st4
  |none=>.bad
 | .dput o i e=>(ev call ρ st e).fl ρ fun v st1=>(ev call ρ st1 o).fl ρ fun x st2=>(ev call ρ st2 i).fl ρ fun y st3=>match dputV st3 x y v with
  |some st4=>.nx ρ st4
  |none=>.bad
 | .aug i o e=>match ρ[i]? with
  |some (some x)=>(ev call ρ st e).fl ρ fun y st1=>match augV o x y with
   |some z=>.nx (ρ.set i (some z)) st1
   |none=>.bad
  |_=>.bad
 | .ret e=>(ev call ρ st e).fl ρ fun v st1=>.rt v st1
 | .ite c a b=>(ev call ρ st c).fl ρ fun x st1=>onF (truV st1 x) fun k=>cond k (exs call ρ st1 a) (exs call ρ st1 b)
 | .for t it b=>(evi call ρ st it).fl ρ fun xs st1=>forL t (fun ρ2 st2=>exs call ρ2 st2 b) xs ρ st1
 | .while c b=>whileL (fun ρ2 st2=>ev call ρ2 st2 c) (fun ρ2 st2=>exs call ρ2 st2 b) 100000 ρ st
 | .nope=>.bad
 | .brk=>.bk ρ st
 | .cnt=>.ct ρ st
 | .pass=>.nx ρ st
 | .raise c e=>(ev call ρ st e).fl ρ fun _ st1=>.exc c ρ st1
 | .try b cs i h=>match exs call ρ st b with
  | .exc d ρ1 st1=>if cs.contains d then (match exs call (ρ1.set i (some (.exn d))) st1 h with
   | .nx ρ2 st2=>.nx (ρ2.set i none) st2
   | .rt v st2=>.rt v st2
   |_=>.bad) else .bad
  |f=>f
 | .six2 o i p j e f=>(ev call ρ st e).fl ρ fun v st1=>(ev call ρ st1 f).fl ρ fun w st2=>(ev call ρ st2 o).fl ρ fun x st3=>(ev call ρ st3 i).fl ρ fun y st4=>match sixV st4 x y v with
  |none=>.bad
  |some st5=>(ev call ρ st5 p).fl ρ fun x2 st6=>(ev call ρ st6 j).fl ρ fun y2 st7=>match sixV st7 x2 y2 w with
   |some st8=>.nx ρ st8
   |none=>.bad
 | .mkr i D n es=>(ev call ρ st n).fl ρ fun x st1=>match mkV D (decide (i<ρ.length)) x with
  |some j=>((evs call (ρ.set i none) st1 es).bind fun vs st2=>call j vs st2).fl (ρ.set i none) fun v st3=>.rt v st3
  |none=>.bad
 | .forl t e b=>(ev call ρ st e).fl ρ fun v st1=>match v with
  | .tp _ xs=>forL t (fun ρ2 st2=>exs call ρ2 st2 b) xs ρ st1
  | .lst xs=>forL t (fun ρ2 st2=>exs call ρ2 st2 b) xs ρ st1
  | .loc n=>forV t (fun ρ2 st2=>exs call ρ2 st2 b) n 100000 0 ρ st1
  |_=>.bad
 | .sfl c o f e=>(ev call ρ st e).fl ρ fun v st1=>(ev call ρ st1 o).fl ρ fun x st2=>match sflV c st2 x f v with
  |some st3=>.nx ρ st3
  |none=>.bad
noncomputable def exs (call:Nat->List PV->Store->R PV)(ρ:Env)(st:Store):Css->Fl
 | .nil=>.nx ρ st
 | .cons s ss=>match ex call ρ st s with
  | .nx ρ1 st1=>exs call ρ1 st1 ss
  |f=>f
end
structure Fn where
 np:Nat
 ns:Nat
 pure:Bool
 body:Css
noncomputable def callT (T:Nat->Option Fn):Nat->Nat->List PV->Store->R PV
 |0,_,_,_=>.bad
 |k+1,f,args,st=>match T f with
  |none=>.bad
  |some fn=>if args.length=fn.np then
    if fn.pure then
     if noLocs args then match exs (callT T k) (args.map some++List.replicate (fn.ns - fn.np) none) [] fn.body with
      | .rt v _=>if noLoc v then .ok v st else .bad
      | .nx _ _=>.ok .non st
      | .exc c _ _=>.exc c st
      |_=>.bad
     else .bad
    else match exs (callT T k) (args.map some++List.replicate (fn.ns - fn.np) none) st fn.body with
     | .rt v st1=>.ok v st1
     | .nx _ st1=>.ok .non st1
     | .exc c _ st1=>.exc c st1
     |_=>.bad
   else .bad
def RLe {α:Type}(r q:R α):Prop:=r=.bad \/ r=q
def FLe (f g:Fl):Prop:=f=.bad \/ f=g
noncomputable abbrev Cl:=Nat->List PV->Store->R PV
def CLe (c d:Cl):Prop:=∀f a s,RLe (c f a s) (d f a s)
theorem RLe.rfl {α:Type}{r:R α}:RLe r r:=.inr (Eq.refl _)
theorem FLe.rfl {f:Fl}:FLe f f:=.inr (Eq.refl _)
theorem RLe.bind {α β:Type}{r q:R α}{k l:α->Store->R β}(h:RLe r q)(hk:∀a s,RLe (k a s) (l a s)):RLe (r.bind k) (q.bind l):=by
 rcases h with h|h
 ·subst h;exact .inl (Eq.refl _)
 ·subst h
  cases r with
  |ok a s=>exact hk a s
  |exc c s=>exact .rfl
  |bad=>exact .rfl
theorem RLe.fl {α:Type}{r q:R α}{ρ:Env}{k l:α->Store->Fl}(h:RLe r q)(hk:∀a s,FLe (k a s) (l a s)):FLe (r.fl ρ k) (q.fl ρ l):=by
 rcases h with h|h
 ·subst h;exact .inl (Eq.refl _)
 ·subst h
  cases r with
  |ok a s=>exact hk a s
  |exc c s=>exact .rfl
  |bad=>exact .rfl
theorem RLe.comp {r q:R (List PV)}(h:RLe r q):RLe (lstR r) (lstR q):=by
 rcases h with h|h
 ·subst h;exact .inl (Eq.refl _)
 ·subst h;exact .rfl
theorem RLe.compX {r q:R (List PV)}(h:RLe r q):RLe (lstX r) (lstX q):=by
 rcases h with h|h
 ·subst h;exact .inl (Eq.refl _)
 ·subst h;exact .rfl
theorem zg9 {α:Type}{x:PV}{k l:Bool->R α}(h:∀b,RLe (k b) (l b)):RLe (onBl x k) (onBl x l):=by
 cases x with
 |bl b=>exact h b
 |_=>exact .rfl
theorem zeM {α:Type}{x:Option Bool}{k l:Bool->R α}(h:∀b,RLe (k b) (l b)):RLe (onO x k) (onO x l):=by
 cases x with
 |some b=>exact h b
 |none=>exact .rfl
theorem zjj {x:Option Bool}{k l:Bool->Fl}(h:∀b,FLe (k b) (l b)):FLe (onF x k) (onF x l):=by
 cases x with
 |some b=>exact h b
 |none=>exact .rfl
theorem zlv {α:Type}{x:Option (Option Int)}{k l:Option Int->R α}(h:∀b,RLe (k b) (l b)):RLe (onP x k) (onP x l):=by
 cases x with
 |some b=>exact h b
 |none=>exact .rfl
theorem zcB {α:Type}{b:Bool}{r q r' q':R α}(h:RLe r q)(h':RLe r' q'):RLe (cond b r r') (cond b q q'):=by
 cases b
 ·exact h'
 ·exact h
theorem zfH {b:Bool}{r q r' q':Fl}(h:FLe r q)(h':FLe r' q'):FLe (cond b r r') (cond b q q'):=by
 cases b
 ·exact h'
 ·exact h
theorem zcp {f g:PV->Store->R (Option PV)}(h:∀x s,RLe (f x s) (g x s)):∀xs s,RLe (compL f xs s) (compL g xs s)
 | [],s=>.rfl
 |x::xs,s=>(h x s).bind fun o s1=>(zcp h xs s1).bind fun ys s2=>.rfl
theorem zfM {f g:PV->Store->R (Option PV)}(h:∀x s,RLe (f x s) (g x s))(n:Nat):∀(k i:Nat) (s:Store),RLe (compV f n k i s) (compV g n k i s)
 |0,i,s=>by simp only [compV];exact .rfl
 |k+1,i,s=>by
  simp only [compV]
  split
  ·split
   ·exact (h _ s).bind fun o s1=>(zfM h n k (i+1) s1).bind fun ys s2=>.rfl
   ·exact .rfl
  ·exact .rfl
theorem zcP {f g:Fl}{k l:Env->Store->Fl}(h:FLe f g)(hk:∀ρ s,FLe (k ρ s) (l ρ s)):FLe (againF f k) (againF g l):=by
 rcases h with h|h
 ·subst h;exact .inl (Eq.refl _)
 ·subst h
  cases f with
  |nx ρ s=>exact hk ρ s
  |ct ρ s=>exact hk ρ s
  |_=>exact .rfl
theorem zdv {t:Tg}{f g:Env->Store->Fl}(h:∀ρ s,FLe (f ρ s) (g ρ s)):∀xs ρ s,FLe (forL t f xs ρ s) (forL t g xs ρ s)
 | [],ρ,s=>.rfl
 |x::xs,ρ,s=>by
  unfold forL
  cases bindT t x ρ with
  |none=>exact .rfl
  |some ρ1=>exact zcP (h ρ1 s) fun ρ2 s2=>zdv h xs ρ2 s2
theorem zhf {t:Tg}{f g:Env->Store->Fl}{n:Nat}(h:∀ρ s,FLe (f ρ s) (g ρ s)):∀k i ρ s,FLe (forV t f n k i ρ s) (forV t g n k i ρ s)
 |0,i,ρ,s=>.rfl
 |k+1,i,ρ,s=>by
  unfold forV
  cases s[n]? with
  |none=>exact .rfl
  |some o =>
   cases o with
   |lst xs =>
    dsimp only
    cases xs[i]? with
    |none=>exact .rfl
    |some x =>
     dsimp only
     cases bindT t x ρ with
     |none=>exact .rfl
     |some ρ1=>exact zcP (h ρ1 s) fun ρ2 s2=>zhf h k (i+1) ρ2 s2
   |_=>exact .rfl
theorem zeC {t u:Env->Store->R PV}{f g:Env->Store->Fl}(ht:∀ρ s,RLe (t ρ s) (u ρ s))(h:∀ρ s,FLe (f ρ s) (g ρ s)):∀n ρ s,FLe (whileL t f n ρ s) (whileL u g n ρ s)
 |0,ρ,s=>.rfl
 |n+1,ρ,s=>by
  unfold whileL
  exact (ht ρ s).fl fun x s1=>zjj fun b=>zfH (zcP (h ρ s1) fun ρ2 s2=>zeC ht h n ρ2 s2) .rfl
mutual
theorem zq {c d:Cl}(h:CLe c d):∀(e:Ce) (ρ:Env) (s:Store),RLe (ev c ρ s e) (ev d ρ s e)
 | .cst v,ρ,s=>by simp only [ev];exact .rfl
 | .var i,ρ,s=>by simp only [ev];exact .rfl
 | .bin o a b,ρ,s=>by
  simp only [ev]
  exact (zq h a ρ s).bind fun x s1=>(zq h b ρ s1).bind fun y s2=>.rfl
 | .neg a,ρ,s=>by
  simp only [ev]
  exact (zq h a ρ s).bind fun x s1=>.rfl
 | .not a,ρ,s=>by
  simp only [ev]
  exact (zq h a ρ s).bind fun x s1=>.rfl
 | .and a b,ρ,s=>by
  simp only [ev]
  refine (zq h a ρ s).bind fun x s1=>?_
  exact zg9 fun k=>zcB (zq h b ρ s1) .rfl
 | .or a b,ρ,s=>by
  simp only [ev]
  refine (zq h a ρ s).bind fun x s1=>?_
  exact zg9 fun k=>zcB .rfl (zq h b ρ s1)
 | .cmp o a b,ρ,s=>by
  simp only [ev]
  exact (zq h a ρ s).bind fun x s1=>(zq h b ρ s1).bind fun y s2=>.rfl
 | .chain o p a b k,ρ,s=>by
  simp only [ev]
  refine (zq h a ρ s).bind fun x s1=>(zq h b ρ s1).bind fun y s2=>?_
  exact zeM fun q=>zcB ((zq h k ρ s2).bind fun z s3=>.rfl) .rfl
 | .ite k a b,ρ,s=>by
  simp only [ev]
  exact (zq h k ρ s).bind fun x s1=>zeM fun q=>zcB (zq h a ρ s1) (zq h b ρ s1)
 | .tup es,ρ,s=>by
  simp only [ev]
  exact (zaE h es ρ s).bind fun x s1=>.rfl
 | .lst es,ρ,s=>by
  simp only [ev]
  exact (zaE h es ρ s).bind fun x s1=>.rfl
 | .newl es,ρ,s=>by
  simp only [ev]
  exact (zaE h es ρ s).bind fun x s1=>.rfl
 | .newd kvs,ρ,s=>by simp only [ev];exact .rfl
 | .dict0 t,ρ,s=>by simp only [ev];exact .rfl
 | .idx a i,ρ,s=>by
  simp only [ev]
  exact (zq h a ρ s).bind fun x s1=>(zq h i ρ s1).bind fun y s2=>.rfl
 | .slc a l u,ρ,s=>by
  simp only [ev]
  exact (zq h a ρ s).bind fun x s1=>(zq h l ρ s1).bind fun y s2=>zlv fun o=>(zq h u ρ s2).bind fun z s3=>.rfl
 | .call f es,ρ,s=>by
  simp only [ev]
  exact (zaE h es ρ s).bind fun x s1=>h f x s1
 | .blt b es,ρ,s=>by
  simp only [ev]
  exact (zaE h es ρ s).bind fun x s1=>.rfl
 | .mth m o es,ρ,s=>by
  simp only [ev]
  exact (zq h o ρ s).bind fun x s1=>zeM fun _=>(zaE h es ρ s1).bind fun y s2=>.rfl
 | .isi a ts,ρ,s=>by
  simp only [ev]
  exact (zq h a ρ s).bind fun x s1=>.rfl
 | .isx a cs ts,ρ,s=>by
  simp only [ev]
  exact (zq h a ρ s).bind fun x s1=>.rfl
 | .comp sl tg it k e,ρ,s=>by
  simp only [ev]
  refine (zgB h it ρ s).bind fun xs s1=>?_
  have q:=fun (f g:PV->Store->R (Option PV)) (hfg:∀x s,RLe (f x s) (g x s))=>zcp hfg xs s1
  refine RLe.comp (zcp (fun x s2=>?_) xs s1)
  cases bindT tg x _ with
  |none=>exact .rfl
  |some ρ1 =>
   dsimp only
   exact (zq h k ρ1 s2).bind fun b s3=>zeM fun q=>zcB ((zq h e ρ1 s3).bind fun y s4=>.rfl) .rfl
 | .nope,ρ,s=>by simp only [ev];exact .rfl
 | .frz a,ρ,s=>by
  simp only [ev]
  exact (zq h a ρ s).bind fun x s1=>.rfl
 | .fst es,ρ,s=>by
  simp only [ev]
  rcases zaE h es ρ s with e|e
  ·rw [e];exact .inl (Eq.refl _)
  ·rw [e];exact .rfl
 | .rep a b,ρ,s=>by
  simp only [ev]
  exact (zq h a ρ s).bind fun x s1=>(zq h b ρ s1).bind fun y s2=>.rfl
 | .dix D a,ρ,s=>by
  simp only [ev]
  exact (zq h a ρ s).bind fun x s1=>.rfl
 | .din a D,ρ,s=>by
  simp only [ev]
  exact (zq h a ρ s).bind fun x s1=>.rfl
 | .thw a,ρ,s=>by
  simp only [ev]
  exact (zq h a ρ s).bind fun x s1=>.rfl
 | .nin a b,ρ,s=>by
  simp only [ev]
  exact (zq h a ρ s).bind fun x s1=>(zq h b ρ s1).bind fun y s2=>.rfl
 | .fld q a f,ρ,s=>by
  simp only [ev]
  exact (zq h a ρ s).bind fun x s1=>.rfl
 | .new q i es,ρ,s=>by
  simp only [ev]
  refine (zaE h es ρ s).bind fun x s1=>RLe.bind ?_ fun v s2=>.rfl
  rcases h i (.loc s1.length::x) (s1++[.ins q []]) with e|e
  ·rw [e];exact .inl (Eq.refl _)
  ·rw [e];exact .rfl
 | .dgt a i,ρ,s=>by
  simp only [ev]
  exact (zq h a ρ s).bind fun x s1=>(zq h i ρ s1).bind fun y s2=>.rfl
 | .qcl i es,ρ,s=>by
  simp only [ev]
  refine (zaE h es ρ s).bind fun x s1=>?_
  rcases h i x s1 with e|e
  ·rw [e];exact .inl (Eq.refl _)
  ·rw [e];exact .rfl
 | .inn a b,ρ,s=>by
  simp only [ev]
  exact (zq h a ρ s).bind fun x s1=>(zq h b ρ s1).bind fun y s2=>.rfl
 | .mcl q i m o es,ρ,s=>by
  simp only [ev]
  exact (zq h o ρ s).bind fun x s1=>zeM fun _=>(zaE h es ρ s1).bind fun y s2=>h i (x::y) s2
 | .dsub ks es i,ρ,s=>by
  simp only [ev]
  rcases zaE h es ρ s with hq|hq
  ·rw [hq];exact .inl rfl
  ·rw [hq]
   cases evs d ρ s es with
   |ok vs s1 =>
    dsimp only
    split
    ·exact (zq h i ρ s1).bind fun x s2=>.rfl
    ·exact .inl rfl
   |exc k s1=>exact .inl rfl
   |bad=>exact .inl rfl
 | .isl a,ρ,s=>by
  simp only [ev]
  exact (zq h a ρ s).bind fun x s1=>.rfl
 | .cmx sl tg it e,ρ,s=>by
  simp only [ev]
  refine (zgB h it ρ s).bind fun xs s1=>?_
  split
  ·refine RLe.compX (zcp (fun x s2=>?_) xs s1)
   cases bindT tg x _ with
   |none=>exact .rfl
   |some ρ1 =>
    dsimp only
    exact (zq h e ρ1 s2).bind fun y s4=>.rfl
  ·exact .rfl
 | .cml sl tg i e,ρ,s=>by
  simp only [ev]
  refine (zq h i ρ s).bind fun v s1=>?_
  split
  ·refine RLe.comp (zfM (fun x s2=>?_) _ _ _ _)
   cases bindT tg x _ with
   |none=>exact .rfl
   |some ρ1 =>
    dsimp only
    exact (zq h e ρ1 s2).bind fun y s4=>.rfl
  ·exact .rfl
 | .nel a b,ρ,s=>by
  simp only [ev]
  exact (zq h a ρ s).bind fun x s1=>(zq h b ρ s1).bind fun y s2=>.rfl
theorem zaE {c d:Cl}(h:CLe c d):∀(e:Ces) (ρ:Env) (s:Store),RLe (evs c ρ s e) (evs d ρ s e)
 | .nil,ρ,s=>by simp only [evs];exact .rfl
 | .cons e es,ρ,s=>by
  simp only [evs]
  exact (zq h e ρ s).bind fun x s1=>(zaE h es ρ s1).bind fun y s2=>.rfl
theorem zgB {c d:Cl}(h:CLe c d):∀(e:Cit) (ρ:Env) (s:Store),RLe (evi c ρ s e) (evi d ρ s e)
 | .seq e,ρ,s=>by
  simp only [evi]
  exact (zq h e ρ s).bind fun x s1=>.rfl
 | .range1 a,ρ,s=>by
  simp only [evi]
  exact (zq h a ρ s).bind fun x s1=>.rfl
 | .range2 a b,ρ,s=>by
  simp only [evi]
  exact (zq h a ρ s).bind fun x s1=>(zq h b ρ s1).bind fun y s2=>.rfl
 | .rangeD a b,ρ,s=>by
  simp only [evi]
  exact (zq h a ρ s).bind fun x s1=>(zq h b ρ s1).bind fun y s2=>.rfl
 | .enum e,ρ,s=>by
  simp only [evi]
  exact (zq h e ρ s).bind fun x s1=>.rfl
 | .zip a b,ρ,s=>by
  simp only [evi]
  exact (zq h a ρ s).bind fun x s1=>(zq h b ρ s1).bind fun y s2=>.rfl
 | .revl e,ρ,s=>by
  simp only [evi]
  exact (zq h e ρ s).bind fun x s1=>.rfl
 | .revr e,ρ,s=>by
  simp only [evi]
  exact (zq h e ρ s).bind fun x s1=>.rfl
 | .chars e,ρ,s=>by
  simp only [evi]
  exact (zq h e ρ s).bind fun x s1=>.rfl
end
mutual
theorem zmK {c d:Cl}(h:CLe c d):∀(x:Cs) (ρ:Env) (s:Store),FLe (ex c ρ s x) (ex d ρ s x)
 | .expr e,ρ,s=>by
  simp only [ex]
  exact (zq h e ρ s).fl fun x s1=>.rfl
 | .asg t e,ρ,s=>by
  simp only [ex]
  exact (zq h e ρ s).fl fun x s1=>.rfl
 | .six o i e,ρ,s=>by
  simp only [ex]
  exact (zq h e ρ s).fl fun x s1=>(zq h o ρ s1).fl fun y s2=>(zq h i ρ s2).fl fun z s3=>.rfl
 | .dput o i e,ρ,s=>by
  simp only [ex]
  exact (zq h e ρ s).fl fun x s1=>(zq h o ρ s1).fl fun y s2=>(zq h i ρ s2).fl fun z s3=>.rfl
 | .aug i o e,ρ,s=>by
  simp only [ex]
  split
  ·exact (zq h e ρ s).fl fun x s1=>.rfl
  ·exact .rfl
 | .ret e,ρ,s=>by
  simp only [ex]
  exact (zq h e ρ s).fl fun x s1=>.rfl
 | .ite k a b,ρ,s=>by
  simp only [ex]
  exact (zq h k ρ s).fl fun x s1=>zjj fun q=>zfH (zaN h a ρ s1) (zaN h b ρ s1)
 | .for t it b,ρ,s=>by
  simp only [ex]
  exact (zgB h it ρ s).fl fun xs s1=>zdv (fun ρ2 s2=>zaN h b ρ2 s2) xs ρ s1
 | .forl t e b,ρ,s=>by
  simp only [ex]
  refine (zq h e ρ s).fl fun x s1=>?_
  cases x with
  |tp k xs=>exact zdv (fun ρ2 s2=>zaN h b ρ2 s2) xs ρ s1
  |lst xs=>exact zdv (fun ρ2 s2=>zaN h b ρ2 s2) xs ρ s1
  |loc n=>exact zhf (fun ρ2 s2=>zaN h b ρ2 s2) 100000 0 ρ s1
  |_=>exact .rfl
 | .while k b,ρ,s=>by
  simp only [ex]
  exact zeC (fun ρ2 s2=>zq h k ρ2 s2) (fun ρ2 s2=>zaN h b ρ2 s2) _ ρ s
 | .nope,ρ,s=>by simp only [ex];exact .rfl
 | .brk,ρ,s=>by simp only [ex];exact .rfl
 | .cnt,ρ,s=>by simp only [ex];exact .rfl
 | .pass,ρ,s=>by simp only [ex];exact .rfl
 | .raise k e,ρ,s=>by
  simp only [ex]
  exact (zq h e ρ s).fl fun x s1=>.rfl
 | .try b k i u,ρ,s=>by
  simp only [ex]
  rcases zaN h b ρ s with e|e
  ·rw [e];exact .inl (Eq.refl _)
  ·rw [e]
   cases exs d ρ s b with
   |exc q ρ1 s1 =>
    dsimp only
    split
    ·rcases zaN h u (ρ1.set i (some (.exn q))) s1 with e|e
     ·rw [e];exact .inl (Eq.refl _)
     ·rw [e];exact .rfl
    ·exact .rfl
   |_=>exact .rfl
 | .six2 o i p j e f,ρ,s=>by
  simp only [ex]
  refine (zq h e ρ s).fl fun v s1=>(zq h f ρ s1).fl fun w s2=>(zq h o ρ s2).fl fun x s3=>(zq h i ρ s3).fl fun y s4=>?_
  split
  ·exact .rfl
  ·exact (zq h p ρ _).fl fun x2 s6=>(zq h j ρ s6).fl fun y2 s7=>.rfl
 | .mkr i D n es,ρ,s=>by
  simp only [ex]
  refine (zq h n ρ s).fl fun x s1=>?_
  split
  ·exact ((zaE h es _ s1).bind fun vs s2=>h _ vs s2).fl fun v s3=>.rfl
  ·exact .rfl
 | .sfl q o f e,ρ,s=>by
  simp only [ex]
  exact (zq h e ρ s).fl fun x s1=>(zq h o ρ s1).fl fun y s2=>.rfl
theorem zaN {c d:Cl}(h:CLe c d):∀(x:Css) (ρ:Env) (s:Store),FLe (exs c ρ s x) (exs d ρ s x)
 | .nil,ρ,s=>by simp only [exs];exact .rfl
 | .cons x xs,ρ,s=>by
  simp only [exs]
  rcases zmK h x ρ s with e|e
  ·rw [e];exact .inl (Eq.refl _)
  ·rw [e]
   cases ex d ρ s x with
   |nx ρ1 s1=>exact zaN h xs ρ1 s1
   |_=>exact .rfl
end
theorem zeD (T:Nat->Option Fn):∀k,CLe (callT T k) (callT T (k+1))
 |0,f,a,s=>.inl (Eq.refl _)
 |k+1,f,a,s=>by
  have h:=zeD T k
  rw [callT,callT]
  cases T f with
  |none=>exact .rfl
  |some fn =>
   dsimp only
   split
   ·split
    ·split
     ·rcases zaN h fn.body (a.map some++List.replicate (fn.ns - fn.np) none) [] with e|e
      ·rw [e];exact .inl (Eq.refl _)
      ·rw [e];exact .rfl
     ·exact .rfl
    ·rcases zaN h fn.body (a.map some++List.replicate (fn.ns - fn.np) none) s with e|e
     ·rw [e];exact .inl (Eq.refl _)
     ·rw [e];exact .rfl
   ·exact .rfl
theorem zfB {T:Nat->Option Fn}{k:Nat}{f:Nat}{a:List PV}{s s':Store}{v:PV}(h:callT T k f a s=.ok v s'):∀j,callT T (k+j) f a s=.ok v s'
 |0=>h
 |j+1=>by
  have q:=zfB h j
  rcases zeD T (k+j) f a s with e|e
  ·rw [q] at e;cases e
  ·rw [Nat.add_assoc] at e
   rw [<- e];exact q
end IC
namespace L2
open PySem PySem.Spec PyProof.Rows IC
noncomputable abbrev Ph:=List (Option Addr)
section
variable (K:PySem.W.Frag)(cl:Nat->Addr)(B:Addr->Prop)(φ:Ph)(H:Hp)
def RTup (k:Bool)(a:Addr)(xs:List V):Prop:=(H a=some (.tup xs)/\¬B a/\some a∉φ) \/
 k=true/\∃(o:Obj) (its:Array Value) (n:Nat),K.lookup a=some o/\o.cls=.type "tuple"/\o.data=.seq its n/\its.size<=sizeLine/\Vals xs its.toList
def RLst (a:Addr)(xs:List V):Prop:=H a=some (.lst xs)/\¬B a/\some a∉φ
def RScr (a:Addr)(xs:List V):Prop:=(Rd H a (.lst xs)/\¬B a/\some a∉φ) \/
 ∃(o:Obj) (its:Array Value) (n:Nat),K.lookup a=some o/\o.cls=.type "list"/\o.dict=none/\o.data=.seq its n/\its.size<=sizeLine/\Vals xs its.toList
mutual
noncomputable def RepV:PV->V->Prop
 | .non,x=>x=.non
 | .bl b,x=>x=.bl b
 | .int i,x=>x=.int i
 | .str s,x=>x=.str s
 | .tp k vs,x=>∃a xs,x=.ref a/\RTup K B φ H k a xs/\RepL vs xs
 | .lst vs,x=>∃a xs,x=.ref a/\RLst B φ H a xs/\RepL vs xs
 | .loc n,x=>n<φ.length/\∃a,x=.ref a/\∀b,φ[n]?=some (some b)->b=a
 | .exn c,x=>∃a,x=.ref a/\H a=some (.ext (ExcO a (cl c)))/\¬B a/\some a∉φ
 | .scr vs,x=>∃a xs,x=.ref a/\RScr K B φ H a xs/\RepL vs xs
noncomputable def RepL:List PV->List V->Prop
 | [],xs=>xs=[]
 |v::vs,xs=>∃y ys,xs=y::ys/\RepV v y/\RepL vs ys
end
noncomputable def keyP:Key->PV
 | .inl i=>.int i
 | .inr y=>.str y
noncomputable def DK:List (PV×PV)->List (Key×V)->Prop
 | [],ks=>ks=[]
 | (k,v)::r,ks=>∃q x s,ks=(q,x)::s/\k=keyP q/\RepV K cl B φ H v x/\DK r s
noncomputable def DT:List (PV×PV)->List (List Key×V)->Prop
 | [],ks=>ks=[]
 | (k,v)::r,ks=>∃q x s,ks=(q,x)::s/\k=.tup (q.map keyP)/\RepV K cl B φ H v x/\DT r s
noncomputable def FS:List (Str×PV)->List (Str×V)->Prop
 | [],ks=>ks=[]
 | (k,v)::r,ks=>∃x s,ks=(k,x)::s/\RepV K cl B φ H v x/\FS r s
noncomputable def RepO:Ob->Addr->Prop
 | .lst vs,a=>∃xs,H a=some (.lst xs)/\RepL K cl B φ H vs xs
 | .dct false kvs,a=>∃ks,H a=some (.dK ks)/\DK K cl B φ H kvs ks
 | .dct true kvs,a=>∃ks,H a=some (.dT ks)/\DT K cl B φ H kvs ks
 | .dead,_=>False
 | .ins c fs,a=>∃ks,(∃dx,H a=some (.ins (cl c) dx ks))/\FS K cl B φ H fs ks
structure RepS (st:Store):Prop where
 len:φ.length=st.length
 inj:∀(m n:Nat) (a:Addr),φ[m]?=some (some a)->φ[n]?=some (some a)->m=n
 obj:∀(n:Nat) (a:Addr),φ[n]?=some (some a)->∃o,st[n]?=some o/\RepO K cl B φ H o a
 liv:∀(n:Nat) (o:Ob),st[n]?=some o->o ≠ .dead->∃a,φ[n]?=some (some a)
 nb:∀a,some a∈φ->¬B a
 dom:∀a,B a->∃o,H a=some o
structure RepE (ρ:IC.Env)(σ:St):Prop where
 len:ρ.length=σ.length
 get:∀(i:Nat) (v:PV),ρ[i]?=some (some v)->∃x,σ[i]?=some (some x)/\RepV K cl B φ H v x
end
structure Step (φ:Ph)(H:Hp)(φ':Ph)(H':Hp):Prop where
 keep:∀b o,some b∉φ->H b=some o->H' b=some o
 len:φ.length<=φ'.length
 pre:∀(n:Nat) (a:Addr),n<φ.length->φ'[n]?=some (some a)->φ[n]?=some (some a)
 new:∀b,some b∈φ'->some b∈φ \/ H b=none
theorem Step.rfl {φ:Ph}{H:Hp}:Step φ H φ H:=⟨fun _ _ _ e=>e,Nat.le_refl _,fun _ _ _ e=>e,fun _ h=>.inl h⟩
theorem Step.trans {φ φ1 φ2:Ph}{H H1 H2:Hp}(s:Step φ H φ1 H1)(t:Step φ1 H1 φ2 H2):Step φ H φ2 H2:=by
 refine ⟨fun b o n e=>?_,Nat.le_trans s.len t.len,fun n a hn e=>s.pre n a hn (t.pre n a (Nat.lt_of_lt_of_le hn s.len) e),fun b hb=>?_⟩
 ·refine t.keep b o (fun h=>?_) (s.keep b o n e)
  rcases s.new b h with q|q
  ·exact n q
  ·rw [e] at q;cases q
 ·rcases t.new b hb with q|q
  ·exact s.new b q
  ·by_cases h:some b∈φ
   ·exact .inl h
   ·refine .inr ?_
    cases e:H b with
    |none=>exact Eq.refl _
    |some o=>rw [s.keep b o h e] at q;cases q
section
variable {K:PySem.W.Frag}{cl:Nat->Addr}{B:Addr->Prop}{φ φ':Ph}{H H':Hp}{st:Store}{ρ:IC.Env}{σ:St}
theorem Rd.step (s:Step φ H φ' H'){a:Addr}{u:HO}(n:some a∉φ)(r:Rd H a u):Rd H' a u/\some a∉φ':=by
 have h:∃o,H a=some o:=by
  rcases r with r|⟨o,r⟩ <;> exact ⟨_,r⟩
 refine ⟨?_,fun z=>?_⟩
 ·rcases r with r|⟨o,r⟩
  ·exact .inl (s.keep _ _ n r)
  ·exact .inr ⟨o,s.keep _ _ n r⟩
 ·obtain ⟨o,e⟩:=h
  rcases s.new a z with q|q
  ·exact n q
  ·rw [e] at q;cases q
theorem RTup.step (s:Step φ H φ' H'){k:Bool}{a:Addr}{xs:List V}(r:RTup K B φ H k a xs):RTup K B φ' H' k a xs:=by
 rcases r with ⟨r,b,n⟩|r
 ·obtain ⟨_,n'⟩:=(Rd.of r).step s n
  exact .inl ⟨s.keep _ _ n r,b,n'⟩
 ·exact .inr r
theorem RLst.step (s:Step φ H φ' H'){a:Addr}{xs:List V}(r:RLst B φ H a xs):RLst B φ' H' a xs:=by
 obtain ⟨r,b,n⟩:=r
 obtain ⟨_,n'⟩:=(Rd.of r).step s n
 exact ⟨s.keep _ _ n r,b,n'⟩
theorem RScr.step (s:Step φ H φ' H'){a:Addr}{xs:List V}(r:RScr K B φ H a xs):RScr K B φ' H' a xs:=by
 rcases r with ⟨r,b,n⟩|r
 ·obtain ⟨r',n'⟩:=r.step s n
  exact .inl ⟨r',b,n'⟩
 ·exact .inr r
mutual
theorem RepV.step (s:Step φ H φ' H'):∀(v:PV) (x:V),RepV K cl B φ H v x->RepV K cl B φ' H' v x
 | .non,x,h=>by simp only [RepV] at h ⊢;exact h
 | .bl b,x,h=>by simp only [RepV] at h ⊢;exact h
 | .int i,x,h=>by simp only [RepV] at h ⊢;exact h
 | .str y,x,h=>by simp only [RepV] at h ⊢;exact h
 | .tp k vs,x,h=>by
  simp only [RepV] at h ⊢
  obtain ⟨a,xs,e,r,l⟩:=h
  exact ⟨a,xs,e,r.step s,RepL.step s vs xs l⟩
 | .lst vs,x,h=>by
  simp only [RepV] at h ⊢
  obtain ⟨a,xs,e,r,l⟩:=h
  exact ⟨a,xs,e,r.step s,RepL.step s vs xs l⟩
 | .loc n,x,h=>by
  simp only [RepV] at h ⊢
  obtain ⟨h1,a,e,h2⟩:=h
  exact ⟨Nat.lt_of_lt_of_le h1 s.len,a,e,fun b q=>h2 b (s.pre n b h1 q)⟩
 | .exn c,x,h=>by
  simp only [RepV] at h ⊢
  obtain ⟨a,e,r,b,n⟩:=h
  obtain ⟨_,n'⟩:=(Rd.of r).step s n
  exact ⟨a,e,s.keep _ _ n r,b,n'⟩
 | .scr vs,x,h=>by
  simp only [RepV] at h ⊢
  obtain ⟨a,xs,e,r,l⟩:=h
  exact ⟨a,xs,e,r.step s,RepL.step s vs xs l⟩
theorem RepL.step (s:Step φ H φ' H'):∀(v:List PV) (x:List V),RepL K cl B φ H v x->RepL K cl B φ' H' v x
 | [],x,h=>by simp only [RepL] at h ⊢;exact h
 |v::vs,x,h=>by
  simp only [RepL] at h ⊢
  obtain ⟨y,ys,e,r,l⟩:=h
  exact ⟨y,ys,e,RepV.step s v y r,RepL.step s vs ys l⟩
end
theorem RepE.step (s:Step φ H φ' H')(r:RepE K cl B φ H ρ σ):RepE K cl B φ' H' ρ σ:=⟨r.len,fun i v e=>by
 obtain ⟨x,h,q⟩:=r.get i v e
 exact ⟨x,h,q.step s⟩⟩
mutual
theorem RepV.inn (hn:∀a,some a∈φ->¬B a):∀(v:PV) (x:V),noLoc v=true->RepV K cl B φ H v x->RepV K cl (fun a=>B a \/ some a∈φ) [] H v x
 | .non,x,_,h=>by simp only [RepV] at h ⊢;exact h
 | .bl b,x,_,h=>by simp only [RepV] at h ⊢;exact h
 | .int i,x,_,h=>by simp only [RepV] at h ⊢;exact h
 | .str y,x,_,h=>by simp only [RepV] at h ⊢;exact h
 | .tp k vs,x,q,h=>by
  simp only [RepV] at h ⊢
  obtain ⟨a,xs,e,r,l⟩:=h
  refine ⟨a,xs,e,?_,RepL.inn hn vs xs (by simpa only [noLoc] using q) l⟩
  rcases r with ⟨r,b,n⟩|r
  ·exact .inl ⟨r,fun z=>z.elim b n,by simp⟩
  ·exact .inr r
 | .lst vs,x,q,h=>by
  simp only [RepV] at h ⊢
  obtain ⟨a,xs,e,⟨r,b,n⟩,l⟩:=h
  exact ⟨a,xs,e,⟨r,fun z=>z.elim b n,by simp⟩,RepL.inn hn vs xs (by simpa only [noLoc] using q) l⟩
 | .loc n,x,q,h=>by simp [noLoc] at q
 | .exn c,x,q,h=>by simp [noLoc] at q
 | .scr vs,x,q,h=>by
  simp only [RepV] at h ⊢
  obtain ⟨a,xs,e,r,l⟩:=h
  refine ⟨a,xs,e,?_,RepL.inn hn vs xs (by simpa only [noLoc] using q) l⟩
  rcases r with ⟨r,b,n⟩|r
  ·exact .inl ⟨r,fun z=>z.elim b n,by simp⟩
  ·exact .inr r
theorem RepL.inn (hn:∀a,some a∈φ->¬B a):∀(v:List PV) (x:List V),noLocs v=true->RepL K cl B φ H v x->RepL K cl (fun a=>B a \/ some a∈φ) [] H v x
 | [],x,_,h=>by simp only [RepL] at h ⊢;exact h
 |v::vs,x,q,h=>by
  simp only [RepL] at h ⊢
  simp only [noLocs,Bool.and_eq_true] at q
  obtain ⟨y,ys,e,r,l⟩:=h
  exact ⟨y,ys,e,RepV.inn hn v y q.1 r,RepL.inn hn vs ys q.2 l⟩
end
mutual
theorem RepV.out {ψ:Ph}:∀(v:PV) (x:V),noLoc v=true->RepV K cl (fun a=>B a \/ some a∈φ) ψ H v x->RepV K cl B φ H v x
 | .non,x,_,h=>by simp only [RepV] at h ⊢;exact h
 | .bl b,x,_,h=>by simp only [RepV] at h ⊢;exact h
 | .int i,x,_,h=>by simp only [RepV] at h ⊢;exact h
 | .str y,x,_,h=>by simp only [RepV] at h ⊢;exact h
 | .tp k vs,x,q,h=>by
  simp only [RepV] at h ⊢
  obtain ⟨a,xs,e,r,l⟩:=h
  refine ⟨a,xs,e,?_,RepL.out vs xs (by simpa only [noLoc] using q) l⟩
  rcases r with ⟨r,b,n⟩|r
  ·exact .inl ⟨r,fun z=>b (.inl z),fun z=>b (.inr z)⟩
  ·exact .inr r
 | .lst vs,x,q,h=>by
  simp only [RepV] at h ⊢
  obtain ⟨a,xs,e,⟨r,b,n⟩,l⟩:=h
  exact ⟨a,xs,e,⟨r,fun z=>b (.inl z),fun z=>b (.inr z)⟩,RepL.out vs xs (by simpa only [noLoc] using q) l⟩
 | .loc n,x,q,h=>by simp [noLoc] at q
 | .exn c,x,q,h=>by simp [noLoc] at q
 | .scr vs,x,q,h=>by
  simp only [RepV] at h ⊢
  obtain ⟨a,xs,e,r,l⟩:=h
  refine ⟨a,xs,e,?_,RepL.out vs xs (by simpa only [noLoc] using q) l⟩
  rcases r with ⟨r,b,n⟩|r
  ·exact .inl ⟨r,fun z=>b (.inl z),fun z=>b (.inr z)⟩
  ·exact .inr r
theorem RepL.out {ψ:Ph}:∀(v:List PV) (x:List V),noLocs v=true->RepL K cl (fun a=>B a \/ some a∈φ) ψ H v x->RepL K cl B φ H v x
 | [],x,_,h=>by simp only [RepL] at h ⊢;exact h
 |v::vs,x,q,h=>by
  simp only [RepL] at h ⊢
  simp only [noLocs,Bool.and_eq_true] at q
  obtain ⟨y,ys,e,r,l⟩:=h
  exact ⟨y,ys,e,RepV.out v y q.1 r,RepL.out vs ys q.2 l⟩
end
theorem RepL.length:∀{v:List PV} {x:List V},RepL K cl B φ H v x->v.length=x.length
 | [],x,h=>by simp only [RepL] at h;subst h;rfl
 |v::vs,x,h=>by
  simp only [RepL] at h
  obtain ⟨y,ys,rfl,_,l⟩:=h
  simp [RepL.length l]
theorem DK.step (s:Step φ H φ' H'):∀{kvs:List (PV×PV)} {ks:List (Key×V)},DK K cl B φ H kvs ks->DK K cl B φ' H' kvs ks
 | [],ks,h=>h
 | (k,v)::r,ks,h=>by
  obtain ⟨q,x,t,e,m,rv,l⟩:=h
  exact ⟨q,x,t,e,m,rv.step s,DK.step s l⟩
theorem DT.step (s:Step φ H φ' H'):∀{kvs:List (PV×PV)} {ks:List (List Key×V)},DT K cl B φ H kvs ks->DT K cl B φ' H' kvs ks
 | [],ks,h=>h
 | (k,v)::r,ks,h=>by
  obtain ⟨q,x,t,e,m,rv,l⟩:=h
  exact ⟨q,x,t,e,m,rv.step s,DT.step s l⟩
theorem FS.step (s:Step φ H φ' H'):∀{kvs:List (Str×PV)} {ks:List (Str×V)},FS K cl B φ H kvs ks->FS K cl B φ' H' kvs ks
 | [],ks,h=>h
 | (k,v)::r,ks,h=>by
  obtain ⟨x,t,e,rv,l⟩:=h
  exact ⟨x,t,e,rv.step s,FS.step s l⟩
theorem RepO.step (s:Step φ H φ' H'){o:Ob}{a:Addr}(e:H' a=H a)(r:RepO K cl B φ H o a):RepO K cl B φ' H' o a:=by
 cases o with
 |lst vs =>
  obtain ⟨xs,q,l⟩:=r
  exact ⟨xs,e.trans q,l.step s⟩
 |dct t kvs =>
  cases t with
  |false=>obtain ⟨ks,q,l⟩:=r;exact ⟨ks,e.trans q,l.step s⟩
  |true=>obtain ⟨ks,q,l⟩:=r;exact ⟨ks,e.trans q,l.step s⟩
 |dead=>exact r
 |ins c fs=>obtain ⟨ks,⟨dx,q⟩,l⟩:=r;exact ⟨ks,⟨dx,e.trans q⟩,l.step s⟩
theorem RepO.there {o:Ob}{a:Addr}(r:RepO K cl B φ H o a):∃u,H a=some u:=by
 cases o with
 |lst vs=>obtain ⟨xs,q,l⟩:=r;exact ⟨_,q⟩
 |dct t kvs=>cases t <;> (obtain ⟨ks,q,l⟩:=r;exact ⟨_,q⟩)
 |dead=>exact r.elim
 |ins c fs=>obtain ⟨ks,⟨dx,q⟩,l⟩:=r;exact ⟨_,q⟩
theorem RepS.there (S:RepS K cl B φ H st){a:Addr}(h:some a∈φ):∃u,H a=some u:=by
 obtain ⟨n,e⟩:=List.mem_iff_getElem?.mp h
 obtain ⟨o,_,r⟩:=S.obj n a e
 exact r.there
theorem Step.upd {p:Addr}{o:HO}(hp:H p=none):Step φ H φ (upd H p o) :=
 ⟨fun b u n e=>by rw [zn (zr e hp)];exact e,Nat.le_refl _,fun _ _ _ e=>e,fun _ h=>.inl h⟩
theorem RepS.same (S:RepS K cl B φ H st)(k:∀b o,H b=some o->H' b=some o):RepS K cl B φ H' st:=by
 have s:Step φ H φ H':=⟨fun b o _ e=>k b o e,Nat.le_refl _,fun _ _ _ e=>e,fun _ h=>.inl h⟩
 refine ⟨S.len,S.inj,fun n a e=>?_,S.liv,S.nb,fun a h=>?_⟩
 ·obtain ⟨o,q,r⟩:=S.obj n a e
  obtain ⟨u,z⟩:=r.there
  exact ⟨o,q,r.step s ((k a u z).trans z.symm)⟩
 ·obtain ⟨o,q⟩:=S.dom a h
  exact ⟨o,k a o q⟩
theorem RepS.upd {p:Addr}{o:HO}(S:RepS K cl B φ H st)(hp:H p=none):RepS K cl B φ (upd H p o) st:=S.same fun b u e=>by rw [zn (zr e hp)];exact e
mutual
theorem RepV.moreB {B':Addr->Prop}(hn:∀y,B' y->B y \/ H y=none):∀(v:PV) (x:V),RepV K cl B φ H v x->RepV K cl B' φ H v x
 | .non,x,h=>by simp only [RepV] at h ⊢;exact h
 | .bl b,x,h=>by simp only [RepV] at h ⊢;exact h
 | .int i,x,h=>by simp only [RepV] at h ⊢;exact h
 | .str y,x,h=>by simp only [RepV] at h ⊢;exact h
 | .tp k vs,x,h=>by
  simp only [RepV] at h ⊢
  obtain ⟨y,xs,e,r,l⟩:=h
  refine ⟨y,xs,e,?_,RepL.moreB hn vs xs l⟩
  rcases r with ⟨r,b,n⟩|r
  ·exact .inl ⟨r,fun z=>(hn y z).elim b fun q=>(by rw [q] at r;cases r),n⟩
  ·exact .inr r
 | .lst vs,x,h=>by
  simp only [RepV] at h ⊢
  obtain ⟨y,xs,e,⟨r,b,n⟩,l⟩:=h
  exact ⟨y,xs,e,⟨r,fun z=>(hn y z).elim b fun q=>(by rw [q] at r;cases r),n⟩,RepL.moreB hn vs xs l⟩
 | .loc n,x,h=>by simp only [RepV] at h ⊢;exact h
 | .exn c,x,h=>by
  simp only [RepV] at h ⊢
  obtain ⟨y,e,r,b,n⟩:=h
  exact ⟨y,e,r,fun z=>(hn y z).elim b fun q=>(by rw [q] at r;cases r),n⟩
 | .scr vs,x,h=>by
  simp only [RepV] at h ⊢
  obtain ⟨y,xs,e,r,l⟩:=h
  refine ⟨y,xs,e,?_,RepL.moreB hn vs xs l⟩
  rcases r with ⟨r,b,n⟩|r
  ·refine .inl ⟨r,fun z=>(hn y z).elim b fun q=>?_,n⟩
   rcases r with r|⟨o,r⟩ <;> (rw [q] at r;cases r)
  ·exact .inr r
theorem RepL.moreB {B':Addr->Prop}(hn:∀y,B' y->B y \/ H y=none):∀(v:List PV) (x:List V),RepL K cl B φ H v x->RepL K cl B' φ H v x
 | [],x,h=>by simp only [RepL] at h ⊢;exact h
 |v::vs,x,h=>by
  simp only [RepL] at h ⊢
  obtain ⟨y,ys,e,r,l⟩:=h
  exact ⟨y,ys,e,RepV.moreB hn v y r,RepL.moreB hn vs ys l⟩
end
end
structure Se where
 cl:Nat->Addr
 call:Nat->List PV->Store->R PV
 may:Bool
section
variable (S:Se)(X:Cx)
def ExcAt (σ:St)(B:Addr->Prop)(φ:Ph)(H:Hp)(k:Nat)(st':Store)(e:Value)(s':Shared):Prop :=
 (∃pins H1 s φ1,Inv X pins σ H1 s/\Step φ H φ1 H1/\CX1 X.prog X.w X.stack H1 s (fun cls _ H'=>cls=.ref (S.cl k)/\∃φ',Step φ1 H1 φ' H'/\RepS X.K S.cl B φ' H' st') e s') \/
 (S.may=true/\∃pins H1 s φ1 h' e0 vs,Inv X pins σ H1 s/\Step φ H φ1 H1/\RepS X.K S.cl B φ1 H1 st'/\Heap.MadeExcOf s.heap h' e0 (.ref (S.cl k)) vs/\e=.ref e0/\s'={ s with heap:=h' }) \/
 (S.may=true/\∃pins H1 s,Inv X pins σ H1 s/\CXH X H1 s (fun cls _ H'=>cls=.ref (S.cl k)/\∃φ',Step φ H φ' H'/\RepS X.K S.cl B φ' H' st') e s')
def Run {α β:Type}(σ:St)(B:Addr->Prop)(φ:Ph)(H:Hp)(Rel:Ph->Hp->α->β->Prop)(r:R α)(Q:β->Hp->Prop):Prop :=
 match r with
 | .ok v st'=>∀x H' φ',Step φ H φ' H'->RepS X.K S.cl B φ' H' st'->Rel φ' H' v x->Q x H'
 | .exc k st'=>∀e s',ExcAt S X σ B φ H k st' e s'->X.xe e s'
 | .bad=>False
noncomputable abbrev RV (B:Addr->Prop):Ph->Hp->PV->V->Prop:=fun φ H=>RepV X.K S.cl B φ H
noncomputable abbrev RL (B:Addr->Prop):Ph->Hp->List PV->List V->Prop:=fun φ H=>RepL X.K S.cl B φ H
noncomputable abbrev RB:Ph->Hp->Bool->Bool->Prop:=fun _ _ b c=>b=c
noncomputable def tE (c:Ce):TE:=fun σ H Q=>∃B φ st ρ,RepS X.K S.cl B φ H st/\RepE X.K S.cl B φ H ρ σ/\Run S X σ B φ H (RV S X B) (ev S.call ρ st c) Q
noncomputable def tAs (c:Ces):TA:=fun σ H Q=>∃B φ st ρ,RepS X.K S.cl B φ H st/\RepE X.K S.cl B φ H ρ σ/\Run S X σ B φ H (RL S X B) (evs S.call ρ st c) Q
noncomputable def truR (r:R PV):R Bool:=r.bind fun x st=>onO (truV st x) fun b=>.ok b st
noncomputable def tTs (c:Ce):TT:=fun σ H Q=>∃B φ st ρ,RepS X.K S.cl B φ H st/\RepE X.K S.cl B φ H ρ σ/\Run S X σ B φ H RB (truR (ev S.call ρ st c)) Q
end
section
variable {S:Se}{X:Cx}{σ:St}{B:Addr->Prop}{φ φ1:Ph}{H H1:Hp}
theorem ExcAt.back {k:Nat}{st':Store}{e:Value}{s':Shared}(s:Step φ H φ1 H1)(h:ExcAt S X σ B φ1 H1 k st' e s'):ExcAt S X σ B φ H k st' e s':=by
 rcases h with ⟨pins,H2,t,φ2,I,q,c⟩|⟨m,pins,H2,t,φ2,h',e0,vs,I,q,c⟩|⟨m,pins,H2,t,I,c⟩
 ·exact .inl ⟨pins,H2,t,φ2,I,s.trans q,c⟩
 ·exact .inr (.inl ⟨m,pins,H2,t,φ2,h',e0,vs,I,s.trans q,c⟩)
 ·exact .inr (.inr ⟨m,pins,H2,t,I,c.mono fun cls H' ⟨e1,φ',s2,r⟩=>⟨e1,φ',s.trans s2,r⟩⟩)
variable {α β γ δ:Type}{Rel:Ph->Hp->α->β->Prop}{Rel2:Ph->Hp->γ->δ->Prop}
theorem Run.on {r:R α}{Q:β->Hp->Prop}(s:Step φ H φ1 H1)(h:Run S X σ B φ H Rel r Q):Run S X σ B φ1 H1 Rel r Q:=by
 cases r with
 |ok v st'=>exact fun x H' φ' t=>h x H' φ' (s.trans t)
 |exc k st'=>exact fun e s' x=>h e s' (x.back s)
 |bad=>exact h
theorem Run.mono {r:R α}{Q Q':β->Hp->Prop}(h:Run S X σ B φ H Rel r Q)(k:∀x H',Q x H'->Q' x H'):Run S X σ B φ H Rel r Q':=by
 cases r with
 |ok v st'=>exact fun x H' φ' t rs rv=>k x H' (h x H' φ' t rs rv)
 |exc c st'=>exact h
 |bad=>exact h
theorem Run.bind {r:R α}{k:α->Store->R γ}{Q:δ->Hp->Prop}(h:Run S X σ B φ H Rel2 (r.bind k) Q) :
  Run S X σ B φ H Rel r fun x H1=>∃v st1 φ1,Step φ H φ1 H1/\RepS X.K S.cl B φ1 H1 st1/\Rel φ1 H1 v x/\Run S X σ B φ1 H1 Rel2 (k v st1) Q:=by
 cases r with
 |ok v st'=>exact fun x H' φ' t rs rv=>⟨v,st',φ',t,rs,rv,Run.on t h⟩
 |exc c st'=>exact h
 |bad=>exact h
theorem Run.ok {v:α}{st:Store}{Q:β->Hp->Prop}(h:Run S X σ B φ H Rel (.ok v st) Q)(rs:RepS X.K S.cl B φ H st){x:β}(rv:Rel φ H v x):Q x H:=h x H φ .rfl rs rv
theorem PE.imp {e:Expr}{t t':TE}(h:PE X e t')(k:∀σ H Q,t σ H Q->t' σ H Q):PE X e t:=fun pins s σ H Q I q=>h pins s σ H Q I (k σ H Q q)
theorem PT.imp {e:Expr}{t t':TT}(h:PT X e t')(k:∀σ H Q,t σ H Q->t' σ H Q):PT X e t:=fun pins s σ H Q I q=>h pins s σ H Q I (k σ H Q q)
theorem PW.imp {e:Expr}{t t':TT}(h:PW X e t')(k:∀σ H Q,t σ H Q->t' σ H Q):PW X e t:=fun wh pins s σ H Q I q=>h wh pins s σ H Q I (k σ H Q q)
theorem PA.imp {e:List Expr}{t t':TA}(h:PA X e t')(k:∀σ H Q,t σ H Q->t' σ H Q):PA X e t:=fun pos pins s σ H Q I q=>h pos pins s σ H Q I (k σ H Q q)
theorem tE.bind {c:Ce}{ρ:IC.Env}{st:Store}{k:PV->Store->R γ}{Q:δ->Hp->Prop}{P:V->Hp->Prop}(rs:RepS X.K S.cl B φ H st)(re:RepE X.K S.cl B φ H ρ σ)(h:Run S X σ B φ H Rel2 ((ev S.call ρ st c).bind k) Q)
  (n:∀x H1 v st1 φ1,Step φ H φ1 H1->RepS X.K S.cl B φ1 H1 st1->RepE X.K S.cl B φ1 H1 ρ σ->RepV X.K S.cl B φ1 H1 v x->Run S X σ B φ1 H1 Rel2 (k v st1) Q->P x H1):tE S X c σ H P :=
 ⟨B,φ,st,ρ,rs,re,(Run.bind h).mono fun x H1 ⟨v,st1,φ1,s,rs1,rv,h1⟩=>n x H1 v st1 φ1 s rs1 (re.step s) rv h1⟩
theorem tAs.bind {c:Ces}{ρ:IC.Env}{st:Store}{k:List PV->Store->R γ}{Q:δ->Hp->Prop}{P:List V->Hp->Prop}(rs:RepS X.K S.cl B φ H st)(re:RepE X.K S.cl B φ H ρ σ)(h:Run S X σ B φ H Rel2 ((evs S.call ρ st c).bind k) Q)
  (n:∀x H1 v st1 φ1,Step φ H φ1 H1->RepS X.K S.cl B φ1 H1 st1->RepE X.K S.cl B φ1 H1 ρ σ->RepL X.K S.cl B φ1 H1 v x->Run S X σ B φ1 H1 Rel2 (k v st1) Q->P x H1):tAs S X c σ H P :=
 ⟨B,φ,st,ρ,rs,re,(Run.bind h).mono fun x H1 ⟨v,st1,φ1,s,rs1,rv,h1⟩=>n x H1 v st1 φ1 s rs1 (re.step s) rv h1⟩
variable {i:Int}{b:Bool}{x:Str}{j:Nat}{pos:Pos}{e a a':Expr}{c ca cb cc:Ce}
theorem zkZ:PE X (.Constant (.int i) j pos) (tE S X (.cst (.int i))):=pe_int.imp fun σ H Q ⟨B,φ,st,ρ,rs,re,h⟩=>by
 simp only [ev] at h
 exact h.ok rs (by simp only [RepV])
theorem zd:KqE X (.Constant (.int i) j pos) (tE S X (.cst (.int i))):=by with_unfolding_all exact zkZ
theorem zmM:PE X (.Constant (.bool b) j pos) (tE S X (.cst (.bl b))):=pe_bl.imp fun σ H Q ⟨B,φ,st,ρ,rs,re,h⟩=>by
 simp only [ev] at h
 exact h.ok rs (by simp only [RepV])
theorem zgt:KqE X (.Constant (.bool b) j pos) (tE S X (.cst (.bl b))):=by with_unfolding_all exact zmM
theorem zlq:PE X (.Constant .none j pos) (tE S X (.cst .non)):=pe_non.imp fun σ H Q ⟨B,φ,st,ρ,rs,re,h⟩=>by
 simp only [ev] at h
 exact h.ok rs (by simp only [RepV])
theorem zbE:KqE X (.Constant .none j pos) (tE S X (.cst .non)):=by with_unfolding_all exact zlq
theorem zma:PE X (.Constant (.str x) j pos) (tE S X (.cst (.str x))):=pe_str.imp fun σ H Q ⟨B,φ,st,ρ,rs,re,h⟩=>by
 simp only [ev] at h
 exact h.ok rs (by simp only [RepV])
theorem zI:KqE X (.Constant (.str x) j pos) (tE S X (.cst (.str x))):=by with_unfolding_all exact zma
theorem zjb {i:Nat}(hN:X.N[i]?=some x)(hv:Vis X.env.scope x)(hd:(x == ("__debug__":Str))=false:=by decide)(hcd:(x == ("__classdict__":Str))=false:=by decide):PE X (.Name x pos) (tE S X (.var i)) :=
 (zl3 hN hv hd hcd).imp fun σ H Q ⟨B,φ,st,ρ,rs,re,h⟩=>by
  simp only [ev] at h
  cases q:ρ[i]? with
  |none=>rw [q] at h;exact h.elim
  |some o =>
   cases o with
   |none=>rw [q] at h;exact h.elim
   |some v =>
    rw [q] at h
    obtain ⟨y,hy,rv⟩:=re.get i v q
    exact ⟨y,hy,h.ok rs rv⟩
theorem zac {o:Option PV}{st:Store}{Q:VK}(h:Run S X σ B φ H (RV S X B) (toR o st) Q)(rs:RepS X.K S.cl B φ H st):∃z,o=some z/\∀z' H' φ',Step φ H φ' H'->RepS X.K S.cl B φ' H' st->RepV X.K S.cl B φ' H' z z'->Q z' H':=by
 cases o with
 |none=>exact h.elim
 |some z=>exact ⟨z,rfl,h⟩
noncomputable def rT2 (S:Se)(X:Cx)(f:PV->PV->Option PV):R2:=fun x y H Q=>∃B φ st v w z,RepS X.K S.cl B φ H st/\RepV X.K S.cl B φ H v x/\RepV X.K S.cl B φ H w y/\f v w=some z /\
 ∀z' H' φ',Step φ H φ' H'->RepS X.K S.cl B φ' H' st->RepV X.K S.cl B φ' H' z z'->Q z' H'
theorem zlz {op:Operator}{o:BOp}(ho:OpR X (binaryOp op) (rT2 S X (binV o)))(ha:PE X a (tE S X ca))(hb:PE X a' (tE S X cb)):PE X (.BinOp a op a' pos) (tE S X (.bin o ca cb)) :=
 (zlQ ho ha hb).imp fun σ H Q ⟨B,φ,st,ρ,rs,re,h⟩=>by
  simp only [ev] at h
  refine tE.bind rs re h fun x H1 v st1 φ1 s1 rs1 re1 rv h1=>tE.bind rs1 re1 h1 fun y H2 w st2 φ2 s2 rs2 re2 rw h2=>?_
  obtain ⟨z,e,q⟩:=zac h2 rs2
  exact ⟨B,φ2,st2,v,w,z,rs2,rv.step s2,rw,e,q⟩
theorem zi {op:Operator}{o:BOp}(ho:OpR X (binaryOp op) (rT2 S X (binV o)))(ha:KqE X a (tE S X ca))(hb:KqE X a' (tE S X cb)):KqE X (.BinOp a op a' pos) (tE S X (.bin o ca cb)):=by with_unfolding_all exact zlz ho ha hb
theorem zlw {op:CmpOp}{o:COp}(ho:OpR X (compareOp op) (rT2 S X (cmpV o)))(ha:PE X a (tE S X ca))(hb:PE X a' (tE S X cb))(hm:behindInMarks op a'=false):PE X (.Compare a [op] [a'] pos) (tE S X (.cmp o ca cb)) :=
 (zjD ho ha hb hm).imp fun σ H Q ⟨B,φ,st,ρ,rs,re,h⟩=>by
  simp only [ev] at h
  refine tE.bind rs re h fun x H1 v st1 φ1 s1 rs1 re1 rv h1=>tE.bind rs1 re1 h1 fun y H2 w st2 φ2 s2 rs2 re2 rw h2=>?_
  obtain ⟨z,e,q⟩:=zac h2 rs2
  exact ⟨B,φ2,st2,v,w,z,rs2,rv.step s2,rw,e,q⟩
theorem zaH {op:CmpOp}{o:COp}(ho:OpR X (compareOp op) (rT2 S X (cmpV o)))(ha:KqE X a (tE S X ca))(hb:KqE X a' (tE S X cb))(hm:behindInMarks op a'=false):KqE X (.Compare a [op] [a'] pos) (tE S X (.cmp o ca cb)):=by with_unfolding_all exact zlw ho ha hb hm
end
section
variable {S:Se}{X:Cx}{σ:St}{B:Addr->Prop}{φ φ1:Ph}{H H1:Hp}{K:PySem.W.Frag}{cl:Nat->Addr}{st:Store}
theorem RTup.sq {k:Bool}{a:Addr}{xs:List V}(r:RTup K B φ H k a xs):SqT K H a xs:=by
 rcases r with ⟨r,_⟩|r
 ·exact .inl (.inl r)
 ·exact .inr r.2
theorem RLst.sq {a:Addr}{xs:List V}(r:RLst B φ H a xs):SqL K H a xs:=.inl (.inl r.1)
theorem RepV.tup_new {vs:List PV}{xs:List V}{p:Addr}(hp:H p=none)(rs:RepS K cl B φ H st)(r:RepL K cl B φ H vs xs):RepV K cl B φ (upd H p (.tup xs)) (.tup vs) (.ref p):=by
 simp only [RepV]
 refine ⟨p,xs,rfl,.inl ⟨zE,fun z=>?_,fun z=>?_⟩,r.step (.upd hp)⟩
 ·obtain ⟨o,e⟩:=rs.dom p z
  rw [hp] at e;cases e
 ·obtain ⟨o,e⟩:=rs.there z
  rw [hp] at e;cases e
theorem RepV.lst_new {vs:List PV}{xs:List V}{p:Addr}(hp:H p=none)(rs:RepS K cl B φ H st)(r:RepL K cl B φ H vs xs):RepV K cl B φ (upd H p (.lst xs)) (.lst vs) (.ref p):=by
 simp only [RepV]
 refine ⟨p,xs,rfl,⟨zE,fun z=>?_,fun z=>?_⟩,r.step (.upd hp)⟩
 ·obtain ⟨o,e⟩:=rs.dom p z
  rw [hp] at e;cases e
 ·obtain ⟨o,e⟩:=rs.there z
  rw [hp] at e;cases e
theorem RepL.append:∀{vs ws:List PV} {xs ys:List V},RepL K cl B φ H vs xs->RepL K cl B φ H ws ys->RepL K cl B φ H (vs++ws) (xs++ys)
 | [],ws,xs,ys,h,q=>by simp only [RepL] at h;subst h;exact q
 |v::vs,ws,xs,ys,h,q=>by
  simp only [RepL] at h
  obtain ⟨y,zs,rfl,r,l⟩:=h
  show RepL K cl B φ H (v::(vs++ws)) (y::(zs++ys))
  simp only [RepL]
  exact ⟨y,zs++ys,rfl,r,RepL.append l q⟩
theorem RepL.get:∀{vs:List PV} {xs:List V} (j:Nat) {v:PV},RepL K cl B φ H vs xs->vs[j]?=some v->∃x,xs[j]?=some x/\RepV K cl B φ H v x
 | [],xs,j,v,h,e=>by simp at e
 |w::vs,xs,0,v,h,e=>by
  simp only [RepL] at h
  obtain ⟨y,zs,rfl,r,l⟩:=h
  simp at e;subst e
  exact ⟨y,rfl,r⟩
 |w::vs,xs,j+1,v,h,e=>by
  simp only [RepL] at h
  obtain ⟨y,zs,rfl,r,l⟩:=h
  obtain ⟨x,q1,q2⟩:=RepL.get j l (by simpa using e)
  exact ⟨x,by simpa using q1,q2⟩
theorem RepL.drop:∀{vs:List PV} {xs:List V} (n:Nat),RepL K cl B φ H vs xs->RepL K cl B φ H (vs.drop n) (xs.drop n)
 |vs,xs,0,h=>by simpa using h
 | [],xs,n+1,h=>by simp only [RepL] at h;subst h;simp [RepL]
 |v::vs,xs,n+1,h=>by
  simp only [RepL] at h
  obtain ⟨y,ys,rfl,_,l⟩:=h
  simpa using RepL.drop n l
theorem RepL.take:∀{vs:List PV} {xs:List V} (n:Nat),RepL K cl B φ H vs xs->RepL K cl B φ H (vs.take n) (xs.take n)
 |vs,xs,0,h=>by simp [RepL]
 | [],xs,n+1,h=>by simp only [RepL] at h;subst h;simp [RepL]
 |v::vs,xs,n+1,h=>by
  simp only [RepL] at h
  obtain ⟨y,ys,rfl,r,l⟩:=h
  simp only [List.take_succ_cons,RepL]
  exact ⟨y,ys.take n,rfl,r,RepL.take n l⟩
theorem zdI {f:Value->Value->Sem Value}{o:BOp}{C:Int->Int->Prop}{g:Int->Int->Int}(h:OpR X f (rI C fun i j=>.int (g i j)))
  (hb:∀v w z,binV o v w=some z->∃i j,v=.int i/\w=.int j/\C i j/\z=.int (g i j)):OpR X f (rT2 S X (binV o)):=by
 rintro pins s σ H x y v u Q I rx ry ⟨B,φ,st,a,b,z,rs,ra,rb,e,q⟩
 obtain ⟨i,j,rfl,rfl,hc,rfl⟩:=hb a b z e
 simp only [RepV] at ra rb
 subst ra rb
 exact h pins s σ H _ _ v u Q I rx ry ⟨i,j,rfl,rfl,hc,q _ H φ .rfl rs (by simp only [RepV])⟩
theorem zi8 {f:Value->Value->Sem Value}{o:BOp}{g:Int->Int->Int}(h:OpR X f (rI0 fun i j=>.int (g i j)))
  (hb:∀v w z,binV o v w=some z->∃i j,v=.int i/\w=.int j/\z=.int (g i j)):OpR X f (rT2 S X (binV o)):=by
 rintro pins s σ H x y v u Q I rx ry ⟨B,φ,st,a,b,z,rs,ra,rb,e,q⟩
 obtain ⟨i,j,rfl,rfl,rfl⟩:=hb a b z e
 simp only [RepV] at ra rb
 subst ra rb
 exact h pins s σ H _ _ v u Q I rx ry ⟨i,j,rfl,rfl,q _ H φ .rfl rs (by simp only [RepV])⟩
theorem zj7 (v w z:PV)(h:binV .sub v w=some z):∃i j,v=.int i/\w=.int j/\z=.int (i - j):=by
 unfold binV at h
 split at h <;> first|(cases h;done)|skip
 exact ⟨_,_,rfl,rfl,(Option.some.inj h).symm⟩
theorem zj0 (v w z:PV)(h:binV .mul v w=some z):∃i j,v=.int i/\w=.int j/\CMul i j/\z=.int (i*j):=by
 unfold binV at h
 split at h <;> first|(cases h;done)|skip
 rename_i i j
 simp only [IC.binI] at h
 split at h
 ·rename_i c
  refine ⟨i,j,rfl,rfl,?_,(Option.some.inj h).symm⟩
  simp only [CMulB,Bool.or_eq_true,decide_eq_true_eq] at c
  unfold CMul
  rcases c with c|c
  ·left;constructor <;> omega
  ·right;constructor <;> omega
 ·cases h
theorem ziw (v w z:PV)(h:binV .fdiv v w=some z):∃i j,v=.int i/\w=.int j/\CDivB i j/\z=.int (i / j):=by
 unfold binV at h
 split at h <;> first|(cases h;done)|skip
 rename_i i j
 simp only [IC.binI] at h
 split at h
 ·rename_i c
  exact ⟨i,j,rfl,rfl,c,(Option.some.inj h).symm⟩
 ·cases h
theorem zky (v w z:PV)(h:binV .mod v w=some z):∃i j,v=.int i/\w=.int j/\0<j/\z=.int (i % j):=by
 unfold binV at h
 split at h <;> first|(cases h;done)|skip
 rename_i i j
 simp only [IC.binI] at h
 split at h
 ·rename_i c
  exact ⟨i,j,rfl,rfl,c,(Option.some.inj h).symm⟩
 ·cases h
theorem zkB (v w z:PV)(h:binV .pow v w=some z):∃i j,v=.int i/\w=.int j/\CPow i j/\z=.int (i ^ j.toNat):=by
 unfold binV at h
 split at h <;> first|(cases h;done)|skip
 rename_i i j
 simp only [IC.binI] at h
 split at h
 ·rename_i c
  exact ⟨i,j,rfl,rfl,⟨c.1,c.2.1,by have:=c.2.2;omega⟩,(Option.some.inj h).symm⟩
 ·cases h
theorem zlC:OpR X (binaryOp .Sub) (rT2 S X (binV .sub)):=zi8 zlb zj7
theorem zal:OpR X (binaryOp .Mult) (rT2 S X (binV .mul)):=zdI zkR zj0
theorem zhF:OpR X (binaryOp .FloorDiv) (rT2 S X (binV .fdiv)):=zdI ziM ziw
theorem zb6:OpR X (binaryOp .Mod) (rT2 S X (binV .mod)):=zdI zkQ zky
theorem zjm:OpR X (binaryOp .Pow) (rT2 S X (binV .pow)):=zdI zl8 zkB
theorem zR:sizeMax=sizeLine:=by rw [sizeLine_eq];rfl
theorem zjY:OpR X (binaryOp .Add) (fun x y H Q=>∃a b ys,x=.ref a/\y=.ref b/\SqT X.K H a []/\SqT X.K H b ys/\Q (.ref b) H):=by
 intro pins s σ H x y v u Q I rx ry h
 obtain ⟨a,b,ys,rfl,rfl,ha,hb,q⟩:=h
 cases rx
 cases ry
 obtain ⟨its,r1,p1,_⟩:=I.tuple ha
 obtain ⟨its2,r2,p2,_⟩:=I.tuple hb
 have:its=[]:=r1.nil_iff.mpr rfl
 subst this
 obtain ⟨⟨cls,dd,data,sl⟩,ho,hc,n,hd⟩:=id p1
 obtain ⟨⟨cls2,dd2,data2,sl2⟩,ho2,hc2,n2,hd2⟩:=id p2
 simp only at hc hd hc2 hd2
 subst hc hd hc2 hd2
 exact concat_meets ⟨_,ho,rfl⟩ ⟨_,ho2,rfl⟩ noFill_tuple_add seq_tuple_add PySem.F.slot_tuple_add PySem.F.entry_tuple_add (PySem.F.args_tuple_add_2 _ _)
   (tuple_addW0 a b [].toArray its2.toArray n n2 dd dd2 sl sl2 (by simp)) ⟨ho,ho2,⟨.ref b,H,I,rfl,q⟩⟩
theorem zV:OpR X (binaryOp .Add) (rT2 S X (binV .add)):=by
 rintro pins s σ H x y v u Q I rx ry ⟨B,φ,st,a,b,z,rs,ra,rb,e,q⟩
 unfold binV at e
 split at e
 ·rename_i i j
  simp only [RepV] at ra rb
  subst ra rb
  cases e
  exact zmi pins s σ H _ _ v u Q I rx ry ⟨i,j,rfl,rfl,q _ H φ .rfl rs (by simp only [RepV])⟩
 ·rename_i i k
  simp only [RepV] at ra rb
  subst ra rb
  cases e
  exact zgy pins s σ H _ _ v u Q I rx ry ⟨i,k,rfl,rfl,q _ H φ .rfl rs (by simp only [RepV];cases k <;> rfl)⟩
 ·rename_i i j
  simp only [RepV] at ra rb
  subst ra rb
  dsimp only at e
  split at e
  ·rename_i c
   cases e
   exact zgk pins s σ H _ _ v u Q I rx ry ⟨i,j,rfl,rfl,by rw [<- zR];exact c,q _ H φ .rfl rs (by simp only [RepV])⟩
  ·cases e
 ·rename_i k1 vs k2 ws
  simp only [RepV] at ra rb
  obtain ⟨p,xs,rfl,r1,l1⟩:=ra
  obtain ⟨p',ys,rfl,r2,l2⟩:=rb
  dsimp only at e
  split at e
  ·rename_i c
   cases e
   have n1:=l1.length
   have n2:=l2.length
   unfold catT at q
   cases vs with
   |nil =>
    have:xs=[]:=by cases xs with|nil=>rfl|cons _ _=>simp at n1
    subst this
    refine zjY pins s σ H _ _ v u Q I rx ry ⟨p,p',ys,rfl,rfl,r1.sq,r2.sq,q _ H φ .rfl rs ?_⟩
    simp only [List.isEmpty_nil,if_true,RepV]
    exact ⟨p',ys,rfl,r2,l2⟩
   |cons v1 vr =>
    simp only [List.isEmpty_cons,Bool.false_eq_true,if_false] at q
    refine zjv pins s σ H _ _ v u Q I rx ry ⟨p,p',xs,ys,rfl,rfl,r1.sq,r2.sq,?_,by rw [<- zR];omega,fun z=>?_,fun z t ht=>?_⟩
    ·rintro rfl
     simp at n1
    ·subst z
     have:ws=[]:=by cases ws with|nil=>rfl|cons _ _=>simp at n2
     subst this
     simp only [List.isEmpty_nil,if_true] at q
     refine q _ H φ .rfl rs ?_
     simp only [RepV]
     exact ⟨p,xs,rfl,r1,l1⟩
    ·cases ws with
     |nil=>exact absurd (List.length_eq_zero_iff.mp n2.symm) z
     |cons w1 wr =>
      simp only [List.isEmpty_cons,Bool.false_eq_true,if_false] at q
      exact q _ _ φ (.upd ht) (rs.upd ht) (.tup_new ht rs (l1.append l2))
  ·cases e
 ·rename_i vs ws
  simp only [RepV] at ra rb
  obtain ⟨p,xs,rfl,r1,l1⟩:=ra
  obtain ⟨p',ys,rfl,r2,l2⟩:=rb
  dsimp only at e
  split at e
  ·rename_i c
   cases e
   have n1:=l1.length
   have n2:=l2.length
   exact zlG pins s σ H _ _ v u Q I rx ry ⟨p,p',xs,ys,rfl,rfl,r1.1,r2.1,by rw [<- zR];omega,fun t ht=>q _ _ φ (.upd ht) (rs.upd ht) (.lst_new ht rs (l1.append l2))⟩
  ·cases e
 ·cases e
end
mutual
noncomputable def toD:PV->PyData
 | .non=>.none
 | .bl b=>.bool b
 | .int i=>.int i
 | .str x=>.str x
 | .tp _ xs=>.tuple (toDs xs)
 | .lst xs=>.list (toDs xs)
 |_=>.none
noncomputable def toDs:List PV->List PyData
 | []=>[]
 |x::xs=>toD x::toDs xs
end
mutual
theorem zhw:∀(v:PV) (n:Nat),shd n v=true->(toD v).canLay0=true/\(toD v).depth<=n
 | .non,n,h=>by simp [toD,PyData.canLay0,PyData.depth]
 | .bl b,n,h=>by simp [toD,PyData.canLay0,PyData.depth]
 | .int i,n,h=>by simp [toD,PyData.canLay0,PyData.depth]
 | .str x,n,h=>by
  simp only [shd] at h
  simp only [toD,PyData.canLay0,PyData.depth,Nat.zero_le,and_true]
  exact h
 | .tp _ xs,n,h=>by
  simp only [shd,Bool.and_eq_true,decide_eq_true_eq] at h
  obtain ⟨q1,q2⟩:=zdw xs (n - 1) h.2
  simp only [toD,PyData.canLay0,PyData.depth]
  exact ⟨q1,by omega⟩
 | .lst xs,n,h=>by
  simp only [shd,Bool.and_eq_true,decide_eq_true_eq] at h
  obtain ⟨q1,q2⟩:=zdw xs (n - 1) h.2
  simp only [toD,PyData.canLay0,PyData.depth]
  exact ⟨q1,by omega⟩
 | .loc k,n,h=>by simp [shd] at h
 | .exn k,n,h=>by simp [shd] at h
 | .scr xs,n,h=>by simp [shd] at h
theorem zdw:∀(v:List PV) (n:Nat),shds n v=true->PyData.canLayAll0 (toDs v)=true/\PyData.depthAll (toDs v)<=n
 | [],n,h=>by simp [toDs,PyData.canLayAll0,PyData.depthAll]
 |v::vs,n,h=>by
  simp only [shds,Bool.and_eq_true] at h
  obtain ⟨q1,q2⟩:=zhw v n h.1
  obtain ⟨q3,q4⟩:=zdw vs n h.2
  simp only [toDs,PyData.canLayAll0,PyData.depthAll,Bool.and_eq_true]
  exact ⟨⟨q1,q3⟩,by omega⟩
end
theorem za9 {v:PV}(h:shp v=true):SeqAt.shaped (toD v)=true:=by
 obtain ⟨q1,q2⟩:=zhw v 60 h
 unfold SeqAt.shaped
 rw [q1,Bool.true_and,decide_eq_true_eq]
 omega
mutual
theorem zeY:∀(v w:PV) (n m:Nat),shd n v=true->shd m w=true->PyData.eqv (toD v) (toD w)=peq v w
 | .non,w,n,m,h,q=>by cases w <;> simp_all [toD,PyData.eqv,peq,shd]
 | .bl b,w,n,m,h,q=>by cases w <;> simp_all [toD,PyData.eqv,peq,shd,bi]
 | .int i,w,n,m,h,q=>by cases w <;> simp_all [toD,PyData.eqv,peq,shd,bi]
 | .str x,w,n,m,h,q=>by cases w <;> simp_all [toD,PyData.eqv,peq,shd]
 | .tp _ xs,.tp _ ys,n,m,h,q=>by
  simp only [shd,Bool.and_eq_true] at h q
  simp only [toD,PyData.eqv,peq]
  exact zea xs ys (n - 1) (m - 1) h.2 q.2
 | .lst xs,.lst ys,n,m,h,q=>by
  simp only [shd,Bool.and_eq_true] at h q
  simp only [toD,PyData.eqv,peq]
  exact zea xs ys (n - 1) (m - 1) h.2 q.2
 | .tp _ xs,.non,n,m,h,q=>by simp [toD,PyData.eqv,peq]
 | .tp _ xs,.bl _,n,m,h,q=>by simp [toD,PyData.eqv,peq]
 | .tp _ xs,.int _,n,m,h,q=>by simp [toD,PyData.eqv,peq]
 | .tp _ xs,.str _,n,m,h,q=>by simp [toD,PyData.eqv,peq]
 | .tp _ xs,.lst _,n,m,h,q=>by simp [toD,PyData.eqv,peq]
 | .lst xs,.non,n,m,h,q=>by simp [toD,PyData.eqv,peq]
 | .lst xs,.bl _,n,m,h,q=>by simp [toD,PyData.eqv,peq]
 | .lst xs,.int _,n,m,h,q=>by simp [toD,PyData.eqv,peq]
 | .lst xs,.str _,n,m,h,q=>by simp [toD,PyData.eqv,peq]
 | .lst xs,.tp _ _,n,m,h,q=>by simp [toD,PyData.eqv,peq]
 | .loc k,w,n,m,h,q=>by simp [shd] at h
 | .exn k,w,n,m,h,q=>by simp [shd] at h
 | .scr k,w,n,m,h,q=>by simp [shd] at h
 |v,.loc k,n,m,h,q=>by simp [shd] at q
 |v,.exn k,n,m,h,q=>by simp [shd] at q
 |v,.scr k,n,m,h,q=>by simp [shd] at q
theorem zea:∀(v w:List PV) (n m:Nat),shds n v=true->shds m w=true->PyData.eqvAll (toDs v) (toDs w)=peqs v w
 | [],[],n,m,h,q=>by simp [toDs,PyData.eqvAll,peqs]
 | [],y::ys,n,m,h,q=>by simp [toDs,PyData.eqvAll,peqs]
 |x::xs,[],n,m,h,q=>by simp [toDs,PyData.eqvAll,peqs]
 |x::xs,y::ys,n,m,h,q=>by
  simp only [shds,Bool.and_eq_true] at h q
  simp only [toDs,PyData.eqvAll,peqs]
  rw [zeY x y n m h.1 q.1,zea xs ys n m h.2 q.2]
end
section
variable {S:Se}{X:Cx}{σ:St}{B:Addr->Prop}{φ φ1:Ph}{H H1:Hp}{st:Store}{pins:List (Addr×Obj)}{s:Shared}
mutual
theorem zbq (I:Inv X pins σ H s):∀(v:PV) (n:Nat) (x:V) (u:Value),shd n v=true->RepV X.K S.cl B φ H v x->RelV x u->∃as,Reads s.heap u (toD v) as
 | .non,n,x,u,h,r,q=>by
  simp only [RepV] at r;subst r;cases (show u=Value.none from q);exact ⟨_,.none⟩
 | .bl b,n,x,u,h,r,q=>by
  simp only [RepV] at r;subst r;cases (show u=Value.bool b from q);exact ⟨_,.bool b⟩
 | .int i,n,x,u,h,r,q=>by
  simp only [RepV] at r;subst r;obtain ⟨t,rfl⟩:=q;exact ⟨_,.int i t⟩
 | .str y,n,x,u,h,r,q=>by
  simp only [RepV] at r;subst r;obtain ⟨t,rfl⟩:=q;exact ⟨_,.str y t⟩
 | .tp _ vs,n,x,u,h,r,q=>by
  simp only [RepV] at r
  obtain ⟨a,xs,rfl,rt,l⟩:=r
  cases (show u=Value.ref a from q)
  simp only [shd,Bool.and_eq_true] at h
  obtain ⟨its,rv,⟨o,g,c,k,d⟩,_⟩:=I.tuple rt.sq
  obtain ⟨as,z⟩:=zcy I vs (n - 1) xs its h.2 l rv
  exact ⟨as,.tuple g c d (by simpa using z)⟩
 | .lst vs,n,x,u,h,r,q=>by
  simp only [RepV] at r
  obtain ⟨a,xs,rfl,rt,l⟩:=r
  cases (show u=Value.ref a from q)
  simp only [shd,Bool.and_eq_true] at h
  obtain ⟨its,rv,⟨o,k,g,c,_,d⟩,_⟩:=I.list (rt.sq (K:=X.K))
  obtain ⟨as,z⟩:=zcy I vs (n - 1) xs its h.2 l rv
  exact ⟨_,.list g c d (by simpa using z)⟩
 | .loc k,n,x,u,h,r,q=>by simp [shd] at h
 | .exn k,n,x,u,h,r,q=>by simp [shd] at h
 | .scr k,n,x,u,h,r,q=>by simp [shd] at h
theorem zcy (I:Inv X pins σ H s):∀(v:List PV) (n:Nat) (x:List V) (u:List Value),shds n v=true->RepL X.K S.cl B φ H v x->Vals x u->∃as,ReadsAll s.heap u (toDs v) as
 | [],n,x,u,h,r,q=>by
  simp only [RepL] at r;subst r;cases q;exact ⟨_,.nil⟩
 |v::vs,n,x,u,h,r,q=>by
  simp only [RepL] at r
  obtain ⟨y,ys,rfl,rv,l⟩:=r
  simp only [shds,Bool.and_eq_true] at h
  cases q with
  |cons q1 q2 =>
   obtain ⟨as,z1⟩:=zbq I v n y _ h.1 rv q1
   obtain ⟨bs,z2⟩:=zcy I vs n ys _ h.2 l q2
   exact ⟨_,.cons z1 z2⟩
end
theorem zap (hu:X.A.units+64<cLine):OpR X (compareOp .Eq) (rT2 S X (cmpV .eq)):=by
 rintro pins s σ H x y v u Q I rx ry ⟨B,φ,st,a,b,z,rs,ra,rb,e,q⟩
 simp only [cmpV] at e
 split at e
 ·rename_i c
  rw [Bool.and_eq_true] at c
  cases e
  obtain ⟨as,z1⟩:=zbq (S:=S) I a 60 x v c.1 ra rx
  obtain ⟨bs,z2⟩:=zbq (S:=S) I b 60 y u c.2 rb ry
  refine eq_dataH z1 z2 (za9 c.1) (za9 c.2) hu ⟨.bl _,H,I,rfl,?_⟩
  rw [zeY a b 60 60 c.1 c.2]
  exact q _ H φ .rfl rs (by simp only [RepV])
 ·cases e
theorem zeZ (hu:X.A.units+64<cLine):OpR X (compareOp .NotEq) (rT2 S X (cmpV .ne)):=by
 rintro pins s σ H x y v u Q I rx ry ⟨B,φ,st,a,b,z,rs,ra,rb,e,q⟩
 simp only [cmpV] at e
 split at e
 ·rename_i c
  rw [Bool.and_eq_true] at c
  cases e
  obtain ⟨as,z1⟩:=zbq (S:=S) I a 60 x v c.1 ra rx
  obtain ⟨bs,z2⟩:=zbq (S:=S) I b 60 y u c.2 rb ry
  refine ne_dataH z1 z2 (za9 c.1) (za9 c.2) hu ⟨.bl _,H,I,rfl,?_⟩
  rw [zeY a b 60 60 c.1 c.2]
  exact q _ H φ .rfl rs (by simp only [RepV])
 ·cases e
theorem zhh {f:Value->Value->Sem Value}{o:COp}{g:Int->Int->Bool}(h:OpR X f (rI0 fun i j=>.bl (g i j)))
  (hb:∀v w z,cmpV o v w=some z->∃i j,v=.int i/\w=.int j/\z=.bl (g i j)):OpR X f (rT2 S X (cmpV o)):=by
 rintro pins s σ H x y v u Q I rx ry ⟨B,φ,st,a,b,z,rs,ra,rb,e,q⟩
 obtain ⟨i,j,rfl,rfl,rfl⟩:=hb a b z e
 simp only [RepV] at ra rb
 subst ra rb
 exact h pins s σ H _ _ v u Q I rx ry ⟨i,j,rfl,rfl,q _ H φ .rfl rs (by simp only [RepV])⟩
theorem zmG {o:COp}{g:Int->Int->Bool}(ho:∀v w,cmpV o v w=match v,w with
   | .int i,.int j=>cmpI o i j
   |_,_=>none) (hg:∀i j,cmpI o i j=some (.bl (g i j))) (v w z:PV) (h:cmpV o v w=some z):∃i j,v=.int i/\w=.int j/\z=.bl (g i j):=by
 rw [ho] at h
 split at h
 ·rename_i i j
  rw [hg] at h
  exact ⟨i,j,rfl,rfl,(Option.some.inj h).symm⟩
 ·cases h
theorem zgN:OpR X (compareOp .LtE) (fun x y H Q=>∃i j,x=.str i/\y=.str j/\Q (.bl (!decide (j.cps.toList<i.cps.toList))) H):=by
 intro pins s σ H x y v u Q I rx ry h
 obtain ⟨i,j,rfl,rfl,q⟩:=h
 obtain ⟨t,rfl⟩:=rx
 obtain ⟨t',rfl⟩:=ry
 exact PySem.P.le_str (zeE I q rfl)
theorem ze8:OpR X (compareOp .Lt) (rT2 S X (cmpV .lt)):=by
 rintro pins s σ H x y v u Q I rx ry ⟨B,φ,st,a,b,z,rs,ra,rb,e,q⟩
 simp only [cmpV] at e
 split at e
 ·rename_i i j
  simp only [RepV] at ra rb
  subst ra rb
  cases e
  exact zmz pins s σ H _ _ v u Q I rx ry ⟨i,j,rfl,rfl,q _ H φ .rfl rs (by simp only [RepV])⟩
 ·rename_i i j
  simp only [RepV] at ra rb
  subst ra rb
  cases e
  exact zhQ pins s σ H _ _ v u Q I rx ry ⟨i,j,rfl,rfl,q _ H φ .rfl rs (by simp only [RepV])⟩
 ·cases e
theorem zjt:OpR X (compareOp .LtE) (rT2 S X (cmpV .le)):=by
 rintro pins s σ H x y v u Q I rx ry ⟨B,φ,st,a,b,z,rs,ra,rb,e,q⟩
 simp only [cmpV] at e
 split at e
 ·rename_i i j
  simp only [RepV] at ra rb
  subst ra rb
  cases e
  exact zmr pins s σ H _ _ v u Q I rx ry ⟨i,j,rfl,rfl,q _ H φ .rfl rs (by simp only [RepV])⟩
 ·rename_i i j
  simp only [RepV] at ra rb
  subst ra rb
  cases e
  exact zgN pins s σ H _ _ v u Q I rx ry ⟨i,j,rfl,rfl,q _ H φ .rfl rs (by simp only [RepV])⟩
 ·cases e
theorem zfG {o:COp}{g:Int->Int->Bool}(ho:∀v w,cmpV o v w=match v,w with
   | .int i,.int j=>cmpI o i j
   | .str a,.str b=>cmpS o a b
   |_,_=>none) (hs:∀a b,cmpS o a b=none) (hg:∀i j,cmpI o i j=some (.bl (g i j))) (v w z:PV) (h:cmpV o v w=some z):∃i j,v=.int i/\w=.int j/\z=.bl (g i j):=by
 rw [ho] at h
 split at h
 ·rename_i i j
  rw [hg] at h
  exact ⟨i,j,rfl,rfl,(Option.some.inj h).symm⟩
 ·rw [hs] at h;cases h
 ·cases h
theorem zia:OpR X (compareOp .Gt) (rT2 S X (cmpV .gt)):=zhh zmw (zfG (fun _ _=>rfl) (fun _ _=>rfl) fun _ _=>rfl)
theorem zmv:OpR X (compareOp .GtE) (rT2 S X (cmpV .ge)):=zhh zmH (zfG (fun _ _=>rfl) (fun _ _=>rfl) fun _ _=>rfl)
theorem RepV.isNon {K:PySem.W.Frag}{cl:Nat->Addr}{v:PV}{x:V}(r:RepV K cl B φ H v x):decide (x=.non)=IC.isNon v:=by
 cases v with
 |loc n=>simp only [RepV] at r;obtain ⟨_,a,rfl,_⟩:=r;rfl
 |non=>simp only [RepV] at r;subst r;rfl
 |bl b=>simp only [RepV] at r;subst r;rfl
 |int b=>simp only [RepV] at r;subst r;rfl
 |str b=>simp only [RepV] at r;subst r;rfl
 |tp k vs=>simp only [RepV] at r;obtain ⟨a,xs,rfl,_⟩:=r;rfl
 |lst vs=>simp only [RepV] at r;obtain ⟨a,xs,rfl,_⟩:=r;rfl
 |exn vs=>simp only [RepV] at r;obtain ⟨a,rfl,_⟩:=r;rfl
 |scr vs=>simp only [RepV] at r;obtain ⟨a,xs,rfl,_⟩:=r;rfl
theorem ziJ {M:Model}{A:Around}{E:Value->Shared->Prop}{s:Shared}{a b:Bool}{Q:Value->Shared->Prop}(h:Q (.bool (a == b)) s):wpAny M A (compareOp .Is (.bool a) (.bool b)) Q E s:=by
 have e:(Value.bool a == Value.bool b)=(a == b):=by cases a <;> cases b <;> rfl
 rw [<- e] at h
 exact wpAny_pure h
theorem zkT:OpR X (compareOp .Is) (rT2 S X (cmpV .is)):=by
 rintro pins s σ H x y v u Q I rx ry ⟨B,φ,st,a,b,z,rs,ra,rb,e,q⟩
 simp only [cmpV] at e
 split at e
 ·cases e
  simp only [RepV] at rb
  exact zk6 pins s σ H _ _ v u Q I rx ry ⟨rb,q _ H φ .rfl rs (by simp only [RepV];rw [ra.isNon])⟩
 ·rename_i k
  split at e
  ·rename_i j
   cases e
   simp only [RepV] at ra rb
   subst ra rb
   cases (show v=Value.bool j from rx)
   cases (show u=Value.bool k from ry)
   exact ziJ (zeE I (q _ H φ .rfl rs (by simp only [RepV])) rfl)
  ·cases e
 ·cases e
theorem RepV.flat {K:PySem.W.Frag}{cl:Nat->Addr}{v:PV}{x:V}(r:RepV K cl B φ H v x)(h:IC.flat v=true):flatV x=true/\∀(w:PV) (y:V),IC.flat w=true->RepV K cl B φ H w y->eqV x y=peq v w:=by
 cases v with
 |non =>
  simp only [RepV] at r;subst r
  refine ⟨rfl,fun w y hw rw=>?_⟩
  cases w <;> first|(simp [IC.flat] at hw;done)|(simp only [RepV] at rw;subst rw;simp [eqV,peq,bi])
 |bl b =>
  simp only [RepV] at r;subst r
  refine ⟨rfl,fun w y hw rw=>?_⟩
  cases w <;> first|(simp [IC.flat] at hw;done)|(simp only [RepV] at rw;subst rw;simp [eqV,peq,bi])
 |int b =>
  simp only [RepV] at r;subst r
  refine ⟨rfl,fun w y hw rw=>?_⟩
  cases w <;> first|(simp [IC.flat] at hw;done)|(simp only [RepV] at rw;subst rw;simp [eqV,peq,bi])
 |str b =>
  simp only [RepV] at r;subst r
  refine ⟨rfl,fun w y hw rw=>?_⟩
  cases w <;> first|(simp [IC.flat] at hw;done)|(simp only [RepV] at rw;subst rw;simp [eqV,peq,bi])
 |_=>simp [IC.flat] at h
theorem zfb {K:PySem.W.Frag}{cl:Nat->Addr}{v:PV}{x:V}(r:RepV K cl B φ H v x)(h:IC.flat v=true):∀{vs:List PV} {xs:List V},RepL K cl B φ H vs xs->vs.all IC.flat=true->xs.all flatV=true/\inV x xs=inL v vs
 | [],xs,l,_=>by simp only [RepL] at l;subst l;exact ⟨rfl,rfl⟩
 |w::vs,xs,l,f=>by
  simp only [RepL] at l
  obtain ⟨y,ys,rfl,rw,l⟩:=l
  rw [List.all_cons,Bool.and_eq_true] at f
  obtain ⟨q1,q2⟩:=zfb r h l f.2
  obtain ⟨q3,q4⟩:=rw.flat f.1
  refine ⟨by rw [List.all_cons,q3,q1];rfl,?_⟩
  unfold inV at q2 ⊢
  rw [List.any_cons,q2,q4 v x h r]
  rfl
end
theorem zj8 (a b:Str):(!(Builtin.Str.occurrences b a 0 b.length 1).isEmpty)=inS a b:=by
 rw [Bool.eq_iff_iff,StrLaws.found_iff]
 unfold inS
 rw [List.any_eq_true]
 constructor
 ·rintro ⟨i,h1,h2⟩
  exact ⟨i,by rw [List.mem_range];omega,by rw [Bool.and_eq_true,decide_eq_true_eq];exact ⟨h1,h2⟩⟩
 ·rintro ⟨i,_,h⟩
  rw [Bool.and_eq_true,decide_eq_true_eq] at h
  exact ⟨i,h.1,h.2⟩
section
variable {S:Se}{X:Cx}{σ:St}{B:Addr->Prop}{φ φ1:Ph}{H H1:Hp}{st:Store}
theorem ziP:OpR X (compareOp .NotIn) (rT2 S X (cmpV .notin)):=by
 rintro pins s σ H x y v u Q I rx ry ⟨B,φ,st,a,b,z,rs,ra,rb,e,q⟩
 simp only [cmpV] at e
 split at e
 ·rename_i i j
  simp only [RepV] at ra rb
  subst ra rb
  cases e
  exact zeB pins s σ H _ _ v u Q I rx ry ⟨i,j,rfl,rfl,by rw [zj8];exact q _ H φ .rfl rs (by simp only [RepV])⟩
 ·rename_i l
  split at e
  ·rename_i c
   rw [Bool.and_eq_true] at c
   cases e
   simp only [RepV] at rb
   obtain ⟨p,xs,rfl,r,l'⟩:=rb
   obtain ⟨q1,q2⟩:=zfb ra c.1 l' c.2
   exact zb4 pins s σ H _ _ v u Q I rx ry ⟨p,xs,rfl,.inr r.sq,(ra.flat c.1).1,q1,q _ H φ .rfl rs (by simp only [RepV];rw [<- q2];rfl)⟩
  ·cases e
 ·rename_i l
  split at e
  ·rename_i c
   rw [Bool.and_eq_true] at c
   cases e
   simp only [RepV] at rb
   obtain ⟨p,xs,rfl,r,l'⟩:=rb
   obtain ⟨q1,q2⟩:=zfb ra c.1 l' c.2
   exact zb4 pins s σ H _ _ v u Q I rx ry ⟨p,xs,rfl,.inl r.sq,(ra.flat c.1).1,q1,q _ H φ .rfl rs (by simp only [RepV];rw [<- q2];rfl)⟩
  ·cases e
 ·cases e
theorem RepL.empty {K:PySem.W.Frag}{cl:Nat->Addr}{vs:List PV}{xs:List V}(l:RepL K cl B φ H vs xs):vs.isEmpty=xs.isEmpty:=by
 have:=l.length
 cases vs <;> cases xs <;> simp_all
theorem zjN {K:PySem.W.Frag}{cl:Nat->Addr}{v:PV}{x:V}{k:Bool}(rs:RepS K cl B φ H st)(r:RepV K cl B φ H v x)(h:truV st v=some k):TruV K x H k:=by
 cases v with
 |non=>simp only [RepV] at r;subst r;cases h;rfl
 |bl b=>simp only [RepV] at r;subst r;cases h;rfl
 |int b=>simp only [RepV] at r;subst r;cases h;rfl
 |str b =>
  simp only [RepV] at r;subst r
  simp only [truV] at h
  split at h
  ·rename_i c
   cases h
   exact ⟨by rw [<- zR];exact c,rfl⟩
  ·cases h
 |tp k vs =>
  simp only [RepV] at r
  obtain ⟨a,xs,rfl,rt,l⟩:=r
  cases h
  exact .inr (.inl ⟨xs,rt.sq,by rw [l.empty]⟩)
 |lst vs =>
  simp only [RepV] at r
  obtain ⟨a,xs,rfl,rt,l⟩:=r
  cases h
  exact .inl ⟨xs,rt.sq,by rw [l.empty]⟩
 |loc n =>
  simp only [RepV] at r
  obtain ⟨hn,a,rfl,ha⟩:=r
  simp only [truV] at h
  split at h
  ·rename_i vs hv
   cases h
   obtain ⟨b,hb⟩:=rs.liv n _ hv (by intro z;cases z)
   obtain rfl:=ha b hb
   obtain ⟨o,ho,ro⟩:=rs.obj n b hb
   rw [hv] at ho;cases ho
   obtain ⟨xs,hx,l⟩:=ro
   exact .inl ⟨xs,.of hx,by rw [l.empty]⟩
  ·cases h
 |exn c=>cases h
 |scr c=>cases h
end
theorem R.bind_assoc {α β γ:Type}{r:R α}{k:α->Store->R β}{l:β->Store->R γ}:(r.bind k).bind l=r.bind fun a s=>(k a s).bind l:=by
 cases r <;> rfl
section
variable {S:Se}{X:Cx}{σ:St}{B:Addr->Prop}{φ φ1:Ph}{H H1:Hp}{st:Store}{ρ:IC.Env}{pos:Pos}{a b c d:Expr}{ca cb cc:Ce}{es:List Expr}{ces:Ces}
theorem zec {o:COp}{v w z:PV}(h:cmpV o v w=some z):∃k,z=.bl k:=by
 cases o <;> simp only [cmpV] at h
 all_goals (repeat' split at h) <;> first|(cases h;done)|(cases h;exact ⟨_,rfl⟩)|skip
 all_goals (simp only [cmpI] at h;cases h;exact ⟨_,rfl⟩)
theorem zlk {op:CmpOp}{o:COp}(ho:OpR X (compareOp op) (rT2 S X (cmpV o)))(ha:PE X a (tE S X ca))(hb:PE X b (tE S X cb))(hm:behindInMarks op b=false):PT X (.Compare a [op] [b] pos) (tTs S X (.cmp o ca cb)) :=
 (zkq ho ha hb hm).imp fun σ H Q ⟨B,φ,st,ρ,rs,re,h⟩=>by
  simp only [ev,truR,R.bind_assoc] at h
  refine tE.bind rs re h fun x H1 v st1 φ1 s1 rs1 re1 rv h1=>tE.bind rs1 re1 h1 fun y H2 w st2 φ2 s2 rs2 re2 rw h2=>?_
  cases e:cmpV o v w with
  |none=>rw [e] at h2;exact h2.elim
  |some z =>
   obtain ⟨k,rfl⟩:=zec e
   rw [e] at h2
   refine ⟨B,φ2,st2,v,w,.bl k,rs2,rv.step s2,rw,e,fun z' H' φ' s' rs' rz=>?_⟩
   simp only [RepV] at rz
   exact ⟨k,rz,h2 k H' φ' s' rs' rfl⟩
theorem zm {op:CmpOp}{o:COp}(ho:OpR X (compareOp op) (rT2 S X (cmpV o)))(ha:KqE X a (tE S X ca))(hb:KqE X b (tE S X cb))(hm:behindInMarks op b=false):KqT X (.Compare a [op] [b] pos) (tTs S X (.cmp o ca cb)):=by with_unfolding_all exact zlk ho ha hb hm
theorem zlW (ha:PE X a (tE S X ca))(he:∀whole,isTrue a X.env whole=(do let v <- whole;standAt a.pos;holding [v] (truthy v)):=by intro _;rfl):PT X a (tTs S X ca) :=
 (ziK ha he).imp fun σ H Q ⟨B,φ,st,ρ,rs,re,h⟩=>by
  simp only [truR] at h
  refine tE.bind rs re h fun x H1 v st1 φ1 s1 rs1 re1 rv h1=>?_
  cases e:truV st1 v with
  |none=>rw [e] at h1;exact h1.elim
  |some k =>
   rw [e] at h1
   exact ⟨k,zjN rs1 rv e,h1.ok rs1 rfl⟩
theorem zag (ha:KqE X a (tE S X ca))(he:∀whole,isTrue a X.env whole=(do let v <- whole;standAt a.pos;holding [v] (truthy v)):=by intro _;rfl):KqT X a (tTs S X ca):=by with_unfolding_all exact zlW ha he
theorem tTs.bind {γ δ:Type}{Rel2:Ph->Hp->γ->δ->Prop}{k:Bool->Store->R γ}{Q:δ->Hp->Prop}{P:Bool->Hp->Prop}(rs:RepS X.K S.cl B φ H st)(re:RepE X.K S.cl B φ H ρ σ)(h:Run S X σ B φ H Rel2 ((truR (ev S.call ρ st ca)).bind k) Q)
  (n:∀b H1 st1 φ1,Step φ H φ1 H1->RepS X.K S.cl B φ1 H1 st1->RepE X.K S.cl B φ1 H1 ρ σ->Run S X σ B φ1 H1 Rel2 (k b st1) Q->P b H1):tTs S X ca σ H P :=
 ⟨B,φ,st,ρ,rs,re,(Run.bind h).mono fun x H1 ⟨v,st1,φ1,s,rs1,rv,h1⟩=>by
  subst rv
  exact n v H1 st1 φ1 s rs1 (re.step s) h1⟩
theorem ze7 (r:R PV)(f:Bool->Store->R PV):truR (r.bind fun x st1=>onBl x fun b=>f b st1)=r.bind fun x st1=>onBl x fun b=>truR (f b st1):=by
 unfold truR
 rw [R.bind_assoc]
 congr 1
 funext x st1
 cases x <;> rfl
theorem Run.bl_tru {r:R PV}{k:Bool->Store->R Bool}{Q:Bool->Hp->Prop}(h:Run S X σ B φ H RB (r.bind fun x st1=>onBl x fun b=>k b st1) Q):Run S X σ B φ H RB ((truR r).bind k) Q:=by
 cases r with
 |bad=>exact h
 |exc c s=>exact h
 |ok v s =>
  cases v with
  |bl b=>exact h
  |_=>exact h.elim
theorem zkG (ha:PT X a (tTs S X ca)):PT X (.UnaryOp .Not a pos) (tTs S X (.not ca)) :=
 (zmm ha).imp fun σ H Q ⟨B,φ,st,ρ,rs,re,h⟩=>by
  simp only [ev] at h
  rw [ze7 _ fun k st1=>.ok (.bl (!k)) st1] at h
  exact tTs.bind rs re (Run.bl_tru (k:=fun b st1=>.ok (!b) st1) h) fun b H1 st1 φ1 s1 rs1 re1 h1=>h1.ok rs1 rfl
theorem za6 (ha:KqT X a (tTs S X ca)):KqT X (.UnaryOp .Not a pos) (tTs S X (.not ca)):=by with_unfolding_all exact zkG ha
variable {rest:List Expr}
theorem zkA (ha:PT X a (tTs S X ca)):PW X (.BoolOp .And [a] pos) (tTs S X ca):=zkC ha
theorem zaZ (ha:KqT X a (tTs S X ca)):KqW X (.BoolOp .And [a] pos) (tTs S X ca):=by with_unfolding_all exact zkA ha
theorem zmk (ha:PT X a (tTs S X ca)):PW X (.BoolOp .Or [a] pos) (tTs S X ca):=zkJ ha
theorem za8 (ha:KqT X a (tTs S X ca)):KqW X (.BoolOp .Or [a] pos) (tTs S X ca):=by with_unfolding_all exact zmk ha
theorem zll (ha:PT X a (tTs S X ca))(hb:PW X (.BoolOp .And (b::rest) pos) (tTs S X cb)):PW X (.BoolOp .And (a::b::rest) pos) (tTs S X (.and ca cb)) :=
 (zmo ha hb).imp fun σ H Q ⟨B,φ,st,ρ,rs,re,h⟩=>by
  simp only [ev] at h
  rw [ze7 _ fun k st1=>cond k (ev S.call ρ st1 cb) (.ok (.bl false) st1)] at h
  refine tTs.bind rs re (Run.bl_tru h) fun k H1 st1 φ1 s1 rs1 re1 h1=>?_
  cases k with
  |false=>exact h1.ok rs1 rfl
  |true=>exact ⟨B,φ1,st1,ρ,rs1,re1,h1⟩
theorem zbI (ha:KqT X a (tTs S X ca))(hb:KqW X (.BoolOp .And (b::rest) pos) (tTs S X cb)):KqW X (.BoolOp .And (a::b::rest) pos) (tTs S X (.and ca cb)):=by with_unfolding_all exact zll ha hb
theorem zmD (ha:PT X a (tTs S X ca))(hb:PW X (.BoolOp .Or (b::rest) pos) (tTs S X cb)):PW X (.BoolOp .Or (a::b::rest) pos) (tTs S X (.or ca cb)) :=
 (zmB ha hb).imp fun σ H Q ⟨B,φ,st,ρ,rs,re,h⟩=>by
  simp only [ev] at h
  rw [ze7 _ fun k st1=>cond k (.ok (.bl true) st1) (ev S.call ρ st1 cb)] at h
  refine tTs.bind rs re (Run.bl_tru h) fun k H1 st1 φ1 s1 rs1 re1 h1=>?_
  cases k with
  |true=>exact h1.ok rs1 rfl
  |false=>exact ⟨B,φ1,st1,ρ,rs1,re1,h1⟩
theorem zay (ha:KqT X a (tTs S X ca))(hb:KqW X (.BoolOp .Or (b::rest) pos) (tTs S X cb)):KqW X (.BoolOp .Or (a::b::rest) pos) (tTs S X (.or ca cb)):=by with_unfolding_all exact zmD ha hb
theorem zkY {op:BoolOp}(h:PE X a (tE S X ca)):PE X (.BoolOp op [a] pos) (tE S X ca):=zkE h
theorem zaK {op:BoolOp}(h:KqE X a (tE S X ca)):KqE X (.BoolOp op [a] pos) (tE S X ca):=by with_unfolding_all exact zkY h
theorem zkI (ha:PE X a (tE S X ca))(hb:PE X (.BoolOp .And (b::rest) pos) (tE S X cb)):PE X (.BoolOp .And (a::b::rest) pos) (tE S X (.and ca cb)) :=
 (zld ha hb).imp fun σ H Q ⟨B,φ,st,ρ,rs,re,h⟩=>by
  simp only [ev] at h
  refine tE.bind rs re h fun x H1 v st1 φ1 s1 rs1 re1 rv h1=>?_
  cases v with
  |bl k =>
   simp only [RepV] at rv
   refine ⟨k,rv,?_⟩
   cases k with
   |true=>exact ⟨B,φ1,st1,ρ,rs1,re1,h1⟩
   |false=>exact h1.ok rs1 (by simp only [RepV])
  |_=>exact h1.elim
theorem za1 (ha:KqE X a (tE S X ca))(hb:KqE X (.BoolOp .And (b::rest) pos) (tE S X cb)):KqE X (.BoolOp .And (a::b::rest) pos) (tE S X (.and ca cb)):=by with_unfolding_all exact zkI ha hb
theorem zmC (ha:PE X a (tE S X ca))(hb:PE X (.BoolOp .Or (b::rest) pos) (tE S X cb)):PE X (.BoolOp .Or (a::b::rest) pos) (tE S X (.or ca cb)) :=
 (zmx ha hb).imp fun σ H Q ⟨B,φ,st,ρ,rs,re,h⟩=>by
  simp only [ev] at h
  refine tE.bind rs re h fun x H1 v st1 φ1 s1 rs1 re1 rv h1=>?_
  cases v with
  |bl k =>
   simp only [RepV] at rv
   refine ⟨k,rv,?_⟩
   cases k with
   |false=>exact ⟨B,φ1,st1,ρ,rs1,re1,h1⟩
   |true=>exact h1.ok rs1 (by simp only [RepV])
  |_=>exact h1.elim
theorem zjJ (ha:KqE X a (tE S X ca))(hb:KqE X (.BoolOp .Or (b::rest) pos) (tE S X cb)):KqE X (.BoolOp .Or (a::b::rest) pos) (tE S X (.or ca cb)):=by with_unfolding_all exact zmC ha hb
theorem zlA (ha:PE X a (tE S X ca)):PE X (.UnaryOp .Not a pos) (tE S X (.not ca)) :=
 (zmd ha).imp fun σ H Q ⟨B,φ,st,ρ,rs,re,h⟩=>by
  simp only [ev] at h
  refine tE.bind rs re h fun x H1 v st1 φ1 s1 rs1 re1 rv h1=>?_
  cases v with
  |bl k =>
   simp only [RepV] at rv
   exact ⟨k,rv,h1.ok rs1 (by simp only [RepV])⟩
  |_=>exact h1.elim
theorem zdG (ha:KqE X a (tE S X ca)):KqE X (.UnaryOp .Not a pos) (tE S X (.not ca)):=by with_unfolding_all exact zlA ha
theorem zlD (ha:PE X a (tE S X ca)):PE X (.UnaryOp .USub a pos) (tE S X (.neg ca)) :=
 (zmt zkO ha).imp fun σ H Q ⟨B,φ,st,ρ,rs,re,h⟩=>by
  simp only [ev] at h
  refine tE.bind rs re h fun x H1 v st1 φ1 s1 rs1 re1 rv h1=>?_
  split at h1
  ·simp only [RepV] at rv
   exact ⟨_,rv,h1.ok rs1 (by simp only [RepV])⟩
  ·exact h1.elim
theorem zic (ha:KqE X a (tE S X ca)):KqE X (.UnaryOp .USub a pos) (tE S X (.neg ca)):=by with_unfolding_all exact zlD ha
theorem zlB (hc:PT X c (tTs S X cc))(ha:PE X a (tE S X ca))(hb:PE X b (tE S X cb)):PE X (.IfExp c a b pos) (tE S X (.ite cc ca cb)) :=
 (ziO hc ha hb).imp fun σ H Q ⟨B,φ,st,ρ,rs,re,h⟩=>by
  simp only [ev] at h
  have e:((ev S.call ρ st cc).bind fun x st1=>onO (truV st1 x) fun k=>cond k (ev S.call ρ st1 ca) (ev S.call ρ st1 cb))=(truR (ev S.call ρ st cc)).bind fun k st1=>cond k (ev S.call ρ st1 ca) (ev S.call ρ st1 cb):=by
   unfold truR
   rw [R.bind_assoc]
   congr 1
   funext x st1
   cases truV st1 x <;> rfl
  rw [e] at h
  refine tTs.bind rs re h fun k H1 st1 φ1 s1 rs1 re1 h1=>?_
  cases k with
  |true=>exact ⟨B,φ1,st1,ρ,rs1,re1,h1⟩
  |false=>exact ⟨B,φ1,st1,ρ,rs1,re1,h1⟩
theorem zi6 (hc:KqT X c (tTs S X cc))(ha:KqE X a (tE S X ca))(hb:KqE X b (tE S X cb)):KqE X (.IfExp c a b pos) (tE S X (.ite cc ca cb)):=by with_unfolding_all exact zlB hc ha hb
theorem zb3:PA X [] (tAs S X .nil):=pa_nil.imp fun σ H Q ⟨B,φ,st,ρ,rs,re,h⟩=>by
 simp only [evs] at h
 exact h.ok rs (by simp only [RepL])
theorem zg:KqA X [] (tAs S X .nil):=by with_unfolding_all exact zb3
theorem zaM (ha:PE X a (tE S X ca))(hr:PA X es (tAs S X ces))(hs:starEach (a::es) X.env=(false,eval a X.env)::starEach es X.env:=by rfl):PA X (a::es) (tAs S X (.cons ca ces)) :=
 (zae ha hr hs).imp fun σ H Q ⟨B,φ,st,ρ,rs,re,h⟩=>by
  simp only [evs] at h
  refine tE.bind rs re h fun x H1 v st1 φ1 s1 rs1 re1 rv h1=>tAs.bind rs1 re1 h1 fun xs H2 vs st2 φ2 s2 rs2 re2 rvs h2=>?_
  refine h2.ok rs2 ?_
  simp only [RepL]
  exact ⟨x,xs,rfl,rv.step s2,rvs⟩
theorem zc (ha:KqE X a (tE S X ca))(hr:KqA X es (tAs S X ces))(hs:starEach (a::es) X.env=(false,eval a X.env)::starEach es X.env:=by rfl):KqA X (a::es) (tAs S X (.cons ca ces)):=by with_unfolding_all exact zaM ha hr hs
theorem zmq {k:Nat}(h:PA X es (tAs S X ces)):PE X (.Tuple es k pos) (tE S X (.tup ces)) :=
 (zjd h).imp fun σ H Q ⟨B,φ,st,ρ,rs,re,h⟩=>by
  simp only [ev] at h
  refine tAs.bind rs re h fun xs H1 vs st1 φ1 s1 rs1 re1 rv h1=>?_
  split at h1
  ·rename_i c
   refine ⟨by rw [<- zR,<- rv.length];exact c,fun p hp=>h1 _ _ φ1 (.upd hp) (rs1.upd hp) (.tup_new hp rs1 rv)⟩
  ·exact h1.elim
theorem zaF {k:Nat}(h:KqA X es (tAs S X ces)):KqE X (.Tuple es k pos) (tE S X (.tup ces)):=by with_unfolding_all exact zmq h
theorem zlN (h:PA X es (tAs S X ces)):PE X (.List es pos) (tE S X (.lst ces)) :=
 (zjp h).imp fun σ H Q ⟨B,φ,st,ρ,rs,re,h⟩=>by
  simp only [ev] at h
  refine tAs.bind rs re h fun xs H1 vs st1 φ1 s1 rs1 re1 rv h1=>?_
  split at h1
  ·rename_i c
   refine ⟨by rw [<- zR,<- rv.length];exact c,fun p hp=>h1 _ _ φ1 (.upd hp) (rs1.upd hp) (.lst_new hp rs1 rv)⟩
  ·exact h1.elim
theorem zeb (h:KqA X es (tAs S X ces)):KqE X (.List es pos) (tE S X (.lst ces)):=by with_unfolding_all exact zlN h
theorem Step.push {p:Addr}{o:HO}(hp:H p=none):Step φ H (φ++[some p]) (L2.upd H p o):=by
 refine ⟨fun b u n e=>by rw [zn (zr e hp)];exact e,by simp,fun n a hn e=>?_,fun b h=>?_⟩
 ·rw [List.getElem?_append_left hn] at e
  exact e
 ·rw [List.mem_append] at h
  rcases h with h|h
  ·exact .inl h
  ·have:b=p:=by simpa using h
   subst this
   exact .inr hp
theorem RepS.push {K:PySem.W.Frag}{cl:Nat->Addr}{p:Addr}{u:HO}{o:Ob}(rs:RepS K cl B φ H st)(hp:H p=none)(hb:¬B p)(ho:RepO K cl B (φ++[some p]) (L2.upd H p u) o p):RepS K cl B (φ++[some p]) (L2.upd H p u) (st++[o]):=by
 have s:Step φ H (φ++[some p]) (L2.upd H p u):=.push hp
 have np:some p∉φ:=fun z=>by
  obtain ⟨w,e⟩:=rs.there z
  rw [hp] at e;cases e
 have hl:φ.length=st.length:=rs.len
 refine ⟨by simp [hl],fun m n a e1 e2=>?_,fun n a e=>?_,fun n o' e ho'=>?_,fun a h=>?_,fun a h=>?_⟩
 ·by_cases hm:m<φ.length
  ·rw [List.getElem?_append_left hm] at e1
   by_cases hn:n<φ.length
   ·rw [List.getElem?_append_left hn] at e2
    exact rs.inj m n a e1 e2
   ·rw [List.getElem?_append_right (by omega)] at e2
    have:a=p:=by
     cases q:n - φ.length with
     |zero=>rw [q] at e2;simpa using e2.symm
     |succ k=>rw [q] at e2;simp at e2
    subst this
    exact absurd (List.mem_of_getElem? e1) np
  ·rw [List.getElem?_append_right (by omega)] at e1
   have:m - φ.length=0/\a=p:=by
    cases q:m - φ.length with
    |zero=>rw [q] at e1;exact ⟨rfl,by simpa using e1.symm⟩
    |succ k=>rw [q] at e1;simp at e1
   obtain ⟨q1,rfl⟩:=this
   by_cases hn:n<φ.length
   ·rw [List.getElem?_append_left hn] at e2
    exact absurd (List.mem_of_getElem? e2) np
   ·rw [List.getElem?_append_right (by omega)] at e2
    have:n - φ.length=0:=by
     cases q:n - φ.length with
     |zero=>rfl
     |succ k=>rw [q] at e2;simp at e2
    omega
 ·by_cases hn:n<φ.length
  ·rw [List.getElem?_append_left hn] at e
   obtain ⟨o',q,r⟩:=rs.obj n a e
   refine ⟨o',by rw [List.getElem?_append_left (by omega)];exact q,r.step s ?_⟩
   rw [zn]
   rintro rfl
   exact np (List.mem_of_getElem? e)
  ·rw [List.getElem?_append_right (by omega)] at e
   have:n - φ.length=0/\a=p:=by
    cases q:n - φ.length with
    |zero=>rw [q] at e;exact ⟨rfl,by simpa using e.symm⟩
    |succ k=>rw [q] at e;simp at e
   obtain ⟨q1,rfl⟩:=this
   refine ⟨o,?_,ho⟩
   rw [List.getElem?_append_right (by omega)]
   have:n - st.length=0:=by omega
   rw [this];rfl
 ·by_cases hn:n<φ.length
  ·rw [List.getElem?_append_left (by omega)] at e
   obtain ⟨a,q⟩:=rs.liv n o' e ho'
   exact ⟨a,by rw [List.getElem?_append_left hn];exact q⟩
  ·rw [List.getElem?_append_right (by omega)] at e
   have:n - st.length=0:=by
    cases q:n - st.length with
    |zero=>rfl
    |succ k=>rw [q] at e;simp at e
   refine ⟨p,?_⟩
   rw [List.getElem?_append_right (by omega)]
   have:n - φ.length=0:=by omega
   rw [this];rfl
 ·rw [List.mem_append] at h
  rcases h with h|h
  ·exact rs.nb a h
  ·have:a=p:=by simpa using h
   subst this
   exact hb
 ·obtain ⟨w,e⟩:=rs.dom a h
  exact ⟨w,by rw [zn (zr e hp)];exact e⟩
theorem RepS.nB {K:PySem.W.Frag}{cl:Nat->Addr}{p:Addr}(rs:RepS K cl B φ H st)(hp:H p=none):¬B p:=fun z=>by
 obtain ⟨o,e⟩:=rs.dom p z
 rw [hp] at e;cases e
theorem RepV.loc_new {K:PySem.W.Frag}{cl:Nat->Addr}{p:Addr}(rs:RepS K cl B φ H st):RepV K cl B (φ++[some p]) H1 (.loc st.length) (.ref p):=by
 simp only [RepV]
 have hl:=rs.len
 refine ⟨by simp [hl],p,rfl,fun b e=>?_⟩
 rw [List.getElem?_append_right (by omega)] at e
 have:st.length - φ.length=0:=by omega
 rw [this] at e
 simpa using e.symm
theorem zkd (h:PA X es (tAs S X ces)):PE X (.List es pos) (tE S X (.newl ces)) :=
 (zjp h).imp fun σ H Q ⟨B,φ,st,ρ,rs,re,h⟩=>by
  simp only [ev] at h
  refine tAs.bind rs re h fun xs H1 vs st1 φ1 s1 rs1 re1 rv h1=>?_
  split at h1
  ·rename_i c
   refine ⟨by rw [<- zR,<- rv.length];exact c,fun p hp=>h1 _ _ (φ1++[some p]) (.push hp) (rs1.push hp (rs1.nB hp) ⟨xs,zE,rv.step (.push hp)⟩) (.loc_new rs1)⟩
  ·exact h1.elim
theorem zaP (h:KqA X es (tAs S X ces)):KqE X (.List es pos) (tE S X (.newl ces)):=by with_unfolding_all exact zkd h
end
section
variable {S:Se}{X:Cx}{σ:St}{B:Addr->Prop}{φ φ1:Ph}{H H1:Hp}{st:Store}{ρ:IC.Env}{pos p2:Pos}{a b c d:Expr}{ca cb cc:Ce}{es:List Expr}{ces:Ces}{K:PySem.W.Frag}{cl:Nat->Addr}
theorem zhZ {o:COp}{v w:PV}{α β:Type}{Rel:Ph->Hp->α->β->Prop}{k:Bool->R α}{Q:β->Hp->Prop}(h:Run S X σ B φ H Rel (onO (blO (cmpV o v w)) k) Q):∃b,cmpV o v w=some (.bl b)/\Run S X σ B φ H Rel (k b) Q:=by
 cases e:cmpV o v w with
 |none=>rw [e] at h;exact h.elim
 |some z =>
  obtain ⟨b,rfl⟩:=zec e
  rw [e] at h
  exact ⟨b,rfl,h⟩
theorem zh8 {op op':CmpOp}{o p:COp}(ho:OpR X (compareOp op) (rT2 S X (cmpV o)))(ho':OpR X (compareOp op') (rT2 S X (cmpV p)))(ha:PE X a (tE S X ca))(hb:PE X b (tE S X cb))(hc:PE X c (tE S X cc))
  (hm:lastMarks [op,op'] [b,c]=false:=by with_unfolding_all rfl):PE X (.Compare a [op,op'] [b,c] pos) (tE S X (.chain o p ca cb cc)) :=
 (zif ho ho' ha hb hc hm).imp fun σ H Q ⟨B,φ,st,ρ,rs,re,h⟩=>by
  simp only [ev] at h
  refine tE.bind rs re h fun x H1 v st1 φ1 s1 rs1 re1 rv h1=>tE.bind rs1 re1 h1 fun y H2 w st2 φ2 s2 rs2 re2 rw h2=>?_
  obtain ⟨k,e,h2⟩:=zhZ h2
  refine ⟨B,φ2,st2,v,w,.bl k,rs2,rv.step s2,rw,e,fun z' H' φ' s' rs' rz=>?_⟩
  simp only [RepV] at rz
  refine ⟨k,rz,?_⟩
  cases k with
  |false=>exact h2 _ H' φ' s' rs' (by simp only [RepV])
  |true =>
   refine tE.bind rs' (re2.step s') (Run.on s' h2) fun z H3 v3 st3 φ3 s3 rs3 re3 rv3 h3=>?_
   obtain ⟨q,eq,hq⟩:=zac h3 rs3
   exact ⟨B,φ3,st3,w,v3,q,rs3,(rw.step s').step s3,rv3,eq,hq⟩
theorem zgf {op op':CmpOp}{o p:COp}(ho:OpR X (compareOp op) (rT2 S X (cmpV o)))(ho':OpR X (compareOp op') (rT2 S X (cmpV p)))(ha:KqE X a (tE S X ca))(hb:KqE X b (tE S X cb))(hc:KqE X c (tE S X cc))
  (hm:lastMarks [op,op'] [b,c]=false:=by with_unfolding_all rfl):KqE X (.Compare a [op,op'] [b,c] pos) (tE S X (.chain o p ca cb cc)):=by with_unfolding_all exact zh8 ho ho' ha hb hc hm
theorem zie {op op':CmpOp}{o p:COp}(ho:OpR X (compareOp op) (rT2 S X (cmpV o)))(ho':OpR X (compareOp op') (rT2 S X (cmpV p)))(ha:PE X a (tE S X ca))(hb:PE X b (tE S X cb))(hc:PE X c (tE S X cc))
  (hm:lastMarks [op,op'] [b,c]=false:=by with_unfolding_all rfl):PT X (.Compare a [op,op'] [b,c] pos) (tTs S X (.chain o p ca cb cc)) :=
 (ziL ho ho' ha hb hc hm).imp fun σ H Q ⟨B,φ,st,ρ,rs,re,h⟩=>by
  simp only [ev,truR,R.bind_assoc] at h
  refine tE.bind rs re h fun x H1 v st1 φ1 s1 rs1 re1 rv h1=>tE.bind rs1 re1 h1 fun y H2 w st2 φ2 s2 rs2 re2 rw h2=>?_
  have h2':Run S X σ B φ2 H2 RB (onO (blO (cmpV o v w)) fun k=>cond k ((ev S.call ρ st2 cc).bind fun z st3=>(toR (cmpV p w z) st3).bind fun x st=>onO (truV st x) fun b=>.ok b st) (.ok false st2)) Q:=by
   cases e:cmpV o v w with
   |none=>rw [e] at h2;exact h2
   |some z =>
    obtain ⟨b,rfl⟩:=zec e
    rw [e] at h2
    cases b with
    |false=>exact h2
    |true =>
     simp only [blO,onO,cond_true,R.bind_assoc] at h2 ⊢
     exact h2
  obtain ⟨k,e,h2⟩:=zhZ h2'
  refine ⟨B,φ2,st2,v,w,.bl k,rs2,rv.step s2,rw,e,fun z' H' φ' s' rs' rz=>?_⟩
  simp only [RepV] at rz
  refine ⟨k,rz,?_⟩
  cases k with
  |false=>exact ⟨false,rfl,h2 _ H' φ' s' rs' rfl⟩
  |true =>
   refine tE.bind rs' (re2.step s') (Run.on s' h2) fun z H3 v3 st3 φ3 s3 rs3 re3 rv3 h3=>?_
   cases eq:cmpV p w v3 with
   |none=>rw [eq] at h3;exact h3.elim
   |some q =>
    obtain ⟨b,rfl⟩:=zec eq
    rw [eq] at h3
    refine ⟨B,φ3,st3,w,v3,.bl b,rs3,(rw.step s').step s3,rv3,eq,fun z2 H4 φ4 s4 rs4 rz4=>?_⟩
    simp only [RepV] at rz4
    exact ⟨b,rz4,h3 b H4 φ4 s4 rs4 rfl⟩
theorem zgg {op op':CmpOp}{o p:COp}(ho:OpR X (compareOp op) (rT2 S X (cmpV o)))(ho':OpR X (compareOp op') (rT2 S X (cmpV p)))(ha:KqE X a (tE S X ca))(hb:KqE X b (tE S X cb))(hc:KqE X c (tE S X cc))
  (hm:lastMarks [op,op'] [b,c]=false:=by with_unfolding_all rfl):KqT X (.Compare a [op,op'] [b,c] pos) (tTs S X (.chain o p ca cb cc)):=by with_unfolding_all exact zie ho ho' ha hb hc hm
theorem RepL.at {vs:List PV}{xs:List V}{i:Int}{v:PV}(l:RepL K cl B φ H vs xs)(h:at? vs i=some v):∃x,atI xs i=some x/\RepV K cl B φ H v x:=by
 unfold at? at h
 rw [l.length] at h
 unfold atI
 cases e:ixI xs.length i with
 |none=>rw [e] at h;cases h
 |some j =>
  rw [e] at h
  have e':ixN xs.length i=some j:=e
  rw [e']
  exact l.get j h
theorem RepS.list {n:Nat}{vs:List PV}{x:V}(rs:RepS K cl B φ H st)(r:RepV K cl B φ H (.loc n) x)(h:st[n]?=some (.lst vs)):∃a xs,x=.ref a/\φ[n]?=some (some a)/\H a=some (.lst xs)/\RepL K cl B φ H vs xs:=by
 simp only [RepV] at r
 obtain ⟨hn,a,rfl,ha⟩:=r
 obtain ⟨b,hb⟩:=rs.liv n _ h (by intro z;cases z)
 obtain rfl:=ha b hb
 obtain ⟨o,ho,ro⟩:=rs.obj n b hb
 rw [h] at ho;cases ho
 obtain ⟨xs,hx,l⟩:=ro
 exact ⟨b,xs,rfl,hb,hx,l⟩
noncomputable def rTS (S:Se)(X:Cx)(f:Store->PV->PV->Option PV):R2:=fun x y H Q=>∃B φ st v w z,RepS X.K S.cl B φ H st/\RepV X.K S.cl B φ H v x/\RepV X.K S.cl B φ H w y/\f st v w=some z /\
 ∀z' H' φ',Step φ H φ' H'->RepS X.K S.cl B φ' H' st->RepV X.K S.cl B φ' H' z z'->Q z' H'
theorem zck {α:Type}{xs:List α}{i:PV}{z:α}(h:idxI xs i=some z):∃k,i=.int k/\at? xs k=some z:=by
 cases i with
 |int k=>exact ⟨k,rfl,h⟩
 |_=>cases h
theorem zkD:IxR X (rTS S X idxV):=by
 rintro value slice pins s σ H x y v u Q I rx ry ⟨B,φ,st,a,i,z,rs,ra,ri,e,q⟩ hs
 cases a with
 |tp k vs =>
  obtain ⟨k,rfl,e⟩:=zck e
  simp only [RepV] at ra ri
  subst ri
  obtain ⟨p,xs,rfl,rt,l⟩:=ra
  obtain ⟨w,e1,rw⟩:=l.at e
  exact zfx value slice pins s σ H _ _ v u Q I rx ry (.inr (.inl ⟨p,xs,k,w,rfl,rfl,rt.sq,e1,q w H φ .rfl rs rw⟩)) hs
 |lst vs =>
  obtain ⟨k,rfl,e⟩:=zck e
  simp only [RepV] at ra ri
  subst ri
  obtain ⟨p,xs,rfl,rt,l⟩:=ra
  obtain ⟨w,e1,rw⟩:=l.at e
  exact zfx value slice pins s σ H _ _ v u Q I rx ry (.inl ⟨p,xs,k,w,rfl,rfl,rt.sq,e1,q w H φ .rfl rs rw⟩) hs
 |loc n =>
  simp only [idxV] at e
  split at e
  ·rename_i vs h1
   obtain ⟨k,rfl,e⟩:=zck e
   simp only [RepV] at ri
   subst ri
   obtain ⟨p,xs,rfl,_,hx,l⟩:=rs.list ra h1
   obtain ⟨w,e1,rw⟩:=l.at e
   exact zfx value slice pins s σ H _ _ v u Q I rx ry (.inl ⟨p,xs,k,w,rfl,rfl,.of hx,e1,q w H φ .rfl rs rw⟩) hs
  ·cases e
 |str t =>
  simp only [idxV] at e
  split at e
  ·rename_i hl
   cases e1:idxI t.cps.toList i with
   |none=>rw [e1] at e;cases e
   |some c =>
    rw [e1] at e
    cases e
    obtain ⟨k,rfl,e1⟩:=zck e1
    simp only [RepV] at ra ri
    subst ra ri
    exact zfx value slice pins s σ H _ _ v u Q I rx ry (.inr (.inr ⟨t,k,c,rfl,rfl,by rw [<- zR];exact hl,e1,q _ H φ .rfl rs (by simp only [RepV])⟩)) hs
  ·cases e
 |_=>cases e
theorem zk1 (ha:PE X a (tE S X ca))(hb:PE X b (tE S X cb))(hs:PlainIx b:=by exact fun _ _=>rfl):PE X (.Subscript a b pos) (tE S X (.idx ca cb)) :=
 (zmu zkD ha hb hs).imp fun σ H Q ⟨B,φ,st,ρ,rs,re,h⟩=>by
  simp only [ev] at h
  refine tE.bind rs re h fun x H1 v st1 φ1 s1 rs1 re1 rv h1=>tE.bind rs1 re1 h1 fun y H2 w st2 φ2 s2 rs2 re2 rw h2=>?_
  obtain ⟨z,e,q⟩:=zac h2 rs2
  exact ⟨B,φ2,st2,v,w,z,rs2,rv.step s2,rw,e,q⟩
theorem zu (ha:KqE X a (tE S X ca))(hb:KqE X b (tE S X cb))(hs:PlainIx b:=by exact fun _ _=>rfl):KqE X (.Subscript a b pos) (tE S X (.idx ca cb)):=by with_unfolding_all exact zk1 ha hb hs
theorem RepL.cut {vs:List PV}{xs:List V}(lo hi:Option Int)(l:RepL K cl B φ H vs xs):RepL K cl B φ H (IC.cut vs lo hi) (cutV xs lo hi):=by
 have e1:∀n o,loOf n o=HT.sIx n 0 o:=fun n o=>by cases o <;> rfl
 have e2:∀n o,hiOf n o=HT.sIx n n o:=fun n o=>by cases o <;> rfl
 unfold IC.cut cutV
 rw [l.length,e1,e2]
 exact (l.drop _).take _
noncomputable def tO (S:Se)(X:Cx)(c:Ce):TO:=fun σ H Q=>tE S X c σ H fun x H1=>(x=.non/\Q none H1) \/ ∃i,x=.int i/\Q (some i) H1
theorem zkf:PO X none (tO S X (.cst .non)):=fun pins s σ H Q I h=>by
 refine zjF pins s σ H Q I ?_
 obtain ⟨B,φ,st,ρ,rs,re,h⟩:=h
 simp only [ev] at h
 rcases h.ok rs (x:=V.non) (by simp only [RepV]) with q|⟨i,z,_⟩
 ·exact q.2
 ·cases z
theorem zam:KqO X none (tO S X (.cst .non)):=by with_unfolding_all exact zkf
theorem zkp (ha:PE X a (tE S X ca)):PO X (some a) (tO S X ca):=by
 intro pins s σ H Q I hw
 rw [evalPart_some]
 refine thn (ha pins s σ H _ I hw) fun u s1 ⟨x,H1,I1,r1,q1⟩=>?_
 rcases q1 with ⟨rfl,q⟩|⟨i,rfl,q⟩
 ·cases r1
  exact ⟨none,H1,I1,.none,q⟩
 ·obtain ⟨t,rfl⟩:=r1
  exact ⟨some i,H1,I1,.int i t,q⟩
theorem zak (ha:KqE X a (tE S X ca)):KqO X (some a) (tO S X ca):=by with_unfolding_all exact zkp ha
noncomputable def rSl (S:Se)(X:Cx):V->Option Int->Option Int->Hp->VK->Prop:=fun x lo hi H Q=>∃B φ st v z,RepS X.K S.cl B φ H st/\RepV X.K S.cl B φ H v x/\slcO v lo hi=some z /\
 ∀z' H' φ',Step φ H φ' H'->RepS X.K S.cl B φ' H' st->RepV X.K S.cl B φ' H' z z'->Q z' H'
theorem zbg {prog:Program}{w:World}{A:Around}{E:Value->Shared->Prop}{s:Shared}{t sl:Addr}{items:Array Value}{vl vu:Value}{lo hi:Option Int}{Q:Value->Shared->Prop}(ht:IsTup s.heap t items)(hs:s.heap.IsSliceOf sl vl vu .none)(pl:IsPart vl lo)(pu:IsPart vu hi)
  (hw:HT.sIx items.size 0 lo=0/\HT.sIx items.size items.size hi=items.size)
  (h:Q (.ref t) s):wpAny (model prog w) A (getItem (.ref t) (.ref sl)) Q E s:=by
 obtain ⟨os,hos,hcs,hds⟩:=id hs
 have hTs:s.TypeIs (.ref sl) "slice":=⟨os,hos,hcs⟩
 unfold getItem
 try with_reducible refine wpAny_holding ?_
 first|refine wpAny_bind (wpAny_pure ?_)|skip
 refine wpAny_bind (wpAny_sequenceKey ht.typeIs (by decide) ?_)
 refine wpAny_bind (wpAny_callSpecial?_slot (name:=Str.ofString "__getitem__") ht.typeIs PyProof.Rows.slot_tuple_getitem
  (wpAny_call_entry PyProof.Rows.slot_tuple_getitem ht.typeIs entry_tuple_getitem ?_ (args_tuple_getitem _ _)))
 show wpAny _ _ (Builtin.Tuple.tupleItemsOf (.ref t) >>= _) _ _ s
 refine wpAny_bind (PyProof.Rows.tupleItemsOf_ ht ?_)
 refine wpAny_bind (wpAny_typeOf hTs ?_)
 rw [if_pos (by decide)]
 refine wpAny_bind (HT.sliceApplied_gen hs pl pu ?_)
 have hyes:(((HT.sIx items.size 0 lo:Nat):Int) == 0 && (1:Int) == 1 && (HT.sIx items.size items.size hi - HT.sIx items.size 0 lo) == items.size)=true:=by
  rw [hw.1,hw.2]
  simp
 show wpAny _ _ (if (((HT.sIx items.size 0 lo:Nat):Int) == 0 && (1:Int) == 1 && (HT.sIx items.size items.size hi - HT.sIx items.size 0 lo) == items.size)=true then _ else _) _ _ s
 rw [if_pos hyes]
 refine wpAny_bind (wpAny_bind (wpAny_typeOf ht.typeIs (wpAny_pure ?_)))
 rw [if_pos (by decide)]
 first
  | exact wpAny_bind (wpAny_pure (wpAny_pure ⟨_,rfl,wpAny_pure h⟩))
  | exact wpAny_bind (wpAny_rule (wpAny_pure ⟨_,rfl,wpAny_pure h⟩))
  | (wp_step;wp_step;exact ⟨_,rfl,wpAny_pure h⟩)
noncomputable def rSlW (K:PySem.W.Frag):V->Option Int->Option Int->Hp->VK->Prop:=fun x lo hi H Q=>∃a xs,x=.ref a/\SqT K H a xs /\
 (HT.sIx xs.length 0 lo=0/\HT.sIx xs.length xs.length hi=xs.length)/\Q (.ref a) H
theorem zih:SlR X (rSlW X.K):=by
 intro pins s σ H x v vl vu lo hi sl Q I rx hs pl pu h
 obtain ⟨a,xs,rfl,hx,hw,q⟩:=h
 cases rx
 obtain ⟨its,r,ht,hz⟩:=I.tuple hx
 have hlen:its.toArray.size=xs.length:=by rw [List.size_toArray];exact r.length.symm
 refine ⟨"tuple",_,PyProof.Rows.slot_tuple_getitem.lookup,ht.typeIs,?_⟩
 exact zbg ht hs pl pu (by rw [hlen];exact hw) ⟨.ref a,H,I,rfl,q⟩
noncomputable def rSlS:V->Option Int->Option Int->Hp->VK->Prop:=fun x lo hi H Q=>∃y:Str,x=.str y/\y.length<=sizeLine/\Q (.str ⟨((y.cps.toList.drop (HT.sIx y.cps.toList.length 0 lo)).take (HT.sIx y.cps.toList.length y.cps.toList.length hi - HT.sIx y.cps.toList.length 0 lo)).toArray⟩) H
theorem sIdx (lo hi:Option Int)(n:Nat):Builtin.Str.strSliceIndices lo hi 1 n=sliceRange ((HT.sIx n 0 lo:Nat):Int) ((HT.sIx n n hi:Nat):Int) 1:=by
 unfold Builtin.Str.strSliceIndices
 simp only [show (1:Int) > 0 by decide,if_true]
 congr 1
 ·cases lo with
  |none=>simp [HT.sIx]
  |some i =>
   simp only [HT.sIx]
   by_cases h:i<0
   ·simp only [h,if_true] <;> omega
   ·simp only [h,if_false] <;> omega
 ·cases hi with
  |none=>simp [HT.sIx]
  |some i =>
   simp only [HT.sIx]
   by_cases h:i<0
   ·simp only [h,if_true] <;> omega
   ·simp only [h,if_false] <;> omega
theorem zhe (y:Str)(lo hi:Option Int):Txt.slice y lo hi=⟨((y.cps.toList.drop (HT.sIx y.cps.toList.length 0 lo)).take (HT.sIx y.cps.toList.length y.cps.toList.length hi - HT.sIx y.cps.toList.length 0 lo)).toArray⟩:=by
 have hn:y.length=y.cps.toList.length:=by simp [Str.length]
 unfold Txt.slice
 rw [sIdx,hn,sliceRange_one]
 have ha:=HT.sIx_le y.cps.toList.length 0 (Nat.zero_le _) lo
 have hb:=HT.sIx_le y.cps.toList.length y.cps.toList.length (Nat.le_refl _) hi
 generalize HT.sIx y.cps.toList.length 0 lo=a at *
 generalize HT.sIx y.cps.toList.length y.cps.toList.length hi=b at *
 split
 ·rename_i c
  simp only [List.length_map,List.length_range,Bool.and_eq_true,beq_iff_eq] at c
  obtain ⟨rfl,rfl⟩:a=0/\b=y.cps.toList.length:=by omega
  rw [List.drop_zero,Nat.sub_zero,List.take_length]
 ·rw [pick_run]
theorem zjz:SlR X rSlS:=by
 intro pins s σ H x v vl vu lo hi sl Q I rx hs pl pu h
 obtain ⟨y,rfl,hz,q⟩:=h
 obtain ⟨t,rfl⟩:=rx
 rw [<- zhe] at q
 refine ⟨"str",_,PySem.F.slot_str_getitem.lookup,typeIs_str _ _ _,?_⟩
 have go:∀l u:Option (Int×Tok),vl=partValue l->vu=partValue u->lo=l.map (·.1)->hi=u.map (·.1)->wpAny (model X.prog X.w) X.A (getItem (.str y t) (.ref sl)) (EP X pins σ Q) X.xe s:=by
  rintro l u rfl rfl rfl rfl
  refine wpAny_getItem_str_slice (l:=l) (u:=u) (st:=none) hs rfl ?_
  exact post_val_or_str ⟨Nat.le_trans (Txt.slice_le y _ _) hz,fun t' k=>⟨.str _,H,I.tok k,⟨_,rfl⟩,q⟩⟩
 cases pl with
 |none =>
  cases pu with
  |none=>exact go none none rfl rfl rfl rfl
  |int j u=>exact go none (some (j,u)) rfl rfl rfl rfl
 |int i t1 =>
  cases pu with
  |none=>exact go (some (i,t1)) none rfl rfl rfl rfl
  |int j u=>exact go (some (i,t1)) (some (j,u)) rfl rfl rfl rfl
theorem zjT:SlR X (rSl S X):=by
 rintro pins s σ H x v vl vu lo hi sl Q I rx hs pl pu ⟨B,φ,st,w,z,rs,rw,e,q⟩
 have e1:∀n o,loOf n o=HT.sIx n 0 o:=fun n o=>by cases o <;> rfl
 have e2:∀n o,hiOf n o=HT.sIx n n o:=fun n o=>by cases o <;> rfl
 cases w with
 |tp k vs =>
  simp only [slcO] at e
  split at e
  ·rename_i c
   cases e
   have rw':=rw
   simp only [RepV] at rw
   obtain ⟨p,xs,rfl,rt,l⟩:=rw
   refine zih pins s σ H _ v vl vu lo hi sl Q I rx hs pl pu ⟨p,xs,rfl,rt.sq,?_,q _ H φ .rfl rs rw'⟩
   rw [l.length,e1,e2] at c
   exact c
  ·rename_i c
   cases e
   simp only [RepV] at rw
   obtain ⟨p,xs,rfl,rt,l⟩:=rw
   refine zlc pins s σ H _ v vl vu lo hi sl Q I rx hs pl pu ⟨p,xs,rfl,rt.sq,?_,fun t ht=>q _ _ φ (.upd ht) (rs.upd ht) (.tup_new ht rs (l.cut lo hi))⟩
   rw [l.length,e1,e2] at c
   exact c
 |str y =>
  simp only [slcO] at e
  split at e
  ·rename_i c
   cases e
   simp only [RepV] at rw
   subst rw
   refine zjz pins s σ H _ v vl vu lo hi sl Q I rx hs pl pu ⟨y,rfl,by rw [<- zR];exact c,?_⟩
   have:=q (.str ⟨(cut y.cps.toList lo hi).toArray⟩) H φ .rfl rs (by simp only [RepV])
   rw [cut,e1,e2] at this
   exact this
  ·cases e
 |lst vs =>
  simp only [slcO] at e
  cases e
  simp only [RepV] at rw
  obtain ⟨p,xs,rfl,rt,l⟩:=rw
  exact zhl pins s σ H _ v vl vu lo hi sl Q I rx hs pl pu ⟨p,xs,rfl,rt.sq,fun t ht=>q _ _ φ (.upd ht) (rs.upd ht) (.lst_new ht rs (l.cut lo hi))⟩
 |scr vs =>
  simp only [slcO] at e
  cases e
  simp only [RepV] at rw
  obtain ⟨p,xs,rfl,rt,l⟩:=rw
  exact zhl pins s σ H _ v vl vu lo hi sl Q I rx hs pl pu ⟨p,xs,rfl,(by rcases rt with rt|rt;exact .inl rt.1;exact .inr rt),fun t ht=>q _ _ φ (.upd ht) (rs.upd ht) (.lst_new ht rs (l.cut lo hi))⟩
 |_=>cases e
theorem zla {lo hi:Option Expr}(ha:PE X a (tE S X ca))(hl:PO X lo (tO S X cb))(hh:PO X hi (tO S X cc)):PE X (.Subscript a (.Slice lo hi none p2) pos) (tE S X (.slc ca cb cc)) :=
 (ziW zjT ha hl hh).imp fun σ H Q ⟨B,φ,st,ρ,rs,re,h⟩=>by
  simp only [ev] at h
  have oi:∀{v:PV} {x:V} {o:Option Int} {B φ H},RepV X.K S.cl B φ H v x->optI v=some o->(x=.non/\o=none) \/ ∃i,x=.int i/\o=some i:=fun {v x o B φ H} r e=>by
   cases v with
   |non=>simp only [RepV] at r;cases e;exact .inl ⟨r,rfl⟩
   |int i=>simp only [RepV] at r;cases e;exact .inr ⟨i,r,rfl⟩
   |_=>cases e
  refine tE.bind rs re h fun x H1 v st1 φ1 s1 rs1 re1 rv h1=>tE.bind rs1 re1 h1 fun y H2 w st2 φ2 s2 rs2 re2 rw h2=>?_
  cases eo:optI w with
  |none=>rw [eo] at h2;exact h2.elim
  |some o1 =>
   rw [eo] at h2
   have key:tO S X cc σ H2 fun u H3=>rSl S X x o1 u H3 Q:=by
    refine tE.bind rs2 re2 h2 fun y' H3 w' st3 φ3 s3 rs3 re3 rw' h3=>?_
    obtain ⟨z,e,q⟩:=zac h3 rs3
    unfold slcV at e
    cases eo':optI w' with
    |none=>rw [eo'] at e;cases e
    |some o2 =>
     rw [eo'] at e
     have fin:rSl S X x o1 o2 H3 Q:=⟨B,φ3,st3,v,z,rs3,(rv.step s2).step s3,e,q⟩
     rcases oi rw' eo' with ⟨rfl,rfl⟩|⟨i,rfl,rfl⟩
     ·exact .inl ⟨rfl,fin⟩
     ·exact .inr ⟨i,rfl,fin⟩
   rcases oi rw eo with ⟨rfl,rfl⟩|⟨i,rfl,rfl⟩
   ·exact .inl ⟨rfl,key⟩
   ·exact .inr ⟨i,rfl,key⟩
theorem zaI {lo hi:Option Expr}(ha:KqE X a (tE S X ca))(hl:KqO X lo (tO S X cb))(hh:KqO X hi (tO S X cc)):KqE X (.Subscript a (.Slice lo hi none p2) pos) (tE S X (.slc ca cb cc)):=by with_unfolding_all exact zla ha hl hh
end
section
variable {S:Se}{X:Cx}{σ:St}{B:Addr->Prop}{φ φ1:Ph}{H H1:Hp}{st:Store}{ρ:IC.Env}{p pos p2:Pos}{a b c d:Expr}{ca cb cc:Ce}{es:List Expr}{ces:Ces}{K:PySem.W.Frag}{cl:Nat->Addr}
noncomputable def rB (S:Se)(X:Cx)(k:Blt):List V->Hp->VK->Prop:=fun xs H Q=>∃B φ st vs z,RepS X.K S.cl B φ H st/\RepL X.K S.cl B φ H vs xs/\bltV k st vs=some z /\
 ∀z' H' φ',Step φ H φ' H'->RepS X.K S.cl B φ' H' st->RepV X.K S.cl B φ' H' z z'->Q z' H'
theorem RepL.one {v:PV}{xs:List V}(l:RepL K cl B φ H [v] xs):∃x,xs=[x]/\RepV K cl B φ H v x:=by
 simp only [RepL] at l
 obtain ⟨y,ys,rfl,r,rfl⟩:=l
 exact ⟨y,rfl,r⟩
theorem RepL.two {v w:PV}{xs:List V}(l:RepL K cl B φ H [v,w] xs):∃x y,xs=[x,y]/\RepV K cl B φ H v x/\RepV K cl B φ H w y:=by
 simp only [RepL] at l
 obtain ⟨y,ys,rfl,r,z,zs,rfl,r2,rfl⟩:=l
 exact ⟨y,z,rfl,r,r2⟩
theorem zdV {k:Blt}{st:Store}{vs:List PV}{z:PV}(h:bltV k st vs=some z)(h2:∀x y,bltV k st [x,y]=none):∃x,vs=[x]:=by
 match vs,h with
 | [x],_=>exact ⟨x,rfl⟩
 | [x,y],h=>rw [h2] at h;cases h
theorem zbt {v:PV}{x:V}{vs:List PV}(rs:RepS K cl B φ H st)(r:RepV K cl B φ H v x)(h:lstOf st v=some vs):∃a xs,x=.ref a/\SqL K H a xs/\RepL K cl B φ H vs xs:=by
 cases v with
 |lst ws =>
  cases h
  simp only [RepV] at r
  obtain ⟨a,xs,rfl,rt,l⟩:=r
  exact ⟨a,xs,rfl,rt.sq,l⟩
 |loc n =>
  simp only [lstOf] at h
  split at h
  ·rename_i ws hw
   cases h
   obtain ⟨a,xs,rfl,_,hx,l⟩:=rs.list r hw
   exact ⟨a,xs,rfl,.of hx,l⟩
  ·cases h
 |_=>cases h
theorem zmg {v:PV}{x:V}{vs:List PV}(rs:RepS K cl B φ H st)(r:RepV K cl B φ H v x)(h:seqOf st v=some vs):∃a xs,x=.ref a/\(SqL K H a xs \/ SqT K H a xs)/\RepL K cl B φ H vs xs:=by
 cases v with
 |tp k ws =>
  cases h
  simp only [RepV] at r
  obtain ⟨a,xs,rfl,rt,l⟩:=r
  exact ⟨a,xs,rfl,.inr rt.sq,l⟩
 |lst ws =>
  obtain ⟨a,xs,e,q,l⟩:=zbt rs r (vs:=vs) h
  exact ⟨a,xs,e,.inl q,l⟩
 |loc n =>
  obtain ⟨a,xs,e,q,l⟩:=zbt rs r (vs:=vs) h
  exact ⟨a,xs,e,.inl q,l⟩
 |_=>cases h
theorem zaa:CallR X (.builtin "len") (rB S X .len):=by
 rintro pins s σ H xs us Q I r ⟨B,φ,st,vs,z,rs,l,e,q⟩
 obtain ⟨v,rfl⟩:=zdV e fun _ _=>rfl
 obtain ⟨x,rfl,rv⟩:=l.one
 simp only [bltV,lenV] at e
 split at e
 ·rename_i t
  split at e
  ·rename_i c
   cases e
   simp only [RepV] at rv
   subst rv
   exact zej pins s σ H _ us Q I r ⟨t,rfl,by rw [<- zR];exact c,q _ H φ .rfl rs (by simp only [RepV])⟩
  ·cases e
 ·cases e1:seqOf st v with
  |none=>rw [e1] at e;cases e
  |some ws =>
   rw [e1] at e
   cases e
   obtain ⟨a,ys,rfl,h,l⟩:=zmg rs rv e1
   refine zeu pins s σ H _ us Q I r ⟨a,ys,rfl,?_,q _ H φ .rfl rs (by simp only [RepV];rw [l.length])⟩
   exact h
theorem RepL.ints:∀{ns:List Int} {xs:List V},RepL K cl B φ H (ns.map .int) xs->xs=ns.map V.int
 | [],xs,h=>by simpa only [List.map_nil,RepL] using h
 |n::ns,xs,h=>by
  simp only [List.map_cons,RepL] at h
  obtain ⟨y,ys,rfl,r,l⟩:=h
  simp only [RepV] at r
  rw [r,RepL.ints l]
  rfl
theorem RepL.bls:∀{ns:List Bool} {xs:List V},RepL K cl B φ H (ns.map .bl) xs->xs=ns.map V.bl
 | [],xs,h=>by simpa only [List.map_nil,RepL] using h
 |n::ns,xs,h=>by
  simp only [List.map_cons,RepL] at h
  obtain ⟨y,ys,rfl,r,l⟩:=h
  simp only [RepV] at r
  rw [r,RepL.bls l]
  rfl
theorem zfU:CallR X (.type "tuple") (rB S X .tuple):=by
 rintro pins s σ H xs us Q I r ⟨B,φ,st,vs,z,rs,l,e,q⟩
 obtain ⟨v,rfl⟩:=zdV e fun _ _=>rfl
 obtain ⟨x,rfl,rv⟩:=l.one
 simp only [bltV,tupV] at e
 split at e
 ·cases e
  simp only [RepV] at rv
  obtain ⟨a,ys,rfl,rt,l⟩:=rv
  exact zbA pins s σ H _ us Q I r ⟨a,ys,rfl,.inr ⟨rt.sq,q _ H φ .rfl rs (by simp only [RepV];exact ⟨a,ys,rfl,rt,l⟩)⟩⟩
 ·cases e1:lstOf st v with
  |none=>rw [e1] at e;cases e
  |some ws =>
   rw [e1] at e
   cases e
   obtain ⟨a,ys,rfl,h,l⟩:=zbt rs rv e1
   exact zbA pins s σ H _ us Q I r ⟨a,ys,rfl,.inl ⟨h,fun t ht=>q _ _ φ (.upd ht) (rs.upd ht) (.tup_new ht rs l)⟩⟩
theorem zjf:∀{vs:List PV} {m:Bool},IC.allB vs=some m->∃ns:List Bool,vs=ns.map .bl/\m=ns.all id
 | [],m,h=>by cases h;exact ⟨[],rfl,rfl⟩
 | .bl i::r,m,h=>by
  simp only [IC.allB] at h
  split at h
  ·rename_i c e
   cases h
   obtain ⟨ns,e1,e2⟩:=zjf e
   exact ⟨i::ns,by rw [e1];rfl,by rw [e2];rfl⟩
  ·cases h
 | .non::r,m,h=>by cases h
 | .int _::r,m,h=>by cases h
 | .str _::r,m,h=>by cases h
 | .tp _ _::r,m,h=>by cases h
 | .lst _::r,m,h=>by cases h
 | .loc _::r,m,h=>by cases h
 | .exn _::r,m,h=>by cases h
 | .scr _::r,m,h=>by cases h
theorem zgQ (hc:X.calm=true):CallR X (.builtin "all") (rB S X .all):=by
 rintro pins s σ H xs us Q I r ⟨B,φ,st,vs,z,rs,l,e,q⟩
 obtain ⟨v,rfl⟩:=zdV e fun _ _=>rfl
 obtain ⟨x,rfl,rv⟩:=l.one
 simp only [bltV] at e
 cases e1:lstOf st v with
 |none=>rw [e1] at e;cases e
 |some ws =>
  rw [e1] at e
  simp only [Option.bind_some] at e
  cases e2:IC.allB ws with
  |none=>rw [e2] at e;cases e
  |some m =>
   rw [e2] at e
   cases e
   obtain ⟨ns,rfl,rfl⟩:=zjf e2
   obtain ⟨a,ys,rfl,h,l⟩:=zbt rs rv e1
   rw [l.bls] at h
   exact ziu hc pins s σ H _ us Q I r ⟨a,ns,rfl,h,q _ H φ .rfl rs (by simp only [RepV])⟩
variable {x:Str}{id T:String}{k:Blt}
theorem zlL (hc:CallR X (.builtin id) (rB S X k))(hg:Gl X x)(hm:X.mg x=none)(hv:bootBuiltins x=some (.builtin id))(ha:PA X (a::es) (tAs S X ces))(hn:x ≠ "__name__":=by decide)(hdb:(x == ("__debug__":Str))=false:=by decide)
  (he:starEach (a::es) X.env=(false,eval a X.env)::starEach es X.env:=by rfl) (hpl:(backTo pos (starEach es X.env)).any (·.1)=false:=by rfl):PE X (.Call (.Name x p) (a::es) [] pos) (tE S X (.blt k ces)) :=
 (zcm hc hg hm hv ha hn hdb he hpl).imp fun σ H Q ⟨B,φ,st,ρ,rs,re,h⟩=>by
  simp only [ev] at h
  refine tAs.bind rs re h fun xs H1 vs st1 φ1 s1 rs1 re1 rv h1=>?_
  obtain ⟨z,e,q⟩:=zac h1 rs1
  exact ⟨B,φ1,st1,vs,z,rs1,rv,e,q⟩
theorem zD (hc:CallR X (.builtin id) (rB S X k))(hg:Gl X x)(hm:X.mg x=none)(hv:bootBuiltins x=some (.builtin id))(ha:KqA X (a::es) (tAs S X ces))(hn:x ≠ "__name__":=by decide)(hdb:(x == ("__debug__":Str))=false:=by decide)
  (he:starEach (a::es) X.env=(false,eval a X.env)::starEach es X.env:=by rfl) (hpl:(backTo pos (starEach es X.env)).any (·.1)=false:=by rfl):KqE X (.Call (.Name x p) (a::es) [] pos) (tE S X (.blt k ces)):=by with_unfolding_all exact zlL hc hg hm hv ha hn hdb he hpl
theorem zjM (hc:CallR X (.type T) (rB S X k))(hg:Gl X x)(hm:X.mg x=none)(hv:bootBuiltins x=some (.type T))(ha:PA X (a::es) (tAs S X ces))(hn:x ≠ "__name__":=by decide)(hdb:(x == ("__debug__":Str))=false:=by decide)
  (he:starEach (a::es) X.env=(false,eval a X.env)::starEach es X.env:=by rfl) (hpl:(backTo pos (starEach es X.env)).any (·.1)=false:=by rfl):PE X (.Call (.Name x p) (a::es) [] pos) (tE S X (.blt k ces)) :=
 (zhx hc hg hm hv ha hn hdb he hpl).imp fun σ H Q ⟨B,φ,st,ρ,rs,re,h⟩=>by
  simp only [ev] at h
  refine tAs.bind rs re h fun xs H1 vs st1 φ1 s1 rs1 re1 rv h1=>?_
  obtain ⟨z,e,q⟩:=zac h1 rs1
  exact ⟨B,φ1,st1,vs,z,rs1,rv,e,q⟩
theorem zeN (hc:CallR X (.type T) (rB S X k))(hg:Gl X x)(hm:X.mg x=none)(hv:bootBuiltins x=some (.type T))(ha:KqA X (a::es) (tAs S X ces))(hn:x ≠ "__name__":=by decide)(hdb:(x == ("__debug__":Str))=false:=by decide)
  (he:starEach (a::es) X.env=(false,eval a X.env)::starEach es X.env:=by rfl) (hpl:(backTo pos (starEach es X.env)).any (·.1)=false:=by rfl):KqE X (.Call (.Name x p) (a::es) [] pos) (tE S X (.blt k ces)):=by with_unfolding_all exact zjM hc hg hm hv ha hn hdb he hpl
end
section
variable {S:Se}{X:Cx}{σ:St}{B:Addr->Prop}{φ φ1:Ph}{H H1:Hp}{st:Store}{ρ:IC.Env}{p pos p2 apos:Pos}{a b c d:Expr}{ca cb cc:Ce}{es:List Expr}{ces:Ces}{K:PySem.W.Frag}{cl:Nat->Addr}
theorem Step.put {l:Addr}{u:HO}(hl:some l∈φ):Step φ H φ (L2.upd H l u) :=
 ⟨fun b o n e=>by rw [zn (show b≠l from fun z=>n (by rw [z];exact hl))];exact e,Nat.le_refl _,fun _ _ _ e=>e,fun _ h=>.inl h⟩
theorem RepS.put {n:Nat}{l:Addr}{u:HO}{o:Ob}(rs:RepS K cl B φ H st)(hn:φ[n]?=some (some l))(ho:RepO K cl B φ (L2.upd H l u) o l):RepS K cl B φ (L2.upd H l u) (st.set n o):=by
 have hm:some l∈φ:=List.mem_of_getElem? hn
 have s:Step φ H φ (L2.upd H l u):=.put hm
 have hlt:n<st.length:=by rw [<- rs.len];exact (List.getElem?_eq_some_iff.mp hn).1
 refine ⟨by rw [List.length_set];exact rs.len,rs.inj,fun m a e=>?_,fun m o' e ho'=>?_,rs.nb,fun a h=>?_⟩
 ·by_cases hmn:m=n
  ·subst hmn
   rw [hn] at e;cases e
   exact ⟨o,by rw [List.getElem?_set_self hlt],ho⟩
  ·obtain ⟨o',q,r⟩:=rs.obj m a e
   refine ⟨o',by rw [List.getElem?_set_ne (Ne.symm hmn)];exact q,r.step s ?_⟩
   rw [zn]
   rintro rfl
   exact hmn (rs.inj m n a e hn)
 ·by_cases hmn:m=n
  ·subst hmn
   exact ⟨l,hn⟩
  ·rw [List.getElem?_set_ne (Ne.symm hmn)] at e
   exact rs.liv m o' e ho'
 ·obtain ⟨w,e⟩:=rs.dom a h
  by_cases z:a=l
  ·subst z;exact ⟨u,zE⟩
  ·exact ⟨w,by rw [zn z];exact e⟩
theorem million:1000000<=sizeLine:=by rw [sizeLine_eq];decide
theorem zb1 {m:Mth}{v:PV}{st:Store}{α β:Type}{Rel:Ph->Hp->α->β->Prop}{k:Bool->R α}{Q:β->Hp->Prop}(h:Run S X σ B φ H Rel (onO (mthOk m st v) k) Q):∃b,mthOk m st v=some b/\Run S X σ B φ H Rel (k b) Q:=by
 cases e:mthOk m st v with
 |none=>rw [e] at h;exact h.elim
 |some z=>rw [e] at h;exact ⟨z,rfl,h⟩
theorem zhs (ha:PE X a (tE S X ca))(hb:PE X b (tE S X cb))(hs:starEach [b] X.env=[(false,eval b X.env)]:=by rfl)(hbase:attributeBase a "append" X.env (eval a X.env)=eval a X.env:=by rfl)(hline:(apos.endLine == pos.line)=true:=by rfl)
  (hfew:((backTo pos (starEach [b] X.env)).all (fun x=>!x.1) && (backToKw pos (keywordEach [] X.env)).all (fun x=>x.1.isSome) && decide (([b]:List Expr).length+([]:List Keyword).length+(if ([]:List Keyword).isEmpty then 0 else 1)<30))=true:=by rfl) :
  PE X (.Call (.Attribute a "append" apos) [b] [] pos) (tE S X (.mth .append ca (.cons cb .nil))) :=
 (zfe PySem.F.plainAttrs_list PySem.F.slot_list_append PySem.F.type_list_append zbJ ha (zaM (S:=S) hb zb3 hs) hbase hfew hline hs rfl).imp fun σ H Q ⟨B,φ,st,ρ,rs,re,h⟩=>by
  simp only [ev] at h
  refine tE.bind rs re h fun x H1 v st1 φ1 s1 rs1 re1 rv h1=>?_
  obtain ⟨_,e1,h1⟩:=zb1 h1
  have t1:∃ws,lstOf st1 v=some ws:=by
   simp only [mthOk] at e1
   cases q:lstOf st1 v with
   |none=>rw [q] at e1;cases e1
   |some ws=>exact ⟨ws,rfl⟩
  obtain ⟨ws,t1⟩:=t1
  obtain ⟨l,xs,rfl,hl,_⟩:=zbt rs1 rv t1
  refine ⟨.inl ⟨rfl,xs,hl⟩,tAs.bind rs1 re1 h1 fun ys H2 vs st2 φ2 s2 rs2 re2 rvs h2=>?_⟩
  have rv2:=rv.step s2
  rcases vs with _|⟨w,_|⟨w',t⟩⟩
  ·exact h2.elim
  ·obtain ⟨y,rfl,rw⟩:=rvs.one
   simp only [mthV,appV] at h2
   split at h2
   ·rename_i n
    split at h2
    ·rename_i zs hz
     split at h2
     ·rename_i c
      obtain ⟨l',xs',e,hn,hx,lr⟩:=rs2.list rv2 hz
      cases e
      refine ⟨l,xs',y,rfl,rfl,hx,by have:=million;have:=lr.length;omega,?_⟩
      exact h2 _ _ φ2 (.put (List.mem_of_getElem? hn)) (rs2.put hn ⟨_,zE,(lr.append (by simp only [RepL];exact ⟨y,[],rfl,rw,rfl⟩)).step (.put (List.mem_of_getElem? hn))⟩) (by simp only [RepV])
     ·exact h2.elim
    ·exact h2.elim
   ·exact h2.elim
  ·exact h2.elim
theorem zcD (ha:KqE X a (tE S X ca))(hb:KqE X b (tE S X cb))(hs:starEach [b] X.env=[(false,eval b X.env)]:=by rfl)(hbase:attributeBase a "append" X.env (eval a X.env)=eval a X.env:=by rfl)(hline:(apos.endLine == pos.line)=true:=by rfl)
  (hfew:((backTo pos (starEach [b] X.env)).all (fun x=>!x.1) && (backToKw pos (keywordEach [] X.env)).all (fun x=>x.1.isSome) && decide (([b]:List Expr).length+([]:List Keyword).length+(if ([]:List Keyword).isEmpty then 0 else 1)<30))=true:=by rfl) :
  KqE X (.Call (.Attribute a "append" apos) [b] [] pos) (tE S X (.mth .append ca (.cons cb .nil))):=by with_unfolding_all exact zhs ha hb hs hbase hline hfew
theorem zgM (ha:PE X a (tE S X ca))(hb:PE X b (tE S X cb))(hs:starEach [b] X.env=[(false,eval b X.env)]:=by rfl)(hbase:attributeBase a "extend" X.env (eval a X.env)=eval a X.env:=by rfl)(hline:(apos.endLine == pos.line)=true:=by rfl)
  (hfew:((backTo pos (starEach [b] X.env)).all (fun x=>!x.1) && (backToKw pos (keywordEach [] X.env)).all (fun x=>x.1.isSome) && decide (([b]:List Expr).length+([]:List Keyword).length+(if ([]:List Keyword).isEmpty then 0 else 1)<30))=true:=by rfl) :
  PE X (.Call (.Attribute a "extend" apos) [b] [] pos) (tE S X (.mth .extend ca (.cons cb .nil))) :=
 (zfe PySem.F.plainAttrs_list PySem.F.slot_list_extend PySem.F.type_list_extend zhD ha (zaM (S:=S) hb zb3 hs) hbase hfew hline hs rfl).imp fun σ H Q ⟨B,φ,st,ρ,rs,re,h⟩=>by
  simp only [ev] at h
  refine tE.bind rs re h fun x H1 v st1 φ1 s1 rs1 re1 rv h1=>?_
  obtain ⟨_,e1,h1⟩:=zb1 h1
  have t1:∃ws,lstOf st1 v=some ws:=by
   simp only [mthOk] at e1
   cases q:lstOf st1 v with
   |none=>rw [q] at e1;cases e1
   |some ws=>exact ⟨ws,rfl⟩
  obtain ⟨ws,t1⟩:=t1
  obtain ⟨l,xs,rfl,hl,_⟩:=zbt rs1 rv t1
  refine ⟨.inl ⟨rfl,xs,hl⟩,tAs.bind rs1 re1 h1 fun ys H2 vs st2 φ2 s2 rs2 re2 rvs h2=>?_⟩
  have rv2:=rv.step s2
  rcases vs with _|⟨w,_|⟨w',t⟩⟩
  ·exact h2.elim
  ·obtain ⟨y,rfl,rw⟩:=rvs.one
   simp only [mthV,extV] at h2
   split at h2
   ·rename_i n
    split at h2
    ·rename_i zs hz
     split at h2
     ·rename_i ks
      split at h2
      ·rename_i c
       obtain ⟨l',xs',e,hn,hx,lr⟩:=rs2.list rv2 hz
       cases e
       simp only [RepV] at rw
       obtain ⟨b',ys',rfl,rl,lr2⟩:=rw
       refine ⟨l,b',xs',ys',rfl,rfl,hx,rl.1,by have:=million;have:=lr.length;have:=lr2.length;omega,?_⟩
       exact h2 _ _ φ2 (.put (List.mem_of_getElem? hn)) (rs2.put hn ⟨_,zE,(lr.append lr2).step (.put (List.mem_of_getElem? hn))⟩) (by simp only [RepV])
      ·exact h2.elim
     ·exact h2.elim
    ·exact h2.elim
   ·exact h2.elim
  ·exact h2.elim
theorem zbj (ha:KqE X a (tE S X ca))(hb:KqE X b (tE S X cb))(hs:starEach [b] X.env=[(false,eval b X.env)]:=by rfl)(hbase:attributeBase a "extend" X.env (eval a X.env)=eval a X.env:=by rfl)(hline:(apos.endLine == pos.line)=true:=by rfl)
  (hfew:((backTo pos (starEach [b] X.env)).all (fun x=>!x.1) && (backToKw pos (keywordEach [] X.env)).all (fun x=>x.1.isSome) && decide (([b]:List Expr).length+([]:List Keyword).length+(if ([]:List Keyword).isEmpty then 0 else 1)<30))=true:=by rfl) :
  KqE X (.Call (.Attribute a "extend" apos) [b] [] pos) (tE S X (.mth .extend ca (.cons cb .nil))):=by with_unfolding_all exact zgM ha hb hs hbase hline hfew
theorem zkF (ha:PE X a (tE S X ca)):PE X a (tE S X (.frz ca)) :=
 ha.imp fun σ H Q ⟨B,φ,st,ρ,rs,re,h⟩=>by
  simp only [ev] at h
  refine tE.bind rs re h fun x H1 v st1 φ1 s1 rs1 re1 rv h1=>?_
  unfold frzV at h1
  split at h1
  ·rename_i n
   split at h1
   ·rename_i vs hv
    obtain ⟨l,xs,rfl,hn,hx,lr⟩:=rs1.list rv hv
    have hm:some l∈φ1:=List.mem_of_getElem? hn
    have hlt:n<φ1.length:=(List.getElem?_eq_some_iff.mp hn).1
    have nl:some l∉φ1.set n none:=fun z=>by
     obtain ⟨m,e⟩:=List.mem_iff_getElem?.mp z
     by_cases hmn:m=n
     ·subst hmn
      rw [List.getElem?_set_self hlt] at e;cases e
     ·rw [List.getElem?_set_ne (Ne.symm hmn)] at e
      exact hmn (rs1.inj m n l e hn)
    have sb:∀b,some b∈φ1.set n none->some b∈φ1:=fun b z=>by
     obtain ⟨m,e⟩:=List.mem_iff_getElem?.mp z
     by_cases hmn:m=n
     ·subst hmn
      rw [List.getElem?_set_self hlt] at e;cases e
     ·rw [List.getElem?_set_ne (Ne.symm hmn)] at e
      exact List.mem_of_getElem? e
    have s:Step φ1 H1 (φ1.set n none) H1:=⟨fun _ _ _ e=>e,by simp,fun m a hm' e=>by
     by_cases hmn:m=n
     ·subst hmn
      rw [List.getElem?_set_self hlt] at e;cases e
     ·rw [List.getElem?_set_ne (Ne.symm hmn)] at e
      exact e,fun b z=>.inl (sb b z)⟩
    refine h1 _ H1 (φ1.set n none) s ⟨by simp [rs1.len],fun m k a e1 e2=>?_,fun m a e=>?_,fun m o e ho=>?_,fun a z=>rs1.nb a (sb a z),rs1.dom⟩ ?_
    ·by_cases h1':m=n
     ·subst h1';rw [List.getElem?_set_self hlt] at e1;cases e1
     ·by_cases h2':k=n
      ·subst h2';rw [List.getElem?_set_self hlt] at e2;cases e2
      ·rw [List.getElem?_set_ne (Ne.symm h1')] at e1
       rw [List.getElem?_set_ne (Ne.symm h2')] at e2
       exact rs1.inj m k a e1 e2
    ·by_cases hmn:m=n
     ·subst hmn;rw [List.getElem?_set_self hlt] at e;cases e
     ·rw [List.getElem?_set_ne (Ne.symm hmn)] at e
      obtain ⟨o,q,r⟩:=rs1.obj m a e
      exact ⟨o,by rw [List.getElem?_set_ne (Ne.symm hmn)];exact q,r.step s rfl⟩
    ·by_cases hmn:m=n
     ·subst hmn
      rw [List.getElem?_set_self (by rw [<- rs1.len];exact hlt)] at e;cases e
      exact absurd rfl ho
     ·rw [List.getElem?_set_ne (Ne.symm hmn)] at e ⊢
      exact rs1.liv m o e ho
    ·simp only [RepV]
     exact ⟨l,xs,rfl,⟨hx,rs1.nb l hm,nl⟩,lr.step s⟩
   ·exact h1.elim
  ·exact h1.ok rs1 rv
theorem ziY (ha:KqE X a (tE S X ca)):KqE X a (tE S X (.frz ca)):=by with_unfolding_all exact zkF ha
end
section
variable {S:Se}{X:Cx}{σ:St}{B:Addr->Prop}{φ φ1:Ph}{H H1:Hp}{st:Store}{ρ:IC.Env}{p pos p2 apos:Pos}{a b c d:Expr}{ca cb cc:Ce}{es:List Expr}{ces:Ces}{K:PySem.W.Frag}{cl:Nat->Addr}
theorem zgT (ha:PE X a (tE S X ca))(hb:PE X b (tE S X cb))(hc:PE X c (tE S X cc))(hs:starEach [b,c] X.env=[(false,eval b X.env),(false,eval c X.env)]:=by rfl)(hs2:starEach [c] X.env=[(false,eval c X.env)]:=by rfl)(hbase:attributeBase a "insert" X.env (eval a X.env)=eval a X.env:=by rfl)(hline:(apos.endLine == pos.line)=true:=by rfl)(hany:((backTo pos (starEach [c] X.env)).any fun x=>x.1)=false:=by rfl)
  (hfew:((backTo pos (starEach [b,c] X.env)).all (fun x=>!x.1) && (backToKw pos (keywordEach [] X.env)).all (fun x=>x.1.isSome) && decide (([b,c]:List Expr).length+([]:List Keyword).length+(if ([]:List Keyword).isEmpty then 0 else 1)<30))=true:=by rfl) :
  PE X (.Call (.Attribute a "insert" apos) [b,c] [] pos) (tE S X (.mth .insert ca (.cons cb (.cons cc .nil)))) :=
 (zfe PySem.F.plainAttrs_list PySem.F.slot_list_insert PySem.F.type_list_insert zh1 ha (zaM (S:=S) hb (zaM (S:=S) hc zb3 hs2) (by rw [hs,hs2])) hbase hfew hline (by rw [hs,hs2]) hany).imp fun σ H Q ⟨B,φ,st,ρ,rs,re,h⟩=>by
  simp only [ev] at h
  refine tE.bind rs re h fun x H1 v st1 φ1 s1 rs1 re1 rv h1=>?_
  obtain ⟨_,e1,h1⟩:=zb1 h1
  have t1:∃ws,lstOf st1 v=some ws:=by
   simp only [mthOk] at e1
   cases q:lstOf st1 v with
   |none=>rw [q] at e1;cases e1
   |some ws=>exact ⟨ws,rfl⟩
  obtain ⟨ws,t1⟩:=t1
  obtain ⟨l,xs,rfl,hl,_⟩:=zbt rs1 rv t1
  refine ⟨.inl ⟨rfl,xs,hl⟩,tAs.bind rs1 re1 h1 fun ys H2 vs st2 φ2 s2 rs2 re2 rvs h2=>?_⟩
  have rv2:=rv.step s2
  rcases vs with _|⟨w,_|⟨w',_|⟨w'',t⟩⟩⟩
  ·exact h2.elim
  ·exact h2.elim
  ·obtain ⟨y,y',rfl,rw,rw'⟩:=rvs.two
   simp only [mthV,insV] at h2
   split at h2
   ·rename_i n
    split at h2
    ·rename_i zs hz
     split at h2
     ·rename_i k
      split at h2
      ·rename_i c
       obtain ⟨l',xs',e,hn,hx,lr⟩:=rs2.list rv2 hz
       cases e
       simp only [RepV] at rw
       subst rw
       have hln:=lr.length
       refine ⟨l,k,xs',y',rfl,rfl,hx,c.1,by omega,by have:=million;omega,?_⟩
       exact h2 _ _ φ2 (.put (List.mem_of_getElem? hn)) (rs2.put hn ⟨_,zE,((lr.take k.toNat).append (show RepL _ _ _ _ _ (w'::zs.drop k.toNat) (y'::xs'.drop k.toNat) by simp only [RepL];exact ⟨y',_,rfl,rw',lr.drop k.toNat⟩)).step (.put (List.mem_of_getElem? hn))⟩) (by simp only [RepV])
      ·exact h2.elim
     ·exact h2.elim
    ·exact h2.elim
   ·exact h2.elim
  ·exact h2.elim
theorem zcC (ha:KqE X a (tE S X ca))(hb:KqE X b (tE S X cb))(hc:KqE X c (tE S X cc))(hs:starEach [b,c] X.env=[(false,eval b X.env),(false,eval c X.env)]:=by rfl)(hs2:starEach [c] X.env=[(false,eval c X.env)]:=by rfl)(hbase:attributeBase a "insert" X.env (eval a X.env)=eval a X.env:=by rfl)(hline:(apos.endLine == pos.line)=true:=by rfl)(hany:((backTo pos (starEach [c] X.env)).any fun x=>x.1)=false:=by rfl)
  (hfew:((backTo pos (starEach [b,c] X.env)).all (fun x=>!x.1) && (backToKw pos (keywordEach [] X.env)).all (fun x=>x.1.isSome) && decide (([b,c]:List Expr).length+([]:List Keyword).length+(if ([]:List Keyword).isEmpty then 0 else 1)<30))=true:=by rfl) :
  KqE X (.Call (.Attribute a "insert" apos) [b,c] [] pos) (tE S X (.mth .insert ca (.cons cb (.cons cc .nil)))):=by with_unfolding_all exact zgT ha hb hc hs hs2 hbase hline hany hfew
end
section
variable (S:Se)(X:Cx)
def RunF (B:Addr->Prop)(φ:Ph)(H:Hp)(f:Fl)(D:Ends):Prop :=
 match f with
 | .nx ρ' st'=>∀σ' H' φ',Step φ H φ' H'->RepS X.K S.cl B φ' H' st'->RepE X.K S.cl B φ' H' ρ' σ'->D.nx σ' H'
 | .rt v st'=>∀x H' φ',Step φ H φ' H'->RepS X.K S.cl B φ' H' st'->RepV X.K S.cl B φ' H' v x->D.rt x H'
 | .bk ρ' st'=>∀σ' H' φ',Step φ H φ' H'->RepS X.K S.cl B φ' H' st'->RepE X.K S.cl B φ' H' ρ' σ'->D.bk σ' H'
 | .ct ρ' st'=>∀σ' H' φ',Step φ H φ' H'->RepS X.K S.cl B φ' H' st'->RepE X.K S.cl B φ' H' ρ' σ'->D.ct σ' H'
 | .exc k ρ' st'=>∀σ' φ1 H1 e s',Step φ H φ1 H1->RepE X.K S.cl B φ1 H1 ρ' σ'->ExcAt S X σ' B φ1 H1 k st' e s'->X.xe e s'
 | .bad=>False
noncomputable def tS (c:Cs):TS:=fun D σ H=>∃B φ st ρ,RepS X.K S.cl B φ H st/\RepE X.K S.cl B φ H ρ σ/\RunF S X B φ H (ex S.call ρ st c) D
noncomputable def tSs (c:Css):TS:=fun D σ H=>∃B φ st ρ,RepS X.K S.cl B φ H st/\RepE X.K S.cl B φ H ρ σ/\RunF S X B φ H (exs S.call ρ st c) D
end
section
variable {S:Se}{X:Cx}{σ:St}{B:Addr->Prop}{φ φ1:Ph}{H H1:Hp}{st:Store}{ρ:IC.Env}{D:Ends}{pos p2 px:Pos}{a b c o:Expr}{ca cb cc:Ce}{s1:Stmt}{ss ss':List Stmt}{c1:Cs}{cs cs':Css}
theorem RunF.on {f:Fl}(s:Step φ H φ1 H1)(h:RunF S X B φ H f D):RunF S X B φ1 H1 f D:=by
 cases f with
 |nx ρ st=>exact fun σ' H' φ' t=>h σ' H' φ' (s.trans t)
 |rt ρ st=>exact fun σ' H' φ' t=>h σ' H' φ' (s.trans t)
 |bk ρ st=>exact fun σ' H' φ' t=>h σ' H' φ' (s.trans t)
 |ct ρ st=>exact fun σ' H' φ' t=>h σ' H' φ' (s.trans t)
 |exc k ρ st=>exact fun σ' φ2 H2 e s' t=>h σ' φ2 H2 e s' (s.trans t)
 |bad=>exact h
theorem tE.fl {k:PV->Store->Fl}{P:V->Hp->Prop}(rs:RepS X.K S.cl B φ H st)(re:RepE X.K S.cl B φ H ρ σ)(h:RunF S X B φ H ((ev S.call ρ st ca).fl ρ k) D)
  (n:∀x H1 v st1 φ1,Step φ H φ1 H1->RepS X.K S.cl B φ1 H1 st1->RepE X.K S.cl B φ1 H1 ρ σ->RepV X.K S.cl B φ1 H1 v x->RunF S X B φ1 H1 (k v st1) D->P x H1):tE S X ca σ H P:=by
 refine ⟨B,φ,st,ρ,rs,re,?_⟩
 cases e:ev S.call ρ st ca with
 |ok v st' =>
  rw [e] at h
  exact fun x H' φ' s rs' rv=>n x H' v st' φ' s rs' (re.step s) rv (h.on s)
 |exc k st' =>
  rw [e] at h
  exact fun e s' x=>h σ φ H e s' .rfl re x
 |bad=>rw [e] at h;exact h
theorem PS.imp {t t':TS}(h:PS X s1 t')(k:∀D σ H,t D σ H->t' D σ H):PS X s1 t:=fun pins s σ H D I q=>h pins s σ H D I (k D σ H q)
theorem PSs.imp {t t':TS}(h:PSs X ss t')(k:∀D σ H,t D σ H->t' D σ H):PSs X ss t:=fun pins s σ H D I q=>h pins s σ H D I (k D σ H q)
theorem RepE.set {K:PySem.W.Frag}{cl:Nat->Addr}(r:RepE K cl B φ H ρ σ)(i:Nat){v:PV}{x:V}(rv:RepV K cl B φ H v x):RepE K cl B φ H (ρ.set i (some v)) (σ.set i (some x)):=by
 refine ⟨by rw [List.length_set,List.length_set];exact r.len,fun j w e=>?_⟩
 by_cases h:j=i
 ·subst h
  by_cases hl:j<ρ.length
  ·rw [List.getElem?_set_self hl] at e
   cases e
   exact ⟨x,by rw [List.getElem?_set_self (by rw [<- r.len];exact hl)],rv⟩
  ·rw [List.getElem?_eq_none (by rw [List.length_set];omega)] at e
   cases e
 ·rw [List.getElem?_set_ne (Ne.symm h)] at e ⊢
  exact r.get j w e
theorem zk9:PSs X [] (tSs S X .nil):=pss_nil.imp fun D σ H ⟨B,φ,st,ρ,rs,re,h⟩=>by
 simp only [exs] at h
 exact h σ H φ .rfl rs re
theorem zf:KqSs X [] (tSs S X .nil):=by with_unfolding_all exact zk9
theorem zjx (h1:PS X s1 (tS S X c1))(h2:PSs X ss (tSs S X cs)):PSs X (s1::ss) (tSs S X (.cons c1 cs)) :=
 (ziT h1 h2).imp fun D σ H ⟨B,φ,st,ρ,rs,re,h⟩=>by
  simp only [exs] at h
  refine ⟨B,φ,st,ρ,rs,re,?_⟩
  cases e:ex S.call ρ st c1 with
  |nx ρ1 st1 =>
   rw [e] at h
   exact fun σ' H' φ' s rs' re'=>⟨B,φ',st1,ρ1,rs',re',h.on s⟩
  |rt v st1=>rw [e] at h;exact h
  |bk ρ1 st1=>rw [e] at h;exact h
  |ct ρ1 st1=>rw [e] at h;exact h
  |exc k ρ1 st1=>rw [e] at h;exact h
  |bad=>rw [e] at h;exact h
theorem zb (h1:KqS X s1 (tS S X c1))(h2:KqSs X ss (tSs S X cs)):KqSs X (s1::ss) (tSs S X (.cons c1 cs)):=by with_unfolding_all exact zjx h1 h2
theorem zkt (he:PE X a (tE S X ca))(hs:swapsWith a none pos.line X.env=pure false:=by rfl):PS X (.Expr a pos) (tS S X (.expr ca)) :=
 (zjS he hs).imp fun D σ H ⟨B,φ,st,ρ,rs,re,h⟩=>by
  simp only [ex] at h
  exact tE.fl rs re h fun x H1 v st1 φ1 s rs1 re1 rv h1=>h1 σ H1 φ1 .rfl rs1 re1
theorem z6 (he:KqE X a (tE S X ca))(hs:swapsWith a none pos.line X.env=pure false:=by rfl):KqS X (.Expr a pos) (tS S X (.expr ca)):=by with_unfolding_all exact zkt he hs
theorem zlR (he:PE X a (tE S X ca)):PS X (.Return (some a) pos) (tS S X (.ret ca)) :=
 (zlx he).imp fun D σ H ⟨B,φ,st,ρ,rs,re,h⟩=>by
  simp only [ex] at h
  exact tE.fl rs re h fun x H1 v st1 φ1 s rs1 re1 rv h1=>h1 x H1 φ1 .rfl rs1 rv
theorem zG (he:KqE X a (tE S X ca)):KqS X (.Return (some a) pos) (tS S X (.ret ca)):=by with_unfolding_all exact zlR he
theorem zlT {i:Nat}{x:Str}(hN:X.N.Nodup)(hi:X.N[i]?=some x)(hx:Loc X.env.scope x)(he:PE X a (tE S X ca))(hs:swapsWith a (some (.Name x px)) pos.line X.env=pure false:=by rfl)
  (hf:X.fn x=true \/ X.env.scope.names.lookup x=some .local:=by first|exact .inl rfl|exact .inr rfl|assumption):PS X (.Assign [.Name x px] a pos) (tS S X (.asg (.n i) ca)) :=
 (zlO hN hi hx he hs hf).imp fun D σ H ⟨B,φ,st,ρ,rs,re,h⟩=>by
  simp only [ex] at h
  exact tE.fl rs re h fun x H1 v st1 φ1 s rs1 re1 rv h1=>h1 _ H1 φ1 .rfl rs1 (re1.set i rv)
theorem zk {i:Nat}{x:Str}(hN:X.N.Nodup)(hi:X.N[i]?=some x)(hx:Loc X.env.scope x)(he:KqE X a (tE S X ca))(hs:swapsWith a (some (.Name x px)) pos.line X.env=pure false:=by rfl)
  (hf:X.fn x=true \/ X.env.scope.names.lookup x=some .local:=by first|exact .inl rfl|exact .inr rfl|assumption):KqS X (.Assign [.Name x px] a pos) (tS S X (.asg (.n i) ca)):=by with_unfolding_all exact zlT hN hi hx he hs hf
theorem flT (r:R PV)(f:Bool->Store->Fl):(r.fl ρ fun x st1=>onF (truV st1 x) fun k=>f k st1)=(truR r).fl ρ f:=by
 cases r with
 |ok v s =>
  simp only [R.fl,truR,R.bind]
  cases truV s v <;> rfl
 |exc c s=>rfl
 |bad=>rfl
theorem tTs.fl {k:Bool->Store->Fl}{P:Bool->Hp->Prop}(rs:RepS X.K S.cl B φ H st)(re:RepE X.K S.cl B φ H ρ σ)(h:RunF S X B φ H ((truR (ev S.call ρ st ca)).fl ρ k) D)
  (n:∀b H1 st1 φ1,Step φ H φ1 H1->RepS X.K S.cl B φ1 H1 st1->RepE X.K S.cl B φ1 H1 ρ σ->RunF S X B φ1 H1 (k b st1) D->P b H1):tTs S X ca σ H P:=by
 refine ⟨B,φ,st,ρ,rs,re,?_⟩
 cases e:truR (ev S.call ρ st ca) with
 |ok v st' =>
  rw [e] at h
  exact fun x H' φ' s rs' rv=>by
   subst rv
   exact n v H' st' φ' s rs' (re.step s) (h.on s)
 |exc k st' =>
  rw [e] at h
  exact fun e s' x=>h σ φ H e s' .rfl re x
 |bad=>rw [e] at h;exact h
theorem zmF (hc:PT X c (tTs S X cc))(ha:PSs X ss (tSs S X cs))(hb:PSs X ss' (tSs S X cs')):PS X (.If c ss ss' pos) (tS S X (.ite cc cs cs')) :=
 (zmy hc ha hb).imp fun D σ H ⟨B,φ,st,ρ,rs,re,h⟩=>by
  simp only [ex] at h
  rw [flT _ fun k st1=>cond k (exs S.call ρ st1 cs) (exs S.call ρ st1 cs')] at h
  refine tTs.fl rs re h fun k H1 st1 φ1 s rs1 re1 h1=>?_
  cases k with
  |true=>exact ⟨B,φ1,st1,ρ,rs1,re1,h1⟩
  |false=>exact ⟨B,φ1,st1,ρ,rs1,re1,h1⟩
theorem zB (hc:KqT X c (tTs S X cc))(ha:KqSs X ss (tSs S X cs))(hb:KqSs X ss' (tSs S X cs')):KqS X (.If c ss ss' pos) (tS S X (.ite cc cs cs')):=by with_unfolding_all exact zmF hc ha hb
theorem zkH {i:Nat}{x:Str}{op:Operator}{bo:BOp}(hN:X.N.Nodup)(hi:X.N[i]?=some x)(hx:Loc X.env.scope x)(he:PE X a (tE S X ca))(ho:PIp X op (rT2 S X (augV bo)))
  (hf:X.fn x=true \/ X.env.scope.names.lookup x=some .local:=by first|exact .inl rfl|exact .inr rfl|assumption) (hd:(x == ("__debug__":Str))=false:=by decide) (hcd:(x == ("__classdict__":Str))=false:=by decide):PS X (.AugAssign (.Name x px) op a pos) (tS S X (.aug i bo ca)) :=
 (zmh hN hi hx he ho hf).imp fun D σ H ⟨B,φ,st,ρ,rs,re,h⟩=>by
  simp only [ex] at h
  cases q:ρ[i]? with
  |none=>rw [q] at h;exact h.elim
  |some w =>
   cases w with
   |none=>rw [q] at h;exact h.elim
   |some w =>
    rw [q] at h
    obtain ⟨y,hy,rw⟩:=re.get i w q
    refine ⟨y,hy,tE.fl rs re h fun z H1 v st1 φ1 s rs1 re1 rv h1=>?_⟩
    cases e:augV bo w v with
    |none=>rw [e] at h1;exact h1.elim
    |some u =>
     rw [e] at h1
     exact ⟨B,φ1,st1,w,v,u,rs1,rw.step s,rv,e,fun z' H' φ' s' rs' rz=>h1 _ H' φ' s' rs' ((re1.step s').set i rz)⟩
theorem zi4 {i:Nat}{x:Str}{op:Operator}{bo:BOp}(hN:X.N.Nodup)(hi:X.N[i]?=some x)(hx:Loc X.env.scope x)(he:KqE X a (tE S X ca))(ho:PIp X op (rT2 S X (augV bo)))
  (hf:X.fn x=true \/ X.env.scope.names.lookup x=some .local:=by first|exact .inl rfl|exact .inr rfl|assumption) (hd:(x == ("__debug__":Str))=false:=by decide) (hcd:(x == ("__classdict__":Str))=false:=by decide):KqS X (.AugAssign (.Name x px) op a pos) (tS S X (.aug i bo ca)):=by with_unfolding_all exact zkH hN hi hx he ho hf hd hcd
end
section
variable (S:Se)(X:Cx)
structure Drw (B:Addr->Prop)(φ0:Ph)(H0:Hp)(xs:List PV)(J:It):Prop where
 stop:∀φ H,Step φ0 H0 φ H->J.stop xs.length H
 go:∀(i:Nat) φ H,Step φ0 H0 φ H->i<xs.length->J.go i H
 yld:∀(i:Nat) φ H st x H' (B':Addr->Prop),(∀y,B' y->B y \/ H0 y=none)->Step φ0 H0 φ H->RepS X.K S.cl B' φ H st->i<xs.length->J.yld i H x H'->∃v,xs[i]?=some v/\RepV X.K S.cl B' φ H' v x/\∀b o,H b=some o->H' b=some o
noncomputable abbrev RD (B:Addr->Prop):Ph->Hp->List PV->It->Prop:=fun φ H=>Drw S X B φ H
noncomputable def tI (c:Cit):TI:=fun σ H R=>∃B φ st ρ,RepS X.K S.cl B φ H st/\RepE X.K S.cl B φ H ρ σ/\Run S X σ B φ H (RD S X B) (evi S.call ρ st c) R
end
section
variable {S:Se}{X:Cx}{σ:St}{B:Addr->Prop}{φ φ1:Ph}{H H1:Hp}{st:Store}{ρ:IC.Env}{D:Ends}{pos p p2 px:Pos}{a b c o tg l:Expr}{ca cb cc:Ce}{es:List Expr}{ces:Ces}{ss:List Stmt}{cs:Css}{ci:Cit}{ct:Tg}
theorem zkg {s1:Stmt}:PS X s1 (tS S X .nope):=fun pins s σ H D I ⟨B,φ,st,ρ,rs,re,h⟩=>by
 simp only [ex] at h
 exact h.elim
theorem zcR {s1:Stmt}:KqS X s1 (tS S X .nope):=by with_unfolding_all exact zkg
theorem PI.imp {t t':TI}(h:PI X tg l t')(k:∀σ H R,t σ H R->t' σ H R):PI X tg l t:=fun pins s σ H R I q=>h pins s σ H R I (k σ H R q)
theorem zk4 {tl:TE}(hl:PE X l tl):PI X tg l (fun σ H R=>tl σ H fun x H1=>∃a,x=.ref a/\(((∃xs,SqL X.K H1 a xs)/\R (Itl X.K a) H1) \/ ((∃xs,SqT X.K H1 a xs)/\R (Itt X.K a) H1))):=by
 intro pins s σ H R I h
 refine thn (hl pins s σ H _ I h) fun v s1 ⟨x,H1,I1,r1,q1⟩=>?_
 obtain ⟨a,e,q1⟩:=q1
 subst e
 cases r1
 rcases q1 with ⟨⟨xs,hq⟩,q⟩|⟨⟨xs,hq⟩,q⟩
 ·obtain ⟨its,rv,p,hz⟩:=I1.list hq
  refine wpAny_pyIter_list p.isList ?_
  refine ⟨s1.heap.objs.size,[s1.heap.objs.size],_,_,H1,rfl,I1.kept (t':=s1.toks) fun b o e=>Heap.get?_push_of_some _ e,zhq a _,⟨_,Heap.get?_push_size _ rfl,rfl,rfl⟩,fun b hb=>?_,q⟩
  have e:b=s1.heap.objs.size:=by simpa using hb
  subst e
  exact I1.fpOk (Nat.le_refl _) (I1.hok.fresh (Nat.le_refl _))
 ·obtain ⟨its,rv,p,hz⟩:=I1.tuple hq
  refine wpAny_pyIter_tuple (show s1.heap.IsTuple a its.toArray from p) ?_
  refine ⟨s1.heap.objs.size,[s1.heap.objs.size],_,_,H1,rfl,I1.kept (t':=s1.toks) fun b o e=>Heap.get?_push_of_some _ e,zf6 a _,⟨_,Heap.get?_push_size _ rfl,rfl,rfl⟩,fun b hb=>?_,q⟩
  have e:b=s1.heap.objs.size:=by simpa using hb
  subst e
  exact I1.fpOk (Nat.le_refl _) (I1.hok.fresh (Nat.le_refl _))
theorem zki {k:Bool}{vs:List PV}{xs:List V}{y:Addr}(rt:RTup X.K B φ H k y xs)(l:RepL X.K S.cl B φ H vs xs):Drw S X B φ H vs (Itt X.K y):=by
 have hl:=l.length
 refine ⟨fun φ' H' s=>⟨xs,(rt.step s).sq,by omega⟩,fun i φ' H' s hi=>⟨xs,xs[i]'(by omega),(rt.step s).sq,by simp [show i<xs.length by omega]⟩,fun i φ' H' st x H2 B' hB s rs hi q=>?_⟩
 obtain ⟨rfl,q⟩:=q
 obtain ⟨v,hv⟩:∃v,vs[i]?=some v:=⟨vs[i],by simp [hi]⟩
 obtain ⟨x',hx',rv⟩:=l.get i hv
 have:=q xs (rt.step s).sq
 rw [this] at hx'
 cases hx'
 exact ⟨v,hv,(rv.moreB hB).step s,fun _ _ e=>e⟩
theorem zj3 {vs:List PV}{xs:List V}{y:Addr}(rt:RLst B φ H y xs)(l:RepL X.K S.cl B φ H vs xs):Drw S X B φ H vs (Itl X.K y):=by
 have hl:=l.length
 refine ⟨fun φ' H' s=>⟨xs,(rt.step s).sq,by omega⟩,fun i φ' H' s hi=>⟨xs,xs[i]'(by omega),(rt.step s).sq,by simp [show i<xs.length by omega]⟩,fun i φ' H' st x H2 B' hB s rs hi q=>?_⟩
 obtain ⟨rfl,q⟩:=q
 obtain ⟨v,hv⟩:∃v,vs[i]?=some v:=⟨vs[i],by simp [hi]⟩
 obtain ⟨x',hx',rv⟩:=l.get i hv
 have:=q xs (rt.step s).sq
 rw [this] at hx'
 cases hx'
 exact ⟨v,hv,(rv.moreB hB).step s,fun _ _ e=>e⟩
theorem zlu (hl:PE X l (tE S X ca)):PI X tg l (tI S X (.seq ca)) :=
 (zk4 hl).imp fun σ H R ⟨B,φ,st,ρ,rs,re,h⟩=>by
  simp only [evi] at h
  refine tE.bind rs re h fun x H1 v st1 φ1 s1 rs1 re1 rv h1=>?_
  cases v with
  |tp k vs =>
   simp only [RepV] at rv
   obtain ⟨y,xs,rfl,rt,l⟩:=rv
   exact ⟨y,rfl,.inr ⟨⟨xs,rt.sq⟩,h1.ok rs1 (zki rt l)⟩⟩
  |lst vs =>
   simp only [RepV] at rv
   obtain ⟨y,xs,rfl,rt,l⟩:=rv
   exact ⟨y,rfl,.inl ⟨⟨xs,rt.sq⟩,h1.ok rs1 (zj3 rt l)⟩⟩
  |_=>exact h1.elim
theorem zdt (hl:KqE X l (tE S X ca)):KqI X tg l (tI S X (.seq ca)):=by with_unfolding_all exact zlu hl
theorem zdl:∀(n:Nat) (lo d:Int) (i:Nat),(rangeL n lo d)[i]?=if i<n then some (.int (lo+i*d)) else none
 |0,lo,d,i=>by simp [rangeL]
 |n+1,lo,d,0=>by simp [rangeL]
 |n+1,lo,d,i+1=>by
  simp only [rangeL,List.getElem?_cons_succ]
  rw [zdl n (lo+d) d i]
  by_cases h:i<n
  ·rw [if_pos h,if_pos (by omega),Int.natCast_succ,Int.add_mul,Int.one_mul,Int.add_assoc,Int.add_comm d]
  ·rw [if_neg h,if_neg (by omega)]
theorem za3:∀(n:Nat) (lo d:Int),(rangeL n lo d).length=n
 |0,lo,d=>rfl
 |n+1,lo,d=>by simp [rangeL,za3 n]
theorem zgI {lo:Int}{n:Nat}:Drw S X B φ H (rangeL n lo 1) (Itr lo n):=by
 refine ⟨fun φ' H' s=>by rw [za3];exact Nat.le_refl _,fun i φ' H' s hi=>by rw [za3] at hi;exact hi,fun i φ' H' st x H2 B' hB s rs hi q=>?_⟩
 rw [za3] at hi
 obtain ⟨rfl,rfl⟩:=q
 refine ⟨.int (lo+i),?_,by simp only [RepV],fun _ _ e=>e⟩
 rw [zdl,if_pos hi,Int.mul_one]
theorem zfg {o:Option (List PV)}{st:Store}{Q:It->Hp->Prop}(h:Run S X σ B φ H (RD S X B) (toL o st) Q):∃xs,o=some xs/\Run S X σ B φ H (RD S X B) (.ok xs st) Q:=by
 cases o with
 |none=>exact h.elim
 |some z=>exact ⟨z,rfl,h⟩
theorem zgH (hg:Gl X "range")(hm:X.mg "range"=none)(ha:PE X a (tE S X ca))(hs:starEach [a] X.env=[(false,eval a X.env)]:=by rfl):PI X tg (.Call (.Name "range" p) [a] [] pos) (tI S X (.range1 ca)) :=
 (zgX hg hm (zae ha pa_nil hs) hs).imp fun σ H R ⟨B,φ,st,ρ,rs,re,h⟩=>by
  simp only [evi] at h
  refine tE.bind rs re h fun x H1 v st1 φ1 s1 rs1 re1 rv h1=>?_
  obtain ⟨xs,e,h1⟩:=zfg h1
  cases v with
  |int j =>
   simp only [rng1] at e
   split at e
   ·cases e
    simp only [RepV] at rv
    subst rv
    exact ⟨j,rfl,by omega,by omega,h1.ok rs1 zgI⟩
   ·cases e
  |_=>cases e
theorem zaq (hg:Gl X "range")(hm:X.mg "range"=none)(ha:KqE X a (tE S X ca))(hs:starEach [a] X.env=[(false,eval a X.env)]:=by rfl):KqI X tg (.Call (.Name "range" p) [a] [] pos) (tI S X (.range1 ca)):=by with_unfolding_all exact zgH hg hm ha hs
theorem zcr:∀(xs:List PV) (k i:Nat),(pairsUp k xs)[i]?=(xs[i]?).map fun x=>.tup [.int ((k+i:Nat):Int),x]
 | [],k,i=>by simp [pairsUp]
 |x::xs,k,0=>by simp [pairsUp]
 |x::xs,k,i+1=>by
  simp only [pairsUp,List.getElem?_cons_succ]
  rw [zcr xs (k+1) i]
  have:k+1+i=k+(i+1):=by omega
  rw [this]
theorem zcG:∀(xs:List PV) (k:Nat),(pairsUp k xs).length=xs.length
 | [],k=>rfl
 |x::xs,k=>by simp [pairsUp,zcG xs]
theorem ziU {k:Bool}{vs:List PV}{xs:List V}{y:Addr}(rt:RTup X.K B φ H k y xs)(l:RepL X.K S.cl B φ H vs xs):Drw S X B φ H (pairsUp 0 vs) (Ite X.K y):=by
 have hl:=l.length
 have hp:=zcG vs 0
 refine ⟨fun φ' H' s=>⟨xs,(rt.step s).sq,by omega⟩,fun i φ' H' s hi=>⟨xs,xs[i]'(by omega),(rt.step s).sq,by simp [show i<xs.length by omega]⟩,fun i φ' H' st x H2 B' hB s rs hi q=>?_⟩
 obtain ⟨T,hT,rfl,q⟩:=q
 obtain ⟨v,hv⟩:∃v,vs[i]?=some v:=⟨vs[i]'(by omega),by simp [show i<vs.length by omega]⟩
 obtain ⟨x',hx',rv⟩:=l.get i hv
 have e:=q xs x' (rt.step s).sq hx'
 subst e
 refine ⟨.tup [.int i,v],?_,.tup_new hT rs ?_,fun b o e=>by rw [zn (zr e hT)];exact e⟩
 ·rw [zcr,hv]
  simp
 ·simp only [RepL,RepV]
  exact ⟨_,_,rfl,rfl,x',[],rfl,(rv.moreB hB).step s,rfl⟩
theorem zkh {es:List Expr}{kk:Nat}{tp:Pos}(hg:Gl X "enumerate")(hm:X.mg "enumerate"=none)(ha:PE X a (tE S X ca))(hs:starEach [a] X.env=[(false,eval a X.env)]:=by rfl) :
  PI X (.Tuple es kk tp) (.Call (.Name "enumerate" p) [a] [] pos) (tI S X (.enum ca)) :=
 (ziQ hg hm (zae ha pa_nil hs) hs).imp fun σ H R ⟨B,φ,st,ρ,rs,re,h⟩=>by
  simp only [evi] at h
  refine tE.bind rs re h fun x H1 v st1 φ1 s1 rs1 re1 rv h1=>?_
  cases v with
  |tp k vs =>
   simp only [RepV] at rv
   obtain ⟨y,xs,rfl,rt,l⟩:=rv
   exact ⟨y,rfl,⟨xs,rt.sq⟩,h1.ok rs1 (ziU rt l)⟩
  |_=>exact h1.elim
theorem zgV {es:List Expr}{kk:Nat}{tp:Pos}(hg:Gl X "enumerate")(hm:X.mg "enumerate"=none)(ha:KqE X a (tE S X ca))(hs:starEach [a] X.env=[(false,eval a X.env)]:=by rfl) :
  KqI X (.Tuple es kk tp) (.Call (.Name "enumerate" p) [a] [] pos) (tI S X (.enum ca)):=by with_unfolding_all exact zkh hg hm ha hs
noncomputable def tG (S:Se)(X:Cx)(t:Tg):TG:=fun v σ H Q=>∃B φ st ρ w ρ',RepS X.K S.cl B φ H st/\RepE X.K S.cl B φ H ρ σ/\RepV X.K S.cl B φ H w v/\bindT t w ρ=some ρ'/\∀σ',RepE X.K S.cl B φ H ρ' σ'->Q σ' H
theorem PG.imp {t t':TG}(h:PG X tg t')(k:∀v σ H Q,t v σ H Q->t' v σ H Q):PG X tg t:=fun pins s σ H v u Q I rv q=>h pins s σ H v u Q I rv (k v σ H Q q)
theorem zjW {i:Nat}{x:Str}(hN:X.N.Nodup)(hi:X.N[i]?=some x)(hx:Loc X.env.scope x)(hf:X.fn x=true \/ X.env.scope.names.lookup x=some .local:=by first|exact .inl rfl|exact .inr rfl|assumption):PG X (.Name x pos) (tG S X (.n i)) :=
 (zgD hN hi hx hf).imp fun v σ H Q ⟨B,φ,st,ρ,w,ρ',rs,re,rv,e,q⟩=>by
  cases e
  exact q _ (re.set i rv)
theorem zP {i:Nat}{x:Str}(hN:X.N.Nodup)(hi:X.N[i]?=some x)(hx:Loc X.env.scope x)(hf:X.fn x=true \/ X.env.scope.names.lookup x=some .local:=by first|exact .inl rfl|exact .inr rfl|assumption):KqG X (.Name x pos) (tG S X (.n i)):=by with_unfolding_all exact zjW hN hi hx hf
noncomputable def gNs (l:List Nat):TGs:=fun vs σ H Q=>vs.length=l.length/\Q ((l.zip vs).foldl (fun σ p=>σ.set p.1 (some p.2)) σ) H
theorem PGs.imp {es:List Expr}{t t':TGs}(h:PGs X es t')(k:∀v σ H Q,t v σ H Q->t' v σ H Q):PGs X es t:=fun pins s σ H vs us Q I rv q=>h pins s σ H vs us Q I rv (k vs σ H Q q)
theorem zju:PGs X [] (gNs []):=pgs_nil.imp fun vs σ H Q ⟨h,q⟩=>by
 cases vs with
 |nil=>exact ⟨rfl,q⟩
 |cons _ _=>cases h
theorem zg2:KqGs X [] (gNs []):=by with_unfolding_all exact zju
theorem ziN {es:List Expr}{l:List Nat}{i:Nat}{x:Str}(hN:X.N.Nodup)(hi:X.N[i]?=some x)(hx:Loc X.env.scope x)(h2:PGs X es (gNs l))(hf:X.fn x=true \/ X.env.scope.names.lookup x=some .local:=by first|exact .inl rfl|exact .inr rfl|assumption):PGs X (.Name x pos::es) (gNs (i::l)) :=
 (zi0 (zgD hN hi hx hf) h2).imp fun vs σ H Q ⟨h,q⟩=>by
  cases vs with
  |nil=>cases h
  |cons v vs=>exact ⟨v,vs,rfl,by simpa using h,q⟩
theorem zdg {es:List Expr}{l:List Nat}{i:Nat}{x:Str}(hN:X.N.Nodup)(hi:X.N[i]?=some x)(hx:Loc X.env.scope x)(h2:KqGs X es (gNs l))(hf:X.fn x=true \/ X.env.scope.names.lookup x=some .local:=by first|exact .inl rfl|exact .inr rfl|assumption):KqGs X (.Name x pos::es) (gNs (i::l)):=by with_unfolding_all exact ziN hN hi hx h2 hf
theorem RepE.sets {K:PySem.W.Frag}{cl:Nat->Addr}:∀(l:List Nat) {vs:List PV} {xs:List V} {ρ:IC.Env} {σ:St},RepE K cl B φ H ρ σ->RepL K cl B φ H vs xs ->
  RepE K cl B φ H ((l.zip vs).foldl (fun ρ p=>ρ.set p.1 (some p.2)) ρ) ((l.zip xs).foldl (fun σ p=>σ.set p.1 (some p.2)) σ)
 | [],vs,xs,ρ,σ,re,l=>by simpa using re
 |i::is,[],xs,ρ,σ,re,l=>by
  simp only [RepL] at l
  subst l
  simpa using re
 |i::is,v::vs,xs,ρ,σ,re,l=>by
  simp only [RepL] at l
  obtain ⟨y,ys,rfl,r,l⟩:=l
  simp only [List.zip_cons_cons,List.foldl_cons]
  exact RepE.sets is (re.set i r) l
theorem zkK {es:List Expr}{l:List Nat}{k:Nat}(hc:X.calm=true)(h:PGs X es (gNs l))(hn:(assignEach es X.env).length=l.length:=by rfl)(hst:(assignEach es X.env).findIdx? (·.1)=none:=by rfl):PG X (.Tuple es k pos) (tG S X (.t l)) :=
 (zlP hc h hn hst).imp fun v σ H Q ⟨B,φ,st,ρ,w,ρ',rs,re,rv,e,q⟩=>by
  cases w with
  |tp kk vs =>
   simp only [bindT] at e
   split at e
   ·rename_i c
    cases e
    simp only [RepV] at rv
    obtain ⟨y,xs,rfl,rt,lr⟩:=rv
    have hl:=lr.length
    exact ⟨y,xs,rfl,rt.sq,by omega,by omega,q _ (RepE.sets l re lr)⟩
   ·cases e
  |_=>cases e
theorem zik {es:List Expr}{l:List Nat}{k:Nat}(hc:X.calm=true)(h:KqGs X es (gNs l))(hn:(assignEach es X.env).length=l.length:=by rfl)(hst:(assignEach es X.env).findIdx? (·.1)=none:=by rfl):KqG X (.Tuple es k pos) (tG S X (.t l)):=by with_unfolding_all exact zkK hc h hn hst
theorem tI.fl {k:List PV->Store->Fl}{P:It->Hp->Prop}(rs:RepS X.K S.cl B φ H st)(re:RepE X.K S.cl B φ H ρ σ)(h:RunF S X B φ H ((evi S.call ρ st ci).fl ρ k) D)
  (n:∀x H1 v st1 φ1,Step φ H φ1 H1->RepS X.K S.cl B φ1 H1 st1->RepE X.K S.cl B φ1 H1 ρ σ->Drw S X B φ1 H1 v x->RunF S X B φ1 H1 (k v st1) D->P x H1):tI S X ci σ H P:=by
 refine ⟨B,φ,st,ρ,rs,re,?_⟩
 cases e:evi S.call ρ st ci with
 |ok v st' =>
  rw [e] at h
  exact fun x H' φ' s rs' rv=>n x H' v st' φ' s rs' (re.step s) rv (h.on s)
 |exc k st' =>
  rw [e] at h
  exact fun e s' x=>h σ φ H e s' .rfl re x
 |bad=>rw [e] at h;exact h
theorem zlt (hp:PassesOwn (model X.prog X.w) X.A X.env X.xe)(hc:X.calm=true)(hi:PI X tg l (tI S X ci))(hg:PG X tg (tG S X ct))(hb:PSs X ss (tSs S X cs))(hs:∀x,foldedSetIterable l X.env x=pure x:=by intro _;rfl) :
  PS X (.For tg l ss [] pos) (tS S X (.for ct ci cs)) :=
 (zlH hp hc hi hg hb hs).imp fun D σ H ⟨B,φ,st,ρ,rs,re,h⟩=>by
  simp only [ex] at h
  refine tI.fl rs re h fun J H1 xs st1 φ1 s1 rs1 re1 dr h1=>?_
  refine ⟨fun i m σ H=>∃φ st ρ,i+m=xs.length/\Step φ1 H1 φ H/\RepS X.K S.cl B φ H st/\RepE X.K S.cl B φ H ρ σ/\RunF S X B φ H (forL ct (fun ρ2 st2=>exs S.call ρ2 st2 cs) (xs.drop i) ρ st) D,
   ⟨xs.length,φ1,st1,ρ,by omega,.rfl,rs1,re1,by simpa using h1⟩,?_⟩
  rintro i m σ2 H2 ⟨φ2,st2,ρ2,hm,s2,rs2,re2,h2⟩
  by_cases hi:i<xs.length
  ·refine .inr ⟨dr.go i φ2 H2 s2 hi,fun σ' H'=>∃φ st ρ,Step φ1 H1 φ H'/\RepS X.K S.cl B φ H' st/\RepE X.K S.cl B φ H' ρ σ'/\RunF S X B φ H' (forL ct (fun ρ2 st2=>exs S.call ρ2 st2 cs) (xs.drop (i+1)) ρ st) D,
    fun σ' H' ⟨φ,st,ρ,s,q⟩=>⟨m - 1,by omega,φ,st,ρ,by omega,s,q⟩,fun x H3 hy=>?_⟩
   obtain ⟨v,hv,rv,kk⟩:=dr.yld i φ2 H2 st2 x H3 B (fun _ z=>.inl z) s2 rs2 hi hy
   have e:xs.drop i=v::xs.drop (i+1):=by
    rw [List.drop_eq_getElem_cons hi]
    rw [List.getElem?_eq_getElem hi] at hv
    rw [Option.some.inj hv]
   have s3:Step φ2 H2 φ2 H3:=⟨fun b o _ e=>kk b o e,Nat.le_refl _,fun _ _ _ e=>e,fun _ h=>.inl h⟩
   have rs3:RepS X.K S.cl B φ2 H3 st2:=rs2.same kk
   rw [e,forL] at h2
   cases eb:bindT ct v ρ2 with
   |none=>rw [eb] at h2;exact h2.elim
   |some ρ3 =>
    rw [eb] at h2
    refine ⟨B,φ2,st2,ρ2,v,ρ3,rs3,re2.step s3,rv,eb,fun σ' re'=>⟨B,φ2,st2,ρ3,rs3,re',?_⟩⟩
    have h3:=RunF.on s3 h2
    dsimp only at h3
    cases ee:exs S.call ρ3 st2 cs with
    |nx ρ4 st4 =>
     rw [ee] at h3
     exact fun σ4 H4 φ4 s4 rs4 re4=>⟨φ4,st4,ρ4,s2.trans (s3.trans s4),rs4,re4,RunF.on s4 h3⟩
    |ct ρ4 st4 =>
     rw [ee] at h3
     exact fun σ4 H4 φ4 s4 rs4 re4=>⟨φ4,st4,ρ4,s2.trans (s3.trans s4),rs4,re4,RunF.on s4 h3⟩
    |bk ρ4 st4=>rw [ee] at h3;exact h3
    |rt v4 st4=>rw [ee] at h3;exact h3
    |exc k ρ4 st4=>rw [ee] at h3;exact h3
    |bad=>rw [ee] at h3;exact h3
  ·have e:i=xs.length:=by omega
   subst e
   rw [List.drop_length,forL] at h2
   exact .inl ⟨dr.stop φ2 H2 s2,h2 σ2 H2 φ2 .rfl rs2 re2⟩
theorem za2 (hp:PassesOwn (model X.prog X.w) X.A X.env X.xe)(hc:X.calm=true)(hi:KqI X tg l (tI S X ci))(hg:KqG X tg (tG S X ct))(hb:KqSs X ss (tSs S X cs))(hs:∀x,foldedSetIterable l X.env x=pure x:=by intro _;rfl) :
  KqS X (.For tg l ss [] pos) (tS S X (.for ct ci cs)):=by with_unfolding_all exact zlt hp hc hi hg hb hs
theorem zh9 (hp:PassesOwn (model X.prog X.w) X.A X.env X.xe)(hc:PT X c (tTs S X cc))(hb:PSs X ss (tSs S X cs)):PS X (.While c ss [] pos) (tS S X (.while cc cs)) :=
 (zi2 hp hc hb).imp fun D σ H ⟨B,φ,st,ρ,rs,re,h⟩=>by
  simp only [ex] at h
  refine ⟨fun m σ H=>∃φ st ρ,RepS X.K S.cl B φ H st/\RepE X.K S.cl B φ H ρ σ/\RunF S X B φ H (whileL (fun ρ2 st2=>ev S.call ρ2 st2 cc) (fun ρ2 st2=>exs S.call ρ2 st2 cs) m ρ st) D,⟨100000,φ,st,ρ,rs,re,h⟩,?_⟩
  rintro m σ2 H2 ⟨φ2,st2,ρ2,rs2,re2,h2⟩
  cases m with
  |zero=>exact h2.elim
  |succ m =>
   rw [whileL] at h2
   rw [flT _ fun k st1=>cond k (againF (exs S.call ρ2 st1 cs) fun ρ2 st2=>whileL (fun ρ2 st2=>ev S.call ρ2 st2 cc) (fun ρ2 st2=>exs S.call ρ2 st2 cs) m ρ2 st2) (.nx ρ2 st1)] at h2
   refine tTs.fl rs2 re2 h2 fun k H3 st3 φ3 s3 rs3 re3 h3=>?_
   cases k with
   |false=>exact h3 σ2 H3 φ3 .rfl rs3 re3
   |true =>
    refine ⟨fun σ' H'=>∃φ st ρ,RepS X.K S.cl B φ H' st/\RepE X.K S.cl B φ H' ρ σ'/\RunF S X B φ H' (whileL (fun ρ2 st2=>ev S.call ρ2 st2 cc) (fun ρ2 st2=>exs S.call ρ2 st2 cs) m ρ st) D,
     fun σ' H' q=>⟨m,by omega,q⟩,B,φ3,st3,ρ2,rs3,re3,?_⟩
    simp only [cond_true] at h3
    cases ee:exs S.call ρ2 st3 cs with
    |nx ρ4 st4 =>
     rw [ee] at h3
     exact fun σ4 H4 φ4 s4 rs4 re4=>⟨φ4,st4,ρ4,rs4,re4,RunF.on s4 h3⟩
    |ct ρ4 st4 =>
     rw [ee] at h3
     exact fun σ4 H4 φ4 s4 rs4 re4=>⟨φ4,st4,ρ4,rs4,re4,RunF.on s4 h3⟩
    |bk ρ4 st4=>rw [ee] at h3;exact h3
    |rt v4 st4=>rw [ee] at h3;exact h3
    |exc k ρ4 st4=>rw [ee] at h3;exact h3
    |bad=>rw [ee] at h3;exact h3
theorem zfZ (hp:PassesOwn (model X.prog X.w) X.A X.env X.xe)(hc:KqT X c (tTs S X cc))(hb:KqSs X ss (tSs S X cs)):KqS X (.While c ss [] pos) (tS S X (.while cc cs)):=by with_unfolding_all exact zh9 hp hc hb
end
section
variable (S:Se)(K:PySem.W.Frag)
def Run0 {α β:Type}(B:Addr->Prop)(φ:Ph)(H:Hp)(Rel:Ph->Hp->α->β->Prop)(r:R α)(Q:β->Hp->Prop):Prop :=
 match r with
 | .ok v st'=>∀x H' φ',Step φ H φ' H'->RepS K S.cl B φ' H' st'->Rel φ' H' v x->Q x H'
 |_=>False
noncomputable def tE0 (c:Ce):TE:=fun σ H Q=>∃B φ st ρ,RepS K S.cl B φ H st/\RepE K S.cl B φ H ρ σ/\Run0 S K B φ H (fun φ H=>RepV K S.cl B φ H) (ev S.call ρ st c) Q
noncomputable def tT0 (c:Ce):TT:=fun σ H Q=>∃B φ st ρ,RepS K S.cl B φ H st/\RepE K S.cl B φ H ρ σ/\Run0 S K B φ H RB (truR (ev S.call ρ st c)) Q
noncomputable def tG0 (t:Tg):TG:=fun v σ H Q=>∃B φ st ρ w ρ',RepS K S.cl B φ H st/\RepE K S.cl B φ H ρ σ/\RepV K S.cl B φ H w v/\bindT t w ρ=some ρ'/\∀σ',RepE K S.cl B φ H ρ' σ'->Q σ' H
end
section
variable {S:Se}{X:Cx}{K:PySem.W.Frag}{cl:Nat->Addr}{σ:St}{B:Addr->Prop}{φ φ1:Ph}{H H1:Hp}{st:Store}{ρ:IC.Env}{pos p p2 px:Pos}{a b c o tg l elt iter:Expr}{ca cb cc ce:Ce}{ci:Cit}{ct:Tg}
theorem zjL (hK:X.K=K)(h:PE X a (tE S X ca)):PE X a (tE0 S K ca):=by
 subst hK
 refine h.imp fun σ H Q ⟨B,φ,st,ρ,rs,re,q⟩=>⟨B,φ,st,ρ,rs,re,?_⟩
 cases e:ev S.call ρ st ca with
 |ok v st'=>rw [e] at q;exact q
 |exc k st'=>rw [e] at q;exact q.elim
 |bad=>rw [e] at q;exact q
theorem zaC (hK:X.K=K)(h:KqE X a (tE S X ca)):KqE X a (tE0 S K ca):=by with_unfolding_all exact zjL hK h
theorem ziq:PTs X [] (tT0 S K (.cst (.bl true))):=fun pins s σ H Q I ⟨B,φ,st,ρ,rs,re,q⟩=>by
 refine zha pins s σ H Q I ?_
 simp only [ev,truR,R.bind,truV,onO] at q
 exact q true H φ .rfl rs rfl
theorem zai:KqTs X [] (tT0 S K (.cst (.bl true))):=by with_unfolding_all exact ziq
theorem zj4 (hK:X.K=K)(h:PG X tg (tG S X ct)):PG X tg (tG0 S K ct):=by
 subst hK
 exact h
theorem zar (hK:X.K=K)(h:KqG X tg (tG S X ct)):KqG X tg (tG0 S K ct):=by with_unfolding_all exact zj4 hK h
theorem RTup.skip {k:Bool}{D y:Addr}{u:HO}{xs:List V}(hD:B D)(r:RTup K B φ H k y xs):RTup K B φ (L2.upd H D u) k y xs:=by
 rcases r with ⟨r,b,n⟩|r
 ·exact .inl ⟨by rw [zn (show y≠D from fun z=>b (z ▸ hD))];exact r,b,n⟩
 ·exact .inr r
mutual
theorem RepV.skip {D:Addr}{u:HO}(hD:B D):∀(v:PV) (x:V),RepV K cl B φ H v x->RepV K cl B φ (L2.upd H D u) v x
 | .non,x,h=>by simp only [RepV] at h ⊢;exact h
 | .bl b,x,h=>by simp only [RepV] at h ⊢;exact h
 | .int i,x,h=>by simp only [RepV] at h ⊢;exact h
 | .str y,x,h=>by simp only [RepV] at h ⊢;exact h
 | .tp k vs,x,h=>by
  simp only [RepV] at h ⊢
  obtain ⟨y,xs,e,r,l⟩:=h
  exact ⟨y,xs,e,r.skip hD,RepL.skip hD vs xs l⟩
 | .lst vs,x,h=>by
  simp only [RepV] at h ⊢
  obtain ⟨y,xs,e,⟨r,b,n⟩,l⟩:=h
  exact ⟨y,xs,e,⟨by rw [zn (show y≠D from fun z=>b (z ▸ hD))];exact r,b,n⟩,RepL.skip hD vs xs l⟩
 | .loc n,x,h=>by simp only [RepV] at h ⊢;exact h
 | .exn c,x,h=>by
  simp only [RepV] at h ⊢
  obtain ⟨y,e,r,b,n⟩:=h
  exact ⟨y,e,by rw [zn (show y≠D from fun z=>b (z ▸ hD))];exact r,b,n⟩
 | .scr vs,x,h=>by
  simp only [RepV] at h ⊢
  obtain ⟨y,xs,e,r,l⟩:=h
  refine ⟨y,xs,e,?_,RepL.skip hD vs xs l⟩
  rcases r with ⟨r,b,n⟩|r
  ·refine .inl ⟨?_,b,n⟩
   have ne:y≠D:=fun z=>b (z ▸ hD)
   rcases r with r|⟨o,r⟩
   ·exact .inl (by rw [zn ne];exact r)
   ·exact .inr ⟨o,by rw [zn ne];exact r⟩
  ·exact .inr r
theorem RepL.skip {D:Addr}{u:HO}(hD:B D):∀(v:List PV) (x:List V),RepL K cl B φ H v x->RepL K cl B φ (L2.upd H D u) v x
 | [],x,h=>by simp only [RepL] at h ⊢;exact h
 |v::vs,x,h=>by
  simp only [RepL] at h ⊢
  obtain ⟨y,ys,e,r,l⟩:=h
  exact ⟨y,ys,e,RepV.skip hD v y r,RepL.skip hD vs ys l⟩
end
theorem DK.skip {D:Addr}{u:HO}(hD:B D):∀{kvs:List (PV×PV)} {ks:List (Key×V)},DK K cl B φ H kvs ks->DK K cl B φ (L2.upd H D u) kvs ks
 | [],ks,h=>h
 | (k,v)::r,ks,h=>by
  obtain ⟨q,x,t,e,m,rv,l⟩:=h
  exact ⟨q,x,t,e,m,rv.skip hD,DK.skip hD l⟩
theorem DT.skip {D:Addr}{u:HO}(hD:B D):∀{kvs:List (PV×PV)} {ks:List (List Key×V)},DT K cl B φ H kvs ks->DT K cl B φ (L2.upd H D u) kvs ks
 | [],ks,h=>h
 | (k,v)::r,ks,h=>by
  obtain ⟨q,x,t,e,m,rv,l⟩:=h
  exact ⟨q,x,t,e,m,rv.skip hD,DT.skip hD l⟩
theorem FS.skip {D:Addr}{u:HO}(hD:B D):∀{kvs:List (Str×PV)} {ks:List (Str×V)},FS K cl B φ H kvs ks->FS K cl B φ (L2.upd H D u) kvs ks
 | [],ks,h=>h
 | (k,v)::r,ks,h=>by
  obtain ⟨x,t,e,rv,l⟩:=h
  exact ⟨x,t,e,rv.skip hD,FS.skip hD l⟩
theorem RepS.skip {D:Addr}{u:HO}(hD:B D)(rs:RepS K cl B φ H st):RepS K cl B φ (L2.upd H D u) st:=by
 refine ⟨rs.len,rs.inj,fun n y e=>?_,rs.liv,rs.nb,fun y h=>?_⟩
 ·obtain ⟨o,q,r⟩:=rs.obj n y e
  have ne:y≠D:=fun z=>rs.nb y (List.mem_of_getElem? e) (z ▸ hD)
  refine ⟨o,q,?_⟩
  cases o with
  |lst vs =>
   obtain ⟨xs,hx,l⟩:=r
   exact ⟨xs,by rw [zn ne];exact hx,l.skip hD⟩
  |dct t kvs =>
   cases t with
   |false =>
    obtain ⟨xs,hx,l⟩:=r
    exact ⟨xs,by rw [zn ne];exact hx,l.skip hD⟩
   |true =>
    obtain ⟨xs,hx,l⟩:=r
    exact ⟨xs,by rw [zn ne];exact hx,l.skip hD⟩
  |ins c fs =>
   obtain ⟨ks,⟨dx,hx⟩,l⟩:=r
   exact ⟨ks,⟨dx,by rw [zn ne];exact hx⟩,l.skip hD⟩
  |dead=>exact r.elim
 ·by_cases z:y=D
  ·subst z;exact ⟨u,zE⟩
  ·obtain ⟨w,e⟩:=rs.dom y h
   exact ⟨w,by rw [zn z];exact e⟩
theorem RepE.skip {D:Addr}{u:HO}(hD:B D)(re:RepE K cl B φ H ρ σ):RepE K cl B φ (L2.upd H D u) ρ σ:=⟨re.len,fun i v e=>by
 obtain ⟨x,h,q⟩:=re.get i v e
 exact ⟨x,h,q.skip hD⟩⟩
noncomputable def Bx (B:Addr->Prop)(D:Addr):Addr->Prop:=fun y=>B y \/ y=D
theorem zhI {D:Addr}(hn:H D=none):∀y,Bx B D y->B y \/ H y=none:=fun y z=>z.elim .inl fun q=>.inr (q ▸ hn)
theorem RepV.more {D:Addr}(hn:H D=none){v:PV}{x:V}(h:RepV K cl B φ H v x):RepV K cl (Bx B D) φ H v x:=h.moreB (zhI hn)
theorem RepL.more {D:Addr}(hn:H D=none){v:List PV}{x:List V}(h:RepL K cl B φ H v x):RepL K cl (Bx B D) φ H v x:=h.moreB (zhI hn)
mutual
theorem RepV.less {D:Addr}:∀(v:PV) (x:V),RepV K cl (Bx B D) φ H v x->RepV K cl B φ H v x
 | .non,x,h=>by simp only [RepV] at h ⊢;exact h
 | .bl b,x,h=>by simp only [RepV] at h ⊢;exact h
 | .int i,x,h=>by simp only [RepV] at h ⊢;exact h
 | .str y,x,h=>by simp only [RepV] at h ⊢;exact h
 | .tp k vs,x,h=>by
  simp only [RepV] at h ⊢
  obtain ⟨y,xs,e,r,l⟩:=h
  refine ⟨y,xs,e,?_,RepL.less vs xs l⟩
  rcases r with ⟨r,b,n⟩|r
  ·exact .inl ⟨r,fun z=>b (.inl z),n⟩
  ·exact .inr r
 | .lst vs,x,h=>by
  simp only [RepV] at h ⊢
  obtain ⟨y,xs,e,⟨r,b,n⟩,l⟩:=h
  exact ⟨y,xs,e,⟨r,fun z=>b (.inl z),n⟩,RepL.less vs xs l⟩
 | .loc n,x,h=>by simp only [RepV] at h ⊢;exact h
 | .exn c,x,h=>by
  simp only [RepV] at h ⊢
  obtain ⟨y,e,r,b,n⟩:=h
  exact ⟨y,e,r,fun z=>b (.inl z),n⟩
 | .scr vs,x,h=>by
  simp only [RepV] at h ⊢
  obtain ⟨y,xs,e,r,l⟩:=h
  refine ⟨y,xs,e,?_,RepL.less vs xs l⟩
  rcases r with ⟨r,b,n⟩|r
  ·exact .inl ⟨r,fun z=>b (.inl z),n⟩
  ·exact .inr r
theorem RepL.less {D:Addr}:∀(v:List PV) (x:List V),RepL K cl (Bx B D) φ H v x->RepL K cl B φ H v x
 | [],x,h=>by simp only [RepL] at h ⊢;exact h
 |v::vs,x,h=>by
  simp only [RepL] at h ⊢
  obtain ⟨y,ys,e,r,l⟩:=h
  exact ⟨y,ys,e,RepV.less v y r,RepL.less vs ys l⟩
end
theorem DK.more {D:Addr}(hn:H D=none):∀{kvs:List (PV×PV)} {ks:List (Key×V)},DK K cl B φ H kvs ks->DK K cl (Bx B D) φ H kvs ks
 | [],ks,h=>h
 | (k,v)::r,ks,h=>by
  obtain ⟨q,x,t,e,m,rv,l⟩:=h
  exact ⟨q,x,t,e,m,rv.more hn,DK.more hn l⟩
theorem DT.more {D:Addr}(hn:H D=none):∀{kvs:List (PV×PV)} {ks:List (List Key×V)},DT K cl B φ H kvs ks->DT K cl (Bx B D) φ H kvs ks
 | [],ks,h=>h
 | (k,v)::r,ks,h=>by
  obtain ⟨q,x,t,e,m,rv,l⟩:=h
  exact ⟨q,x,t,e,m,rv.more hn,DT.more hn l⟩
theorem FS.more {D:Addr}(hn:H D=none):∀{kvs:List (Str×PV)} {ks:List (Str×V)},FS K cl B φ H kvs ks->FS K cl (Bx B D) φ H kvs ks
 | [],ks,h=>h
 | (k,v)::r,ks,h=>by
  obtain ⟨x,t,e,rv,l⟩:=h
  exact ⟨x,t,e,rv.more hn,FS.more hn l⟩
theorem DK.less {D:Addr}:∀{kvs:List (PV×PV)} {ks:List (Key×V)},DK K cl (Bx B D) φ H kvs ks->DK K cl B φ H kvs ks
 | [],ks,h=>h
 | (k,v)::r,ks,h=>by
  obtain ⟨q,x,t,e,m,rv,l⟩:=h
  exact ⟨q,x,t,e,m,rv.less,DK.less l⟩
theorem DT.less {D:Addr}:∀{kvs:List (PV×PV)} {ks:List (List Key×V)},DT K cl (Bx B D) φ H kvs ks->DT K cl B φ H kvs ks
 | [],ks,h=>h
 | (k,v)::r,ks,h=>by
  obtain ⟨q,x,t,e,m,rv,l⟩:=h
  exact ⟨q,x,t,e,m,rv.less,DT.less l⟩
theorem FS.less {D:Addr}:∀{kvs:List (Str×PV)} {ks:List (Str×V)},FS K cl (Bx B D) φ H kvs ks->FS K cl B φ H kvs ks
 | [],ks,h=>h
 | (k,v)::r,ks,h=>by
  obtain ⟨x,t,e,rv,l⟩:=h
  exact ⟨x,t,e,rv.less,FS.less l⟩
theorem RepS.less {D:Addr}(rs:RepS K cl (Bx B D) φ H st):RepS K cl B φ H st:=by
 refine ⟨rs.len,rs.inj,fun n y e=>?_,rs.liv,fun y h z=>rs.nb y h (.inl z),fun y h=>rs.dom y (.inl h)⟩
 obtain ⟨o,q,r⟩:=rs.obj n y e
 refine ⟨o,q,?_⟩
 cases o with
 |lst vs=>obtain ⟨xs,hx,l⟩:=r;exact ⟨xs,hx,l.less⟩
 |dct t kvs=>cases t <;> (obtain ⟨xs,hx,l⟩:=r;exact ⟨xs,hx,l.less⟩)
 |ins c fs=>obtain ⟨ks,hx,l⟩:=r;exact ⟨ks,hx,l.less⟩
 |dead=>exact r.elim
theorem RepS.more {D:Addr}{u:HO}(hn:H D=none)(rs:RepS K cl B φ H st):RepS K cl (Bx B D) φ (L2.upd H D u) st:=by
 have nD:some D∉φ:=fun z=>by
  obtain ⟨w,e⟩:=rs.there z
  rw [hn] at e;cases e
 have s:Step φ H φ (L2.upd H D u):=.upd hn
 have rs':=rs.upd (o:=u) hn
 refine ⟨rs.len,rs.inj,fun n y e=>?_,rs.liv,fun y h z=>z.elim (rs.nb y h) fun q=>nD (q ▸ h),fun y h=>?_⟩
 ·obtain ⟨o,q,r⟩:=rs.obj n y e
  have ne:y≠D:=fun z=>nD (z ▸ List.mem_of_getElem? e)
  have hD:Bx B D D:=.inr rfl
  refine ⟨o,q,?_⟩
  cases o with
  |lst vs=>obtain ⟨xs,hx,l⟩:=r;exact ⟨xs,by rw [zn ne];exact hx,(l.more hn).skip hD⟩
  |dct t kvs =>
   cases t with
   |false=>obtain ⟨xs,hx,l⟩:=r;exact ⟨xs,by rw [zn ne];exact hx,(l.more hn).skip hD⟩
   |true=>obtain ⟨xs,hx,l⟩:=r;exact ⟨xs,by rw [zn ne];exact hx,(l.more hn).skip hD⟩
  |ins c fs=>obtain ⟨ks,⟨dx,hx⟩,l⟩:=r;exact ⟨ks,⟨dx,by rw [zn ne];exact hx⟩,(l.more hn).skip hD⟩
  |dead=>exact r.elim
 ·rcases h with h|h
  ·exact rs'.dom y h
  ·subst h;exact ⟨u,zE⟩
theorem RepE.more {D:Addr}{u:HO}(hn:H D=none)(re:RepE K cl B φ H ρ σ):RepE K cl (Bx B D) φ (L2.upd H D u) ρ σ:=⟨re.len,fun i v e=>by
 obtain ⟨x,h,q⟩:=re.get i v e
 exact ⟨x,h,(q.more hn).skip (.inr rfl)⟩⟩
noncomputable def tgtFree:Tg->List (Option Nat)->Bool
 | .n i,sl=>decide (sl[i]?=some none)
 | .t l,sl=>l.all fun i=>decide (sl[i]?=some none)
theorem zfF:∀(l:List Nat) (vs:List PV) (ρ:IC.Env) (j:Nat),j∉l->((l.zip vs).foldl (fun ρ p=>ρ.set p.1 (some p.2)) ρ)[j]?=ρ[j]?
 | [],vs,ρ,j,h=>by simp
 |i::is,[],ρ,j,h=>by simp
 |i::is,v::vs,ρ,j,h=>by
  simp only [List.zip_cons_cons,List.foldl_cons]
  rw [zfF is vs _ j fun z=>h (List.mem_cons_of_mem _ z),List.getElem?_set_ne]
  rintro rfl
  exact h List.mem_cons_self
theorem zfR:∀(l:List Nat) (vs:List PV) (ρ:IC.Env),((l.zip vs).foldl (fun ρ p=>ρ.set p.1 (some p.2)) ρ).length=ρ.length
 | [],vs,ρ=>by simp
 |i::is,[],ρ=>by simp
 |i::is,v::vs,ρ=>by
  simp only [List.zip_cons_cons,List.foldl_cons]
  rw [zfR is vs,List.length_set]
theorem RepE.untgt {sl:List (Option Nat)}{ρ0 ρ1:IC.Env}{v:PV}(hf:tgtFree ct sl=true)(h0:∀(i:Nat),sl[i]?=some none->ρ0[i]?=some none)(hb:bindT ct v ρ0=some ρ1)(re:RepE K cl B φ H ρ1 σ):RepE K cl B φ H ρ0 σ:=by
 cases ct with
 |n i =>
  cases hb
  simp only [tgtFree,decide_eq_true_eq] at hf
  refine ⟨by rw [<- re.len,List.length_set],fun j w e=>re.get j w ?_⟩
  rw [List.getElem?_set_ne]
  ·exact e
  ·rintro rfl
   rw [h0 _ hf] at e;cases e
 |t l =>
  cases v with
  |tp k vs =>
   simp only [bindT] at hb
   split at hb
   ·cases hb
    simp only [tgtFree,List.all_eq_true,decide_eq_true_eq] at hf
    refine ⟨by rw [<- re.len,zfR],fun j w e=>re.get j w ?_⟩
    rw [zfF]
    ·exact e
    ·intro z
     rw [h0 _ (hf j z)] at e;cases e
   ·cases hb
  |_=>cases hb
theorem RepE.inn {sl:List (Option Nat)}(re:RepE K cl B φ H ρ σ):RepE K cl B φ H (sl.map fun o=>o.bind fun j=>(ρ[j]?).join) (L2.inn sl σ):=by
 unfold L2.inn
 refine ⟨by simp,fun i v e=>?_⟩
 rw [List.getElem?_map] at e ⊢
 cases q:sl[i]? with
 |none=>rw [q] at e;cases e
 |some o =>
  rw [q] at e
  cases o with
  |none=>cases e
  |some j =>
   simp only [Option.map_some,Option.bind_some,Option.some.injEq] at e ⊢
   cases q2:ρ[j]? with
   |none=>rw [q2] at e;cases e
   |some w =>
    rw [q2] at e
    simp only [Option.join_some] at e
    subst e
    obtain ⟨x,hx,rv⟩:=re.get j v q2
    exact ⟨x,by rw [hx];rfl,rv⟩
theorem million1:1000000<sizeLine:=by rw [sizeLine_eq];decide
theorem zml {α:Type}{o:Option Bool}{k:Bool->R α}{z:α}{s:Store}(h:onO o k=.ok z s):∃b,o=some b/\k b=.ok z s:=by
 cases o with
 |none=>cases h
 |some b=>exact ⟨b,rfl,h⟩
theorem zee {α β:Type}{r:R α}{k:α->Store->R β}{z:β}{s:Store}(h:r.bind k=.ok z s):∃a s1,r=.ok a s1/\k a s1=.ok z s:=by
 cases r with
 |ok a s1=>exact ⟨a,s1,rfl,h⟩
 |exc c s=>cases h
 |bad=>cases h
theorem zeL {sl:List (Option Nat)}(hf:tgtFree ct sl=true){H:Hp}{Q:VK}(h:tE S X (.comp sl ct ci cc ce) σ H Q):tComp sl (tI S X ci) (tG0 S X.K ct) (tT0 S X.K cc) (tE0 S X.K ce) σ H Q:=by
  obtain ⟨B,φ,st,ρ,rs,re,h⟩:=h
  simp only [ev] at h
  refine ⟨B,φ,st,ρ,rs,re,(Run.bind h).mono fun J H1 ⟨xs,st1,φ1,s1,rs1,dr,h1⟩=>fun D hD=>?_⟩
  generalize hone:(fun (x:PV) (st2:Store)=>match bindT ct x (sl.map fun o=>o.bind fun j=>(ρ[j]?).join) with
   |none=>(R.bad:R (Option PV))
   |some ρ1=>(ev S.call ρ1 st2 cc).bind fun b st3=>onO (truV st3 b) fun k=>cond k ((ev S.call ρ1 st3 ce).bind fun y st4=>.ok (some y) st4) (.ok none st3))=one at h1
  cases e:compL one xs st1 with
  |exc k s=>rw [e] at h1;exact h1.elim
  |bad=>rw [e] at h1;exact h1.elim
  |ok zs st5 =>
   rw [e] at h1
   simp only [lstR] at h1
   split at h1
   case isFalse=>exact h1.elim
   rename_i hz
   have nB:¬B D:=rs1.nB hD
   have nD:some D∉φ1:=fun z=>by
    obtain ⟨w,e⟩:=rs1.there z
    rw [hD] at e;cases e
   refine ⟨fun i m σc ys H2=>∃φ2 st2 vs rest,i+m=xs.length/\Step φ1 H1 φ2 H2/\H2 D=some (.lst ys)/\some D∉φ2/\RepS X.K S.cl (Bx B D) φ2 H2 st2/\RepE X.K S.cl (Bx B D) φ2 H2 (sl.map fun o=>o.bind fun j=>(ρ[j]?).join) σc /\
     RepL X.K S.cl (Bx B D) φ2 H2 vs ys/\compL one (xs.drop i) st2=.ok rest st5/\vs++rest=zs,
    ⟨xs.length,φ1,st1,[],zs,by omega,.upd hD,zE,nD,rs1.more hD,(RepE.inn (re.step s1)).more hD,by simp only [RepL],by simpa using e,rfl⟩,?_⟩
   rintro i m σc ys H2 ⟨φ2,st2,vs,rest,hm,s2,hD2,nD2,rs2,re2,l2,ec,ez⟩
   refine ⟨hD2,?_⟩
   by_cases hi:i<xs.length
   ·have hl2:=l2.length
    have hml:=million1
    have hzl:=congrArg List.length ez
    rw [List.length_append] at hzl
    refine .inr ⟨dr.go i φ2 H2 s2 hi,by omega,fun σ' ys' H'=>∃φ2 st2 vs rest,Step φ1 H1 φ2 H'/\H' D=some (.lst ys')/\some D∉φ2/\RepS X.K S.cl (Bx B D) φ2 H' st2/\RepE X.K S.cl (Bx B D) φ2 H' (sl.map fun o=>o.bind fun j=>(ρ[j]?).join) σ' /\
     RepL X.K S.cl (Bx B D) φ2 H' vs ys'/\compL one (xs.drop (i+1)) st2=.ok rest st5/\vs++rest=zs,fun σ' ys' H' ⟨φ2,st2,vs,rest,q⟩=>⟨m - 1,by omega,φ2,st2,vs,rest,by omega,q⟩,fun x H3 hy=>?_⟩
    obtain ⟨v,hv,rv,kk⟩:=dr.yld i φ2 H2 st2 x H3 (Bx B D) (fun y z=>z.elim .inl fun q=>.inr (q ▸ hD)) s2 rs2 hi hy
    have s3:Step φ2 H2 φ2 H3:=⟨fun b o _ e=>kk b o e,Nat.le_refl _,fun _ _ _ e=>e,fun _ h=>.inl h⟩
    have rs3:RepS X.K S.cl (Bx B D) φ2 H3 st2:=rs2.same kk
    have ed:xs.drop i=v::xs.drop (i+1):=by
     rw [List.drop_eq_getElem_cons hi]
     rw [List.getElem?_eq_getElem hi] at hv
     rw [Option.some.inj hv]
    rw [ed,compL] at ec
    obtain ⟨o,st3,e1,ec⟩:=zee ec
    obtain ⟨rest',st4,e2,ec⟩:=zee ec
    rw [<- hone] at e1
    dsimp only at e1
    cases eb:bindT ct v (sl.map fun o=>o.bind fun j=>(ρ[j]?).join) with
    |none=>rw [eb] at e1;cases e1
    |some ρ1 =>
     rw [eb] at e1
     dsimp only at e1
     obtain ⟨bv,st6,e3,e1⟩:=zee e1
     obtain ⟨k,e4,e1⟩:=zml e1
     have er:st4=st5/\consO o rest'=rest:=by
      injection ec with q1 q2
      exact ⟨q2,q1⟩
     obtain ⟨rfl,rfl⟩:=er
     refine ⟨Bx B D,φ2,st2,_,v,ρ1,rs3,re2.step s3,rv,eb,fun σ4 re4=>⟨Bx B D,φ2,st2,ρ1,rs3,re4,?_⟩⟩
     have et:truR (ev S.call ρ1 st2 cc)=.ok k st6:=by
      rw [e3]
      simp only [truR,R.bind,e4,onO]
     rw [et]
     rintro k' H5 φ5 s5 rs5 rfl
     have nD5:some D∉φ5:=fun z=>by
      rcases s5.new D z with q|q
      ·exact nD2 q
      ·rw [kk D _ hD2] at q;cases q
     have hD5:H5 D=some (.lst ys):=s5.keep D _ nD2 (kk D _ hD2)
     have s25:Step φ1 H1 φ5 H5:=s2.trans (s3.trans s5)
     have l5:=(l2.step s3).step s5
     have re5:RepE X.K S.cl (Bx B D) φ5 H5 ρ1 σ4:=re4.step s5
     have h0:∀(i:Nat),sl[i]?=some none->(sl.map fun o=>o.bind fun j=>(ρ[j]?).join)[i]?=some none:=fun i q=>by
      rw [List.getElem?_map,q];rfl
     cases k with
     |false =>
      simp only [cond_false] at e1
      cases e1
      exact ⟨φ5,_,vs,rest',s25,hD5,nD5,rs5,RepE.untgt hf h0 eb re5,l5,e2,ez⟩
     |true =>
      simp only [cond_true] at e1
      obtain ⟨y,st7,e5,e1⟩:=zee e1
      cases e1
      refine ⟨Bx B D,φ5,st6,ρ1,rs5,re5,?_⟩
      rw [e5]
      intro y' H6 φ6 s6 rs6 ry
      have nD6:some D∉φ6:=fun z=>by
       rcases s6.new D z with q|q
       ·exact nD5 q
       ·rw [hD5] at q;cases q
      have hD6:H6 D=some (.lst ys):=s6.keep D _ nD5 hD5
      have hBD:Bx B D D:=.inr rfl
      refine ⟨hD6,φ6,_,vs++[y],rest',?_,zE,nD6,rs6.skip hBD,(RepE.untgt hf h0 eb (re5.step s6)).skip hBD,((l5.step s6).append (by simp only [RepL];exact ⟨y',[],rfl,ry,rfl⟩)).skip hBD,e2,?_⟩
      ·have s16:=s25.trans s6
       exact ⟨fun b o n q=>by rw [zn (zr q hD)];exact s16.keep b o n q,s16.len,s16.pre,s16.new⟩
      ·simpa [consO] using ez
   ·have ei:i=xs.length:=by omega
    subst ei
    rw [List.drop_length,compL] at ec
    cases ec
    refine .inl ⟨dr.stop φ2 H2 s2,h1 (.ref D) H2 φ2 s2 rs2.less ?_⟩
    simp only [RepV]
    exact ⟨D,ys,rfl,⟨hD2,nB,nD2⟩,by rw [<- ez,List.append_nil];exact l2.less⟩
theorem zjK {sc:Scope}{NC:List Str}{sl:List (Option Nat)}{ifs:List Expr}(hc:X.calm=true)(O:CompOk X sc NC sl)(hf:tgtFree ct sl=true)(hi:PI X tg iter (tI S X ci))(hg:∀j,PG (cxC X sc NC j) tg (tG0 S X.K ct))
  (ht:∀j,PTs (cxC X sc NC j) ifs (tT0 S X.K cc)) (he:∀j,PE (cxC X sc NC j) elt (tE0 S X.K ce)) (hs:∀x,foldedSetIterable iter X.env x=pure x:=by intro _;rfl) :
  PE X (.ListComp elt [⟨tg,iter,ifs,0⟩] sc pos) (tE S X (.comp sl ct ci cc ce)) :=
 (zj5 hc O hi hg ht he hs).imp fun σ H Q h=>zeL hf h
theorem zaX {sc:Scope}{NC:List Str}{sl:List (Option Nat)}{ifs:List Expr}(hc:X.calm=true)(O:CompOk X sc NC sl)(hf:tgtFree ct sl=true)(hi:KqI X tg iter (tI S X ci))(hg:∀j,KqG (cxC X sc NC j) tg (tG0 S X.K ct))
  (ht:∀j,KqTs (cxC X sc NC j) ifs (tT0 S X.K cc)) (he:∀j,KqE (cxC X sc NC j) elt (tE0 S X.K ce)) (hs:∀x,foldedSetIterable iter X.env x=pure x:=by intro _;rfl) :
  KqE X (.ListComp elt [⟨tg,iter,ifs,0⟩] sc pos) (tE S X (.comp sl ct ci cc ce)):=by with_unfolding_all exact zjK hc O hf hi hg ht he hs
end
noncomputable def spI (K:PySem.W.Frag)(cl:Nat->Addr)(call:Nat->List PV->Store->R PV)(f:Nat):Sp:=fun vs H Q E=>∃B φ st args,RepS K cl B φ H st/\RepL K cl B φ H args vs/\match call f args st with
 | .ok v st'=>∀x H' φ',Step φ H φ' H'->RepS K cl B φ' H' st'->RepV K cl B φ' H' v x->Q x H'
 | .exc c st'=>∀H' φ',Step φ H φ' H'->RepS K cl B φ' H' st'->E (.ref (cl c)) none H'
 | .bad=>False
section
variable {S:Se}{X:Cx}{k:Nat}{f:Addr}{fd:FuncData}{ps ks:List Str}{sp:Sp}{dvs:List V}{ds:List Value}{x:Str}{p pos:Pos}{e:Expr}{es:List Expr}{t tk:TA}{CX:CXT}{σ:St}{H:Hp}
theorem zjQ {pins:List (Addr×Obj)}{s:Shared}{Q:VK}{us:List Value}{vs:List V}{E:XK}(F:FnOk X.prog X.w X.K X.mg X.base CX k f fd ps sp)(hr:Room k X.A)(hb:Binds X.K fd ps ds)(hd:Vals dvs ds)
  (I:Inv X pins σ H s) (r:Vals vs us) (h:sp (vs++dvs) H Q E) (hx:∀e s',CX X.stack H s E e s'->X.xe e s'):wpAny (model X.prog X.w) X.A (call (.ref f) us) (EP X pins σ Q) X.xe s:=by
 have r2:Vals (vs++dvs) (us++ds):=r.append hd
 have hl:(us++ds).length=ps.length:=by rw [<- r2.length];exact F.len _ _ _ _ h
 refine wpAny_call (codeAny_mono (F.run X.A X.stack s H ⟨us,[]⟩ (us++ds) (vs++dvs) Q E hr I.env0 (hb s us I.kIn hl) r2 h) fun r s' hq=>?_)
 cases r with
 |error e=>exact hx e s' hq
 |ok fl =>
  cases fl with
  |ret u=>exact I.after hq
  |next=>exact False.elim hq
  |brk=>exact False.elim hq
  |cont=>exact False.elim hq
noncomputable def tCallS (CX:CXT)(X:Cx)(sp:Sp)(dvs:List V)(t:TA):TE:=fun σ H Q=>t σ H fun vs H1=>∃E:XK,sp (vs++dvs) H1 Q E/\∀pins s e s',Inv X pins σ H1 s->CX X.stack H1 s E e s'->X.xe e s'
theorem zil (F:FnOk X.prog X.w X.K X.mg X.base CX k f fd ps sp)(hr:Room k X.A)(hg:Gl X x)(hm:X.mg x=some (.ref f))(hk:PySem.W.keepIn X.K (.ref f)=true)(hb:Binds X.K fd ps ds)(hd:Vals dvs ds)
  (ha:PA X (e::es) t) (hdb:(x == ("__debug__":Str))=false:=by decide) (he:starEach (e::es) X.env=(false,eval e X.env)::starEach es X.env:=by rfl) (hpl:(backTo pos (starEach es X.env)).any (·.1)=false:=by rfl) :
  PE X (.Call (.Name x p) (e::es) [] pos) (tCallS CX X sp dvs t):=by
 intro pins s σ H Q I h
 refine wpAny_Call_Name_kw (zdF I hg hm ?_ hdb)
 refine PySem.W.callWith_K (h₀:=X.base) I.ok.mod.kin hk (thn (ha pos pins s σ H _ I h) fun us s1 ⟨vs,H1,I1,r,E,q,hx⟩=>⟨I1.kIn,?_⟩) he hpl
 exact zjQ F hr hb hd I1 r q fun e s' c=>hx pins s1 e s' I1 c
variable {B:Addr->Prop}{φ:Ph}{st:Store}{ces:Ces}{fi:Nat}
theorem zgO {vs:List PV}{xs:List V}{Q:VK}(rs:RepS X.K S.cl B φ H st)(l:RepL X.K S.cl B φ H vs xs)(h:Run S X σ B φ H (RV S X B) (S.call fi vs st) Q) :
  ∃E:XK,spI X.K S.cl S.call fi xs H Q E/\∀pins s e s',Inv X pins σ H s->CX1 X.prog X.w X.stack H s E e s'->X.xe e s':=by
 cases c:S.call fi vs st with
 |ok v st' =>
  rw [c] at h
  refine ⟨fun _ _ _=>False,⟨B,φ,st,vs,rs,l,by rw [c];exact h⟩,fun pins s e s' _ z=>?_⟩
  obtain ⟨_,_,_,_,_,_,_,_,_,_,_,_,_,_,z⟩:=z
  exact z.elim
 |exc k st' =>
  rw [c] at h
  refine ⟨fun cls _ H'=>cls=.ref (S.cl k)/\∃φ',Step φ H φ' H'/\RepS X.K S.cl B φ' H' st',⟨B,φ,st,vs,rs,l,by rw [c];exact fun H' φ' s r=>⟨rfl,φ',s,r⟩⟩,fun pins s e s' I z=>h e s' (.inl ⟨pins,H,s,φ,I,.rfl,z⟩)⟩
 |bad=>rw [c] at h;exact h.elim
theorem zkz (F:FnOk X.prog X.w X.K X.mg X.base (CX1 X.prog X.w) k f fd ps (spI X.K S.cl S.call fi))(hr:Room k X.A)(hg:Gl X x)(hm:X.mg x=some (.ref f))(hk:PySem.W.keepIn X.K (.ref f)=true)(hb:Binds X.K fd ps [])
  (ha:PA X (e::es) (tAs S X ces)) (hdb:(x == ("__debug__":Str))=false:=by decide) (he:starEach (e::es) X.env=(false,eval e X.env)::starEach es X.env:=by rfl) (hpl:(backTo pos (starEach es X.env)).any (·.1)=false:=by rfl) :
  PE X (.Call (.Name x p) (e::es) [] pos) (tE S X (.call fi ces)) :=
 (zil F hr hg hm hk hb .nil ha hdb he hpl).imp fun σ H Q ⟨B,φ,st,ρ,rs,re,h⟩=>by
  simp only [ev] at h
  refine tAs.bind rs re h fun xs H1 vs st1 φ1 s1 rs1 re1 rv h1=>?_
  rw [List.append_nil]
  exact zgO rs1 rv h1
theorem zp (F:FnOk X.prog X.w X.K X.mg X.base (CX1 X.prog X.w) k f fd ps (spI X.K S.cl S.call fi))(hr:Room k X.A)(hg:Gl X x)(hm:X.mg x=some (.ref f))(hk:PySem.W.keepIn X.K (.ref f)=true)(hb:Binds X.K fd ps [])
  (ha:KqA X (e::es) (tAs S X ces)) (hdb:(x == ("__debug__":Str))=false:=by decide) (he:starEach (e::es) X.env=(false,eval e X.env)::starEach es X.env:=by rfl) (hpl:(backTo pos (starEach es X.env)).any (·.1)=false:=by rfl) :
  KqE X (.Call (.Name x p) (e::es) [] pos) (tE S X (.call fi ces)):=by with_unfolding_all exact zkz F hr hg hm hk hb ha hdb he hpl
end
section
variable {P:Program}{w:World}{K:PySem.W.Frag}{mg:Str->Option Value}{base:Heap}{cl:Nat->Addr}{T:Nat->Option IC.Fn}{fi:Nat}{fn:IC.Fn}{x qual:Str}{stm:Stmt}{f:Addr}{fd:FuncData}{N ps:List Str}{k:Nat}
theorem CX1.mono {outer:List PySem.Env}{H:Hp}{s:Shared}{E E':XK}{e:Value}{s':Shared}(h:CX1 P w outer H s E e s')(n:∀cls H',E cls none H'->E' cls none H'):CX1 P w outer H s E' e s':=by
 obtain ⟨a,cls,a0,H',Bh,r1,r2,r3,r4,r5,r6,r7,r8,r9,r10⟩:=h
 exact ⟨a,cls,a0,H',Bh,r1,r2,r3,r4,r5,r6,r7,r8,r9,n _ _ r10⟩
theorem RepE.start {B:Addr->Prop}{φ:Ph}{H:Hp}{args:List PV}{vs:List V}(l:RepL K cl B φ H args vs)(n:Nat)(hn:N.length - vs.length=n):RepE K cl B φ H (args.map some++List.replicate n none) (L2.start N vs):=by
 have hl:=l.length
 unfold L2.start
 refine ⟨by simp [hl,hn],fun i v e=>?_⟩
 by_cases hi:i<args.length
 ·rw [List.getElem?_append_left (by simpa using hi),List.getElem?_map] at e
  cases q:args[i]? with
  |none=>rw [q] at e;cases e
  |some v' =>
   rw [q] at e
   cases e
   obtain ⟨y,hy,rv⟩:=l.get i q
   exact ⟨y,by rw [List.getElem?_append_left (by simp;omega),List.getElem?_map,hy];rfl,rv⟩
 ·rw [List.getElem?_append_right (by simp;omega),List.getElem?_replicate] at e
  split at e <;> cases e
theorem leave {N:List Str}{scope:Scope}{cd:Value}{A:Around}{outer:List PySem.Env}{s₀:Shared}{H₀:Hp}{E:XK}{call:Nat->List PV->Store->R PV}{σ:St}{B:Addr->Prop}{φ:Ph}{H:Hp}{c:Nat}{st':Store}{e:Value}{s':Shared}
  (h:ExcAt ⟨cl,call,true⟩ (cxOf (CX1 P w) P w K mg base N qual scope f cd A outer s₀ H₀ E) σ B φ H c st' e s') (n:∀φ' H',Step φ H φ' H'->RepS K cl B φ' H' st'->E (.ref (cl c)) none H') :
  (cxOf (CX1 P w) P w K mg base N qual scope f cd A outer s₀ H₀ E).xe e s':=by
 rcases h with ⟨pins,H1,s,φ1,I,s1,q⟩|⟨_,pins,H1,s,φ1,h',e0,vs,I,s1,rs,mk,rfl,rfl⟩|⟨_,pins,H1,s,I,q⟩
 ·exact pass1 pins σ H1 s e s' I (q.mono fun cls H' ⟨e1,φ',s2,r⟩=>by subst e1;exact n φ' H' (s1.trans s2) r)
 ·exact zhJ I mk (n φ1 H1 s1 rs)
 ·exact passH I (q.mono fun cls H' ⟨e1,φ',s2,r⟩=>by subst e1;exact n φ' H' s2 r)
theorem zji (hT:T fi=some fn):∀(args:List PV) (st:Store),callT T (k+1) fi args st ≠ .bad->args.length=fn.np:=fun args st hne=>by
 apply Classical.byContradiction
 intro c
 apply hne
 rw [callT,hT]
 exact if_neg c
theorem zlo (hT:T fi=some fn)(hnp:ps.length=fn.np){vs:List V}{H:Hp}{Q:VK}{E:XK}(h:spI K cl (callT T (k+1)) fi vs H Q E):vs.length=ps.length:=by
 obtain ⟨B,φ,st,args,rs,l,h⟩:=h
 rw [hnp,<- l.length]
 refine zji (k:=k) hT args st fun z=>?_
 rw [z] at h
 exact h
theorem zku (hT:T fi=some fn)(hns:N.length=fn.ns){scope:Scope}{cdv:Value}{A:Around}{outer:List PySem.Env}{s:Shared}{vs:List V}{H:Hp}{Q:VK}{E:XK}(h:spI K cl (callT T (k+1)) fi vs H Q E) :
  tSs ⟨cl,callT T k,true⟩ (cxOf (CX1 P w) P w K mg base N qual scope f cdv A outer s H E) fn.body { nx:=fun _ H'=>Q .non H',rt:=Q } (L2.start N vs) H:=by
 obtain ⟨B,φ,st,args,rs,l,h⟩:=h
 have hl:args.length=fn.np:=zji (k:=k) hT args st fun z=>by rw [z] at h;exact h
 have hlen:=l.length
 rw [callT,hT] at h
 dsimp only at h
 rw [if_pos hl] at h
 by_cases hp:fn.pure=true
 ·rw [if_pos hp] at h
  by_cases hz:noLocs args=true
  ·rw [if_pos hz] at h
   have rs0:RepS K cl (fun a=>B a \/ some a∈φ) [] H []:=⟨rfl,fun m n a e=>by simp at e,fun n a e=>by simp at e,fun n o e=>by simp at e,fun a z=>by simp at z,fun a z=>z.elim (rs.dom a) rs.there⟩
   have back:∀{φ':Ph} {H':Hp},Step [] H φ' H'->Step φ H φ H'/\RepS K cl B φ H' st:=fun {φ' H'} s' =>
    have kk:∀b o,H b=some o->H' b=some o:=fun b o e=>s'.keep b o (by simp) e
    ⟨⟨fun b o _ e=>kk b o e,Nat.le_refl _,fun _ _ _ e=>e,fun _ h=>.inl h⟩,rs.same kk⟩
   refine ⟨_,[],[],_,rs0,RepE.start (RepL.inn rs.nb args vs hz l) (fn.ns - fn.np) (by omega),?_⟩
   show RunF _ _ _ _ _ (exs (callT T k) (args.map some++List.replicate (fn.ns - fn.np) none) [] fn.body) _
   cases e:exs (callT T k) (args.map some++List.replicate (fn.ns - fn.np) none) [] fn.body with
   |nx ρ' st' =>
    rw [e] at h
    intro σ' H' φ' s' rs' re'
    obtain ⟨s2,r2⟩:=back s'
    exact h .non H' φ s2 r2 (by simp only [RepV])
   |rt v st' =>
    rw [e] at h
    dsimp only at h
    by_cases hv:noLoc v=true
    ·rw [if_pos hv] at h
     intro y H' φ' s' rs' rv
     obtain ⟨s2,r2⟩:=back s'
     exact h y H' φ s2 r2 (RepV.out v y hv rv)
    ·rw [if_neg hv] at h
     exact h.elim
   |exc c ρ' st' =>
    rw [e] at h
    intro σ' φ1 H1 ev s' s1 _ ex
    refine leave ex fun φ2 H2 s2 _=>?_
    obtain ⟨s3,r3⟩:=back (s1.trans s2)
    exact h H2 φ s3 r3
   |bk ρ' st'=>rw [e] at h;exact h.elim
   |ct ρ' st'=>rw [e] at h;exact h.elim
   |bad=>rw [e] at h;exact h.elim
  ·rw [if_neg hz] at h
   exact h.elim
 ·rw [if_neg hp] at h
  refine ⟨B,φ,st,_,rs,RepE.start l (fn.ns - fn.np) (by omega),?_⟩
  show RunF _ _ _ _ _ (exs (callT T k) (args.map some++List.replicate (fn.ns - fn.np) none) st fn.body) _
  cases e:exs (callT T k) (args.map some++List.replicate (fn.ns - fn.np) none) st fn.body with
  |nx ρ' st' =>
   rw [e] at h
   intro σ' H' φ' s' rs' re'
   exact h .non H' φ' s' rs' (by simp only [RepV])
  |rt v st' =>
   rw [e] at h
   intro y H' φ' s' rs' rv
   exact h y H' φ' s' rs' rv
  |exc c ρ' st' =>
   rw [e] at h
   intro σ' φ1 H1 ev s' s1 _ ex
   exact leave ex fun φ2 H2 s2 r2=>h H2 φ2 (s1.trans s2) r2
  |bk ρ' st'=>rw [e] at h;exact h.elim
  |ct ρ' st'=>rw [e] at h;exact h.elim
  |bad=>rw [e] at h;exact h.elim
theorem zmA (hT:T fi=some fn)(F:Fun K x qual stm f fd)(Sc:FnScope N ps (defScope stm))(hnp:ps.length=fn.np)(hns:N.length=fn.ns)
  (body:∀(cdv:Value) (A:Around) (outer:List PySem.Env) (s:Shared) (H:Hp) (E:XK),Room k (A.deeper (envOfC qual (defScope stm) s.heap.objs.size f cdv)) ->
   PSs (cxOf (CX1 P w) P w K mg base N qual (defScope stm) f cdv A outer s H E) (defBody stm) (tSs ⟨cl,callT T k,true⟩ (cxOf (CX1 P w) P w K mg base N qual (defScope stm) f cdv A outer s H E) fn.body)) :
  FnOk P w K mg base (CX1 P w) (k+1) f fd ps (spI K cl (callT T (k+1)) fi) :=
 F.okX Sc (fun vs H Q E h=>zlo hT hnp h) fun cdv A outer s H vs Q E hr h=>⟨_,body cdv A outer s H E hr,zku hT hns h⟩
theorem zY (hT:T fi=some fn)(F:Fun K x qual stm f fd)(Sc:FnScope N ps (defScope stm))(hnp:ps.length=fn.np)(hns:N.length=fn.ns)
  (body:∀(cdv:Value) (A:Around) (outer:List PySem.Env) (s:Shared) (H:Hp) (E:XK),Room k (A.deeper (envOfC qual (defScope stm) s.heap.objs.size f cdv)) ->
   KqSs (cxOf (CX1 P w) P w K mg base N qual (defScope stm) f cdv A outer s H E) (defBody stm) (tSs ⟨cl,callT T k,true⟩ (cxOf (CX1 P w) P w K mg base N qual (defScope stm) f cdv A outer s H E) fn.body)) :
  FnOk P w K mg base (CX1 P w) (k+1) f fd ps (spI K cl (callT T (k+1)) fi):=by with_unfolding_all exact zmA hT F Sc hnp hns body
theorem zjX (hps:ps=ps):FnOk P w K mg base (CX1 P w) 0 f fd ps (spI K cl (callT T 0) fi) :=
 ⟨fun vs H Q E ⟨_,_,_,_,_,_,h⟩=>by rw [callT] at h;exact h.elim,fun A outer s H args us vs Q E _ _ _ _ ⟨_,_,_,_,_,_,h⟩=>by rw [callT] at h;exact h.elim⟩
end
noncomputable def tyN:Ty->String
 | .int=>"int" | .bool=>"bool" | .str=>"str" | .tuple=>"tuple" | .list=>"list" | _=>""
structure KitT (K:PySem.W.Frag)(t:Ty):Prop where
 n:PySem.W.kitOne K (.type "NoneType") (.type (tyN t))=some (isTy .non t)
 b:PySem.W.kitOne K (.type "bool") (.type (tyN t))=some (isTy (.bl true) t)
 i:PySem.W.kitOne K (.type "int") (.type (tyN t))=some (isTy (.int 0) t)
 s:PySem.W.kitOne K (.type "str") (.type (tyN t))=some (isTy (.str Str.empty) t)
 p:PySem.W.kitOne K (.type "tuple") (.type (tyN t))=some (isTy (.tp true []) t)
 l:PySem.W.kitOne K (.type "list") (.type (tyN t))=some (isTy (.lst []) t)
section
variable {S:Se}{X:Cx}{σ:St}{B:Addr->Prop}{φ:Ph}{H:Hp}{st:Store}{p pos p2 px:Pos}{a b c d o:Expr}{ca cb cc:Ce}{t:Ty}
noncomputable def rIsi (S:Se)(X:Cx)(t:Ty):List V->Hp->VK->Prop:=fun xs H Q=>∃B φ st v x z,xs=[x,.ty (tyN t)]/\RepS X.K S.cl B φ H st/\RepV X.K S.cl B φ H v x/\isiV v [t]=some z/\isBl t=true /\
 ∀z' H' φ',Step φ H φ' H'->RepS X.K S.cl B φ' H' st->RepV X.K S.cl B φ' H' z z'->Q z' H'
theorem zlV (Z:KitT X.K t):CallR X (.builtin "isinstance") (rIsi S X t):=by
 rintro pins s σ H xs us Q I r ⟨B,φ,st,v,x,z,rfl,rs,rv,e,hb,q⟩
 obtain ⟨u,c',rfl,ru,rc⟩:=vals2 r
 cases (show c'=Value.type (tyN t) from rc)
 have fin:∀(k:Bool) (tk:Nat),z=.bl k->EP X pins σ Q (.bool k) { s with toks:=tk }:=fun k tk ez=>⟨.bl k,H,I.tok tk,rfl,q _ H φ .rfl rs (by subst ez;simp only [RepV])⟩
 cases v with
 |non =>
  simp only [RepV] at rv;subst rv
  cases (show u=Value.none from ru)
  simp only [isiV,hb,if_true] at e
  exact PySem.W.kia_one PySem.W.kitx_none I.kIn True.intro Z.n (fun z=>nomatch z) fun tk=>fin _ tk (by cases e;cases t <;> rfl)
 |bl k =>
  simp only [RepV] at rv;subst rv
  cases (show u=Value.bool k from ru)
  simp only [isiV,hb,if_true] at e
  exact PySem.W.kia_one PySem.W.kitx_bool I.kIn True.intro Z.b (fun z=>nomatch z) fun tk=>fin _ tk (by cases e;cases t <;> rfl)
 |int k =>
  simp only [RepV] at rv;subst rv
  obtain ⟨tk,rfl⟩:=ru
  simp only [isiV,hb,if_true] at e
  exact PySem.W.kia_one PySem.W.kitx_int I.kIn True.intro Z.i (fun z=>nomatch z) fun tk=>fin _ tk (by cases e;cases t <;> rfl)
 |str k =>
  simp only [RepV] at rv;subst rv
  obtain ⟨tk,rfl⟩:=ru
  simp only [isiV,hb,if_true] at e
  exact PySem.W.kia_one PySem.W.kitx_str I.kIn True.intro Z.s (fun z=>nomatch z) fun tk=>fin _ tk (by cases e;cases t <;> rfl)
 |tp k vs =>
  simp only [RepV] at rv
  obtain ⟨y,ys,rfl,rt,l⟩:=rv
  cases (show u=Value.ref y from ru)
  simp only [isiV,hb,if_true] at e
  obtain ⟨its,_,⟨o,g,c,_,_⟩,_⟩:=I.tuple rt.sq
  exact PySem.W.kia_one PySem.W.kitx_tuple I.kIn ⟨o,g,c⟩ Z.p (fun z=>nomatch z) fun tk=>fin _ tk (by cases e;cases t <;> rfl)
 |lst vs =>
  simp only [RepV] at rv
  obtain ⟨y,ys,rfl,rt,l⟩:=rv
  cases (show u=Value.ref y from ru)
  simp only [isiV,hb,if_true] at e
  obtain ⟨_,_,n,_,h1⟩:=(show ObjOk X.prog X.w H s.heap y (.lst ys) from I.hok y _ rt.1)
  exact PySem.W.kia_one PySem.W.kitx_list I.kIn ⟨_,h1,rfl⟩ Z.l (fun z=>nomatch z) fun tk=>fin _ tk (by cases e;cases t <;> rfl)
 |loc n=>cases e
 |scr n=>cases e
 |exn n=>simp only [isiV,List.all_cons,List.all_nil,hb,Bool.and_self,if_true] at e;cases e
theorem zl0 {T:Str}(Z:KitT X.K t)(ht:isBl t=true)(hg:Gl X "isinstance")(hm:X.mg "isinstance"=none)(hgT:Gl X T)(hmT:X.mg T=none)(hT:bootBuiltins T=some (.type (tyN t)))(ha:PE X a (tE S X ca))(hnT:T ≠ "__name__":=by decide)(hdT:(T == ("__debug__":Str))=false:=by decide)
  (he:starEach [a,.Name T p2] X.env=(false,eval a X.env)::starEach [.Name T p2] X.env:=by rfl) (hpl:(backTo pos (starEach [.Name T p2] X.env)).any (·.1)=false:=by rfl) :
  PE X (.Call (.Name "isinstance" p) [a,.Name T p2] [] pos) (tE S X (.isi ca [t])) :=
 (zcm (zlV Z) hg hm PyProof.Rows.boot_isinstance (zae ha (zae (zhn (v:=.ty (tyN t)) hgT hmT hT rfl hnT hdT) pa_nil) he) (by decide) (by decide) he hpl).imp fun σ H Q ⟨B,φ,st,ρ,rs,re,h⟩=>by
  simp only [ev] at h
  refine tE.bind rs re h fun x H1 v st1 φ1 s1 rs1 re1 rv h1=>?_
  obtain ⟨z,e,q⟩:=zac h1 rs1
  exact ⟨B,φ1,st1,v,x,z,rfl,rs1,rv,e,ht,q⟩
theorem zco {T:Str}(Z:KitT X.K t)(ht:isBl t=true)(hg:Gl X "isinstance")(hm:X.mg "isinstance"=none)(hgT:Gl X T)(hmT:X.mg T=none)(hT:bootBuiltins T=some (.type (tyN t)))(ha:KqE X a (tE S X ca))(hnT:T ≠ "__name__":=by decide)(hdT:(T == ("__debug__":Str))=false:=by decide)
  (he:starEach [a,.Name T p2] X.env=(false,eval a X.env)::starEach [.Name T p2] X.env:=by rfl) (hpl:(backTo pos (starEach [.Name T p2] X.env)).any (·.1)=false:=by rfl) :
  KqE X (.Call (.Name "isinstance" p) [a,.Name T p2] [] pos) (tE S X (.isi ca [t])):=by with_unfolding_all exact zl0 Z ht hg hm hgT hmT hT ha hnT hdT he hpl
theorem zir {st4:Store}{x y v:PV}(h:sixV st x y v=some st4):∃n xs k j,x=.loc n/\st[n]?=some (.lst xs)/\y=.int k/\ixI xs.length k=some j/\st4=st.set n (.lst (xs.set j v)):=by
 cases x with
 |loc n =>
  simp only [sixV] at h
  cases q:st[n]? with
  |none=>rw [q] at h;cases h
  |some o =>
   rw [q] at h
   cases o with
   |lst xs =>
    cases y with
    |int k =>
     dsimp only at h
     cases q2:ixI xs.length k with
     |none=>rw [q2] at h;cases h
     |some j=>rw [q2] at h;exact ⟨n,xs,k,j,rfl,q,rfl,q2,(Option.some.inj h).symm⟩
    |_=>cases h
   |_=>cases h
 |_=>cases h
theorem RepL.put {K:PySem.W.Frag}{cl:Nat->Addr}:∀{vs:List PV} {xs:List V} (j:Nat) {v:PV} {x:V},RepL K cl B φ H vs xs->RepV K cl B φ H v x->RepL K cl B φ H (vs.set j v) (xs.set j x)
 | [],xs,j,v,x,l,r=>by simp only [RepL] at l;subst l;simp [RepL]
 |w::vs,xs,0,v,x,l,r=>by
  simp only [RepL] at l
  obtain ⟨y,ys,rfl,_,l⟩:=l
  simp only [List.set_cons_zero,RepL]
  exact ⟨x,ys,rfl,r,l⟩
 |w::vs,xs,j+1,v,x,l,r=>by
  simp only [RepL] at l
  obtain ⟨y,ys,rfl,ry,l⟩:=l
  simp only [List.set_cons_succ,RepL]
  exact ⟨y,ys.set j x,rfl,ry,RepL.put j l r⟩
theorem zlX (he:PE X a (tE S X ca))(ho:PE X b (tE S X cb))(hi:PE X c (tE S X cc))(hs:swapsWithSole [.Subscript b c px] a pos.line X.env=pure false:=by rfl)(hw:swappedStores [.Subscript b c px] a X.env=pure none:=by rfl)
  (hg:PG X (.Subscript b c px) (gSub (tE S X cb) (tE S X cc) rSetL):=by exact zhk ‹_› ‹_› zau):PS X (.Assign [.Subscript b c px] a pos) (tS S X (.six cb cc ca)) :=
 (zl2 he hg hs hw).imp fun D σ H ⟨B,φ,st,ρ,rs,re,h⟩=>by
  simp only [ex] at h
  refine tE.fl rs re h fun v' H1 v st1 φ1 s1 rs1 re1 rv h1=>tE.fl rs1 re1 h1 fun x' H2 x st2 φ2 s2 rs2 re2 rx h2=>tE.fl rs2 re2 h2 fun y' H3 y st3 φ3 s3 rs3 re3 ry h3=>?_
  cases e:sixV st3 x y v with
  |none=>rw [e] at h3;exact h3.elim
  |some st4 =>
   rw [e] at h3
   obtain ⟨n,xs,k,j,rfl,hn,rfl,hj,rfl⟩:=zir e
   simp only [RepV] at ry
   subst ry
   obtain ⟨l,ys,rfl,hp,hx,lr⟩:=rs3.list (rx.step s3) hn
   refine ⟨l,ys,k,j,rfl,rfl,hx,by rw [<- lr.length];exact hj,?_⟩
   have s4:Step φ3 H3 φ3 (L2.upd H3 l (.lst (ys.set j v'))):=.put (List.mem_of_getElem? hp)
   exact h3 σ _ φ3 s4 (rs3.put hp ⟨_,zE,(lr.put j ((rv.step s2).step s3)).step s4⟩) (re3.step s4)
theorem za5 (he:KqE X a (tE S X ca))(ho:KqE X b (tE S X cb))(hi:KqE X c (tE S X cc))(hs:swapsWithSole [.Subscript b c px] a pos.line X.env=pure false:=by rfl)(hw:swappedStores [.Subscript b c px] a X.env=pure none:=by rfl)
  (hg:KqG X (.Subscript b c px) (gSub (tE S X cb) (tE S X cc) rSetL):=by exact zhk ‹_› ‹_› zau):KqS X (.Assign [.Subscript b c px] a pos) (tS S X (.six cb cc ca)):=by with_unfolding_all exact zlX he ho hi hs hw hg
end
section
variable {S:Se}{X:Cx}{σ:St}{B:Addr->Prop}{φ:Ph}{H:Hp}{st:Store}{p pos p2 px py pt pt2 apos:Pos}{a b c d o:Expr}{ca cb cc:Ce}{kt k2:Nat}
theorem zlF {i j:Nat}{x y:Str}(hc:X.calm=true)(hN:X.N.Nodup)(hi:X.N[i]?=some x)(hj:X.N[j]?=some y)(hij:i≠j)(h:PS X (.Assign [.Tuple [.Name x px,.Name y py] kt pt] (.Tuple [a,b] k2 pt2) pos) (tPar i j (tAs S X (.cons ca (.cons cb .nil))))) :
  PS X (.Assign [.Tuple [.Name x px,.Name y py] kt pt] (.Tuple [a,b] k2 pt2) pos) (tS S X (.asg (.t [i,j]) (.tup (.cons ca (.cons cb .nil))))) :=
 h.imp fun D σ H ⟨B,φ,st,ρ,rs,re,h⟩=>by
  simp only [ex,ev] at h
  refine ⟨B,φ,st,ρ,rs,re,?_⟩
  cases e:evs S.call ρ st (.cons ca (.cons cb .nil)) with
  |bad=>rw [e] at h;exact h
  |exc k st'=>rw [e] at h;exact fun e s' x=>h σ φ H e s' .rfl re x
  |ok vs st' =>
   rw [e] at h
   intro xs H' φ' s rs' l
   simp only [R.bind] at h
   split at h
   ·rcases vs with _|⟨v,_|⟨w,_|⟨u,t⟩⟩⟩
    ·exact h.elim
    ·exact h.elim
    ·obtain ⟨v',w',rfl,rv,rw⟩:=l.two
     refine ⟨v',w',rfl,?_⟩
     exact h _ H' φ' s rs' (((re.step s).set i rv).set j rw)
    ·exact h.elim
   ·exact h.elim
theorem ziZ {i j:Nat}{x y:Str}(hc:X.calm=true)(hN:X.N.Nodup)(hi:X.N[i]?=some x)(hj:X.N[j]?=some y)(hij:i≠j)(h:KqS X (.Assign [.Tuple [.Name x px,.Name y py] kt pt] (.Tuple [a,b] k2 pt2) pos) (tPar i j (tAs S X (.cons ca (.cons cb .nil))))) :
  KqS X (.Assign [.Tuple [.Name x px,.Name y py] kt pt] (.Tuple [a,b] k2 pt2) pos) (tS S X (.asg (.t [i,j]) (.tup (.cons ca (.cons cb .nil))))):=by with_unfolding_all exact zlF hc hN hi hj hij h
theorem zkk {bo:BOp}{v w z:PV}(h:augV bo v w=some z):∃i j,v=.int i/\w=.int j/\IC.binI bo i j=some z:=by
 unfold augV at h
 split at h
 ·exact ⟨_,_,rfl,rfl,h⟩
 ·cases h
theorem zke:PIp X .Add (rT2 S X (augV .add)):=by
 rintro pins s σ H x y v u Q I rx ry ⟨B,φ,st,a,b,z,rs,ra,rb,e,q⟩
 obtain ⟨i,j,rfl,rfl,e⟩:=zkk e
 cases e
 simp only [RepV] at ra rb
 subst ra rb
 exact zmp pins s σ H _ _ v u Q I rx ry ⟨i,j,rfl,rfl,q _ H φ .rfl rs (by simp only [RepV])⟩
end
end L2
namespace WK
open PySem L2 IC
structure Fn (K:PySem.W.Frag)(mg:Str->Option Value)(x:Str)(st:Stmt)(ps:List Str)(f:Addr)(fd:FuncData):Prop where
 F:Fun K x x st f fd
 b:Binds K fd ps []
 m:mg x=some (.ref f)
theorem zkX:bootBuiltins "int"=some (.type "int"):=by decide +kernel
theorem zko:bootBuiltins "bool"=some (.type "bool"):=by decide +kernel
theorem zcq:bootBuiltins "tuple"=some (.type "tuple"):=by decide +kernel
theorem zab:bootBuiltins "len"=some (.builtin "len"):=by decide +kernel
theorem zgR:bootBuiltins "all"=some (.builtin "all"):=by decide +kernel
theorem zaT {k:Nat}{A:Around}(r:Room k A):A.units+1<cLine:=by have:=r.units;omega
def VisAll (N:List Str)(sc:Scope):Prop:=(N.all fun x=>decide (sc.names.lookup x=some .local) || decide (sc.names.lookup x=some .cell))=true
theorem lcF {N:List Str}{sc:Scope}{i:Nat}{x:Str}(V:VisAll N sc)(h:N[i]?=some x):Loc sc x:=by
 have:=List.all_eq_true.mp V x (List.mem_of_getElem? h)
 rw [Bool.or_eq_true,decide_eq_true_eq,decide_eq_true_eq] at this
 exact this
theorem svF {S:Se}{X:Cx}{x:Str}{pos:Pos}(V:VisAll X.N X.env.scope)(i:Nat)(hN:X.N[i]?=some x:=by rfl)(hd:(x == ("__debug__":Str))=false:=by decide)(hcd:(x == ("__classdict__":Str))=false:=by decide):PE X (.Name x pos) (tE S X (.var i)) :=
 zjb hN (by rcases lcF V hN with h|h;exact .inl h;exact .inr (.inl h)) hd hcd
theorem ze {S:Se}{X:Cx}{x:Str}{pos:Pos}(V:VisAll X.N X.env.scope)(i:Nat)(hN:X.N[i]?=some x:=by rfl)(hd:(x == ("__debug__":Str))=false:=by decide)(hcd:(x == ("__classdict__":Str))=false:=by decide):KqE X (.Name x pos) (tE S X (.var i)):=by with_unfolding_all exact svF V i hN hd hcd
theorem sv {S:Se}{X:Cx}(i:Nat){x:Str}{pos:Pos}(hN:X.N[i]?=some x:=by rfl)(hv:Vis X.env.scope x:=by first|exact Or.inl rfl|exact Or.inr (Or.inl rfl)|exact Or.inr (Or.inr rfl))(hd:(x == ("__debug__":Str))=false:=by decide)
  (hcd:(x == ("__classdict__":Str))=false:=by decide):PE X (.Name x pos) (tE S X (.var i)):=zjb hN hv hd hcd
theorem sv_k {S:Se}{X:Cx}(i:Nat){x:Str}{pos:Pos}(hN:X.N[i]?=some x:=by rfl)(hv:Vis X.env.scope x:=by first|exact Or.inl rfl|exact Or.inr (Or.inl rfl)|exact Or.inr (Or.inr rfl))(hd:(x == ("__debug__":Str))=false:=by decide)
  (hcd:(x == ("__classdict__":Str))=false:=by decide):KqE X (.Name x pos) (tE S X (.var i)):=by with_unfolding_all exact sv i hN hv hd hcd
end WK
namespace L2
open PySem PySem.Spec PyProof.Rows IC
section
variable {S:Se}{X:Cx}{k:Nat}{f:Addr}{fd:FuncData}{ps ks:List Str}{sp:Sp}{x:Str}{p pos kpos:Pos}{e:Expr}{es:List Expr}{kws:List Keyword}{nm:Option Str}{t tk:TA}{CX:CXT}{ca:Ce}{ces:Ces}{items:List (Sum Ce Int)}{g:List Value->List Value->List Value}{gV:List V->List V->List V}
theorem PK.imp {t t':TA}(h:PK X kws t')(k:∀σ H Q,t σ H Q->t' σ H Q):PK X kws t:=fun pos pins s σ H Q I q=>h pos pins s σ H Q I (k σ H Q q)
end
section
variable {P:Program}{w:World}{K:PySem.W.Frag}{mg:Str->Option Value}{base:Heap}{cl:Nat->Addr}{T:Nat->Option IC.Fn}{fi:Nat}{fn:IC.Fn}{x:Str}{stm:Stmt}{f:Addr}{fd:FuncData}{N ps:List Str}{ds:List Int}{k:Nat}
end
theorem zdx (a b:Key):peq (keyP a) (keyP b)=decide (a=b):=by
 rw [Bool.eq_iff_iff]
 cases a <;> cases b <;> simp [keyP,peq]
theorem zfJ:∀(a b:List Key),peqs (a.map keyP) (b.map keyP)=decide (a=b)
 | [],[]=>by simp [peqs]
 | [],y::ys=>by simp [peqs]
 |x::xs,[]=>by simp [peqs]
 |x::xs,y::ys=>by
  simp only [List.map_cons,peqs,zdx,zfJ xs ys]
  rw [Bool.eq_iff_iff]
  simp
theorem zdW (a b:List Key):peq (.tup (a.map keyP)) (.tup (b.map keyP))=decide (a=b):=by
 simp only [peq,zfJ]
section
variable {S:Se}{X:Cx}{K:PySem.W.Frag}{cl:Nat->Addr}{σ:St}{B:Addr->Prop}{φ:Ph}{H:Hp}{st:Store}{p pos p2 px apos:Pos}{a b c d o:Expr}{ca cb cc:Ce}
theorem DK.look {q:Key}:∀{kvs:List (PV×PV)} {ks:List (Key×V)},DK K cl B φ H kvs ks->∀{v:PV} {x:V},RepV K cl B φ H v x->RepV K cl B φ H ((IC.look (keyP q) kvs).getD v) ((valV ks q).getD x)
 | [],ks,h,v,x,r=>by cases h;exact r
 | (k,w)::t,ks,h,v,x,r=>by
  obtain ⟨q',y,s,rfl,rfl,rv,l⟩:=h
  simp only [IC.look,zdx]
  by_cases e:q'=q
  ·rw [zfz (p:=(q',y)) e]
   simp [e,rv]
  ·rw [zfO (p:=(q',y)) e]
   simp only [decide_eq_true_eq,e,if_false]
   exact DK.look l r
theorem DT.look {q:List Key}:∀{kvs:List (PV×PV)} {ks:List (List Key×V)},DT K cl B φ H kvs ks->∀{v:PV} {x:V},RepV K cl B φ H v x->RepV K cl B φ H ((IC.look (.tup (q.map keyP)) kvs).getD v) ((valV ks q).getD x)
 | [],ks,h,v,x,r=>by cases h;exact r
 | (k,w)::t,ks,h,v,x,r=>by
  obtain ⟨q',y,s,rfl,rfl,rv,l⟩:=h
  simp only [IC.look,zdW]
  by_cases e:q'=q
  ·rw [zfz (p:=(q',y)) e]
   simp [e,rv]
  ·rw [zfO (p:=(q',y)) e]
   simp only [decide_eq_true_eq,e,if_false]
   exact DT.look l r
theorem DK.any {q:Key}:∀{kvs:List (PV×PV)} {ks:List (Key×V)},DK K cl B φ H kvs ks->(kvs.any fun p=>peq p.1 (keyP q))=ks.any fun kv=>decide (kv.1=q)
 | [],ks,h=>by cases h;rfl
 | (k,w)::t,ks,h=>by
  obtain ⟨q',y,s,rfl,rfl,rv,l⟩:=h
  simp only [List.any_cons,zdx,DK.any l]
theorem DT.any {q:List Key}:∀{kvs:List (PV×PV)} {ks:List (List Key×V)},DT K cl B φ H kvs ks->(kvs.any fun p=>peq p.1 (.tup (q.map keyP)))=ks.any fun kv=>decide (kv.1=q)
 | [],ks,h=>by cases h;rfl
 | (k,w)::t,ks,h=>by
  obtain ⟨q',y,s,rfl,rfl,rv,l⟩:=h
  simp only [List.any_cons,zdW,DT.any l]
theorem DK.map {q:Key}{v:PV}{x:V}(r:RepV K cl B φ H v x):∀{kvs:List (PV×PV)} {ks:List (Key×V)},DK K cl B φ H kvs ks->DK K cl B φ H (kvs.map fun p=>if peq p.1 (keyP q)=true then (p.1,v) else p) (ks.map fun kv=>if kv.1=q then (kv.1,x) else kv)
 | [],ks,h=>by cases h;exact rfl
 | (k,w)::t,ks,h=>by
  obtain ⟨q',y,s,rfl,rfl,rv,l⟩:=h
  simp only [List.map_cons,zdx,decide_eq_true_eq]
  by_cases e:q'=q
  ·simp only [e,if_true]
   exact ⟨q,x,_,rfl,rfl,r,DK.map r l⟩
  ·simp only [e,if_false]
   exact ⟨q',y,_,rfl,rfl,rv,DK.map r l⟩
theorem DT.map {q:List Key}{v:PV}{x:V}(r:RepV K cl B φ H v x):∀{kvs:List (PV×PV)} {ks:List (List Key×V)},DT K cl B φ H kvs ks->DT K cl B φ H (kvs.map fun p=>if peq p.1 (.tup (q.map keyP))=true then (p.1,v) else p) (ks.map fun kv=>if kv.1=q then (kv.1,x) else kv)
 | [],ks,h=>by cases h;exact rfl
 | (k,w)::t,ks,h=>by
  obtain ⟨q',y,s,rfl,rfl,rv,l⟩:=h
  simp only [List.map_cons,zdW,decide_eq_true_eq]
  by_cases e:q'=q
  ·simp only [e,if_true]
   exact ⟨q,x,_,rfl,rfl,r,DT.map r l⟩
  ·simp only [e,if_false]
   exact ⟨q',y,_,rfl,rfl,rv,DT.map r l⟩
theorem DK.snoc {q:Key}{v:PV}{x:V}(r:RepV K cl B φ H v x):∀{kvs:List (PV×PV)} {ks:List (Key×V)},DK K cl B φ H kvs ks->DK K cl B φ H (kvs++[(keyP q,v)]) (ks++[(q,x)])
 | [],ks,h=>by cases h;exact ⟨q,x,[],rfl,rfl,r,rfl⟩
 | (k,w)::t,ks,h=>by
  obtain ⟨q',y,s,rfl,rfl,rv,l⟩:=h
  exact ⟨q',y,_,rfl,rfl,rv,DK.snoc r l⟩
theorem DT.snoc {q:List Key}{v:PV}{x:V}(r:RepV K cl B φ H v x):∀{kvs:List (PV×PV)} {ks:List (List Key×V)},DT K cl B φ H kvs ks->DT K cl B φ H (kvs++[(.tup (q.map keyP),v)]) (ks++[(q,x)])
 | [],ks,h=>by cases h;exact ⟨q,x,[],rfl,rfl,r,rfl⟩
 | (k,w)::t,ks,h=>by
  obtain ⟨q',y,s,rfl,rfl,rv,l⟩:=h
  exact ⟨q',y,_,rfl,rfl,rv,DT.snoc r l⟩
theorem DK.put {q:Key}{v:PV}{x:V}{kvs:List (PV×PV)}{ks:List (Key×V)}(l:DK K cl B φ H kvs ks)(r:RepV K cl B φ H v x):DK K cl B φ H (IC.put (keyP q) v kvs) (putK ks q x):=by
 unfold IC.put putK
 rw [DK.any l]
 split
 ·exact DK.map r l
 ·exact DK.snoc r l
theorem DT.put {q:List Key}{v:PV}{x:V}{kvs:List (PV×PV)}{ks:List (List Key×V)}(l:DT K cl B φ H kvs ks)(r:RepV K cl B φ H v x):DT K cl B φ H (IC.put (.tup (q.map keyP)) v kvs) (putK ks q x):=by
 unfold IC.put putK
 rw [DT.any l]
 split
 ·exact DT.map r l
 ·exact DT.snoc r l
theorem DK.len:∀{kvs:List (PV×PV)} {ks:List (Key×V)},DK K cl B φ H kvs ks->kvs.length=ks.length
 | [],ks,h=>by cases h;rfl
 | (k,w)::t,ks,h=>by
  obtain ⟨q',y,s,rfl,rfl,rv,l⟩:=h
  simp [DK.len l]
theorem DT.len:∀{kvs:List (PV×PV)} {ks:List (List Key×V)},DT K cl B φ H kvs ks->kvs.length=ks.length
 | [],ks,h=>by cases h;rfl
 | (k,w)::t,ks,h=>by
  obtain ⟨q',y,s,rfl,rfl,rv,l⟩:=h
  simp [DT.len l]
theorem RepS.dct {n:Nat}{t:Bool}{kvs:List (PV×PV)}{x:V}(rs:RepS K cl B φ H st)(r:RepV K cl B φ H (.loc n) x)(h:st[n]?=some (.dct t kvs)):∃y,x=.ref y/\φ[n]?=some (some y)/\RepO K cl B φ H (.dct t kvs) y:=by
 simp only [RepV] at r
 obtain ⟨hn,y,rfl,ha⟩:=r
 obtain ⟨z,hz⟩:=rs.liv n _ h (by intro z;cases z)
 obtain rfl:=ha z hz
 obtain ⟨o,ho,ro⟩:=rs.obj n z hz
 rw [h] at ho;cases ho
 exact ⟨z,rfl,hz,ro⟩
end
section
variable {S:Se}{X:Cx}{σ:St}{B:Addr->Prop}{φ:Ph}{H:Hp}{p pos p3 p4:Pos}{a b tg:Expr}{ca cb:Ce}
end
end L2
namespace WK
open PySem L2 IC
theorem zbb {K:PySem.W.Frag}{h:Heap}{mg:Str->Option Value}{x:Str}{st:Stmt}{ps:List Str}{f:Addr}{oc:Value}{od an:Option Addr}{osl:Array (Option Value)}{kV doc pm cdv ct:Value}(X:K.In h)(G:h.Ns mainGlobals mg)
  (a:PySem.W.nsIn K mainGlobals x=some (some (.ref f))) (l:K.lookup f=some ⟨oc,od,.func (PySem.W.fnOf x x (defArgs st) (defBody st) (defScope st) .none kV doc pm an cdv ct),osl⟩) (c:PySem.W.codeIn K cdv x=true) (k:PySem.W.keepIn K (.ref f)=true)
  (hb:∀(kV doc pm:Value) (an:Option Addr) (cdv ct:Value) (us:List Value),us.length=ps.length->bindArgs (PySem.W.fnOf x x (defArgs st) (defBody st) (defScope st) .none kV doc pm an cdv ct) ⟨us,[]⟩=pure (ps.zip us)) :
  Fn K mg x st ps f (PySem.W.fnOf x x (defArgs st) (defBody st) (defScope st) .none kV doc pm an cdv ct):=⟨zjg l c k,(zjg l c k).binds hb,PySem.W.mg_of X G a⟩
section
variable {K:PySem.W.Frag}{cl:Nat->Addr}{B:Addr->Prop}{φ:Ph}{H:Hp}
theorem zje:RepL K cl B φ H [] []:=by simp only [RepL]
theorem zg7 {v:PV}{x:V}{vs:List PV}{xs:List V}(h:RepV K cl B φ H v x)(l:RepL K cl B φ H vs xs):RepL K cl B φ H (v::vs) (x::xs):=by
 simp only [RepL]
 exact ⟨x,xs,rfl,h,l⟩
end
theorem zl9 {P:Program}{w:World}{outer:List PySem.Env}{H:Hp}{s:Shared}{e:Value}{s':Shared}(h:CX1 P w outer H s (fun _ _ _=>False) e s'):False:=by
 obtain ⟨_,_,_,_,_,_,_,_,_,_,_,_,_,_,z⟩:=h
 exact z
theorem zhW {K:PySem.W.Frag}{cl:Nat->Addr}{B:Addr->Prop}{φ:Ph}{H:Hp}:∀ns:List Int,RepL K cl B φ H (ns.map .int) (ns.map V.int)
 | []=>zje
 |n::ns=>zg7 (by simp only [RepV]) (zhW ns)
noncomputable def spX (K:PySem.W.Frag)(call:Nat->List PV->Store->R PV)(fi:Nat):Sp:=fun vs H Q E=>∀cl,spI K cl call fi vs H Q E
theorem zgZ {K:PySem.W.Frag}{call:Nat->List PV->Store->R PV}{fi:Nat}{H:Hp}{a:Addr}{ns:List Int}(ht:∀ns:List Int,ns.length<=63->call fi [.scr (ns.map .int)] []=.ok (.bl true) [])(hl:ns.length<=63)(hS:SqL K H a (ns.map V.int)) :
  spX K call fi [.ref a] H (fun v _=>v=.bl true) fun _ _ _=>False:=by
 intro cl
 refine ⟨fun _=>False,[],[],[.scr (ns.map .int)],⟨rfl,fun m n a e=>by simp at e,fun n a e=>by simp at e,fun n o e=>by simp at e,fun a z=>by simp at z,fun a z=>z.elim⟩,zg7 ?_ zje,?_⟩
 ·simp only [RepV]
  refine ⟨a,_,rfl,?_,zhW ns⟩
  rcases hS with hS|hS
  ·exact .inl ⟨hS,fun z=>z,by simp⟩
  ·exact .inr hS
 ·rw [ht ns hl]
  intro x H' φ' _ _ r
  simpa only [RepV] using r
end WK
namespace HT
open PySem PySem.Spec PyProof.Rows
section
variable {prog:Program}{w:World}{A:Around}{E:Value->Shared->Prop}{s:Shared}
theorem zge (n:Nat):Builtin.Slice.slicePlaces ((n:Int) - 1) (-1) (-1)=n:=by
 unfold Builtin.Slice.slicePlaces
 rw [if_neg (by decide)]
 by_cases h:(n:Int) - 1 > -1
 ·rw [if_pos h]
  have:-(-1:Int)=1:=rfl
  rw [this,Int.ediv_one];omega
 ·rw [if_neg h];omega
theorem zca {sl:Addr}{n:Nat}{t:Tok}{Q:Int×Int×Nat->Shared->Prop}(hs:s.heap.IsSliceOf sl .none .none (.int (-1) t))
  (h:Q ((n:Int) - 1,-1,n) s):wpAny (model prog w) A (Builtin.Slice.sliceApplied (.ref sl) (pure (n:Int))) Q E s:=by
 obtain ⟨os,hos,hcs,hds⟩:=id hs
 unfold Builtin.Slice.sliceApplied Builtin.Slice.sliceFields
 refine wpAny_bind (wpAny_bind (wpAny_field hos hds (x:=.none) rfl (wpAny_bind (wpAny_field hos hds (x:=.none) rfl (wpAny_bind (wpAny_field hos hds (x:=.int (-1) t) rfl (wpAny_pure ?_)))))))
 refine wpAny_bind (slicePart_int ?_)
 show wpAny _ _ (if ((-1:Int) == 0)=true then _ else _) _ _ s
 rw [if_neg (by decide)]
 refine wpAny_bind (slicePart_none (wpAny_bind (slicePart_none (wpAny_bind (wpAny_pure ?_)))))
 show wpAny _ _ (pure ((n:Int) - 1,(-1:Int),Builtin.Slice.slicePlaces ((n:Int) - 1) (-1) (-1))) _ _ s
 rw [zge]
 exact wpAny_pure h
theorem zfE {α β:Type}{f g:α->Option β}:∀l:List α,(∀x∈l,f x=g x)->l.filterMap f=l.filterMap g
 | [],_=>rfl
 |a::l,h=>by
  rw [List.filterMap_cons,List.filterMap_cons,h a List.mem_cons_self,zfE l fun x hx=>h x (List.mem_cons_of_mem _ hx)]
theorem ziE (l:List Value):((List.range l.toArray.size).filterMap fun (m:Nat)=>l.toArray[((l.toArray.size:Int) - 1+(m:Int)*(-1)).toNat]?)=l.reverse:=by
 refine List.ext_getElem? fun i=>?_
 have e:∀m:Nat,m<l.length->l.toArray[((l.toArray.size:Int) - 1+(m:Int)*(-1)).toNat]?=some (l.reverse.getD m .none):=fun m hm=>by
  rw [List.size_toArray,show ((l.length:Int) - 1+(m:Int)*(-1)).toNat=l.length - 1 - m by omega]
  rw [List.getElem?_toArray,List.getD_eq_getElem?_getD,List.getElem?_reverse hm,List.getElem?_eq_getElem (by omega)]
  rfl
 have e2:((List.range l.toArray.size).filterMap fun (m:Nat)=>l.toArray[((l.toArray.size:Int) - 1+(m:Int)*(-1)).toNat]?)=(List.range l.length).map fun m=>l.reverse.getD m .none:=by
  rw [<- List.filterMap_eq_map,List.size_toArray]
  refine zfE _ fun m hm=>?_
  have:=e m (List.mem_range.1 hm)
  rw [List.size_toArray] at this
  exact this
 rw [e2,List.getElem?_map]
 by_cases hi:i<l.length
 ·rw [List.getElem?_range hi]
  show some (l.reverse.getD i .none)=_
  rw [List.getD_eq_getElem?_getD,List.getElem?_eq_getElem (by simpa using hi)]
  rfl
 ·rw [List.getElem?_eq_none (by simpa using hi),List.getElem?_eq_none (by simpa using hi)]
  rfl
theorem getItem_tuple_rev {t sl:Addr}{l:List Value}{tk:Tok}{Q:Value->Shared->Prop}(ht:IsTup s.heap t l.toArray)(hs:s.heap.IsSliceOf sl .none .none (.int (-1) tk))
  (h:Q (.ref s.heap.objs.size) { s with heap:=s.heap.push { cls:=.type "tuple",data:=.seq l.reverse.toArray } })
  (hsz:l.length<=sizeLine):wpAny (model prog w) A (getItem (.ref t) (.ref sl)) Q E s:=by
 have htake:sizeOk (.seq l.reverse.toArray):=by
  show l.reverse.toArray.size<=sizeLine
  rw [List.size_toArray,List.length_reverse];exact hsz
 obtain ⟨os,hos,hcs,hds⟩:=id hs
 have hTs:s.TypeIs (.ref sl) "slice":=⟨os,hos,hcs⟩
 unfold getItem
 try with_reducible refine wpAny_holding ?_
 first|refine wpAny_bind (wpAny_pure ?_)|skip
 refine wpAny_bind (wpAny_sequenceKey ht.typeIs (by decide) ?_)
 refine wpAny_bind (wpAny_callSpecial?_slot (name:=Str.ofString "__getitem__") ht.typeIs PyProof.Rows.slot_tuple_getitem
  (wpAny_call_entry PyProof.Rows.slot_tuple_getitem ht.typeIs entry_tuple_getitem ?_ (args_tuple_getitem _ _)))
 show wpAny _ _ (Builtin.Tuple.tupleItemsOf (.ref t) >>= _) _ _ s
 refine wpAny_bind (tupleItemsOf_ ht ?_)
 refine wpAny_bind (wpAny_typeOf hTs ?_)
 rw [if_pos (by decide)]
 refine wpAny_bind (zca hs ?_)
 have hno:¬((((l.toArray.size:Int) - 1) == 0 && (-1:Int) == 1 && l.toArray.size == l.toArray.size)=true):=by
  intro q
  rw [Bool.and_eq_true,Bool.and_eq_true] at q
  exact absurd q.1.2 (by decide)
 show wpAny _ _ (if (((l.toArray.size:Int) - 1) == 0 && (-1:Int) == 1 && l.toArray.size == l.toArray.size)=true then _ else _) _ _ s
 rw [if_neg hno,ziE]
 first
  | exact wpAny_bind (m:=Builtin.Tuple.tupleExact _) (wpAny_newObj_type (wpAny_pure ⟨_,rfl,wpAny_pure h⟩) htake)
  | exact wpAny_bind (m:=Builtin.Tuple.tupleExact _) (wpAny_newObj_type (wpAny_bind (wpAny_pure (wpAny_pure ⟨_,rfl,wpAny_pure h⟩))) htake)
  | exact wpAny_bind (wpAny_bind (m:=Builtin.Tuple.tupleExact _) (wpAny_newObj_type (wpAny_pure (wpAny_pure ⟨_,rfl,wpAny_pure h⟩)) htake))
  | exact wpAny_bind (wpAny_bind (m:=Builtin.Tuple.tupleExact _) (wpAny_newObj_type (wpAny_pure ⟨_,rfl,wpAny_pure h⟩) htake))
end
end HT
namespace L2
open PySem PySem.Spec PyProof.Rows IC
section
variable {S:Se}{X:Cx}{pos p2:Pos}{e e3:Expr}{te t3:TE}{a:Expr}{ca c3:Ce}
theorem zln (he:PE X e te)(h3:PE X e3 t3):PE X (.Subscript e (.Slice none none (some e3) p2) pos) (fun σ H Q=>te σ H fun x H1=>t3 σ H1 fun k H2=>k=.int (-1)/\∃a xs,x=.ref a/\((SqT X.K H2 a xs/\∀p,H2 p=none->Q (.ref p) (upd H2 p (.tup xs.reverse))) \/ (SqL X.K H2 a xs/\∀p,H2 p=none->Q (.ref p) (upd H2 p (.lst xs.reverse))))):=by
 intro pins s σ H Q I h
 refine Subscript_ (thn (he pins s σ H _ I h) fun v s1 ⟨x,H1,I1,r1,q1⟩=>?_)
 refine wpAny_Slice ?_
 rw [evalPart_none]
 refine wpAny_pure (wpAny_pure ?_)
 show wpAny _ _ (eval e3 X.env) _ _ s1
 refine thn (h3 pins s1 σ H1 _ I1 q1) fun vk s3 ⟨k,H3,I3,rk,ek,a,xs,ex,q⟩=>?_
 subst ek ex
 obtain ⟨tk,rfl⟩:=rk
 cases r1
 have I4:Inv X pins σ H3 { s3 with heap:=s3.heap.push { cls:=.type "slice",data:=.fields #[.none,.none,.int (-1) tk] } }:=I3.kept (t':=s3.toks) fun b ob q=>Heap.get?_push_of_some _ q
 rcases q with ⟨hx,q⟩|⟨hx,q⟩
 ·obtain ⟨its,r,ht,hz⟩:=I4.tuple hx
  have hg:wpAny (model X.prog X.w) X.A (getItem (.ref a) (.ref s3.heap.objs.size)) (EP X pins σ Q) X.xe { s3 with heap:=s3.heap.push { cls:=.type "slice",data:=.fields #[.none,.none,.int (-1) tk] } }:=by
   refine HT.getItem_tuple_rev ht (Heap.IsSliceOf.new ..) ?_ (by rw [<- r.length];exact hz)
   refine ⟨.ref _,_,I4.laid (t':=s3.toks) (o:=.tup xs.reverse) (fun b ob q=>Heap.get?_push_of_some _ q) (Nat.le_refl _) ?_,rfl,q _ (I4.hok.fresh (Nat.le_refl _))⟩
   exact ⟨by rw [List.length_reverse];exact hz,_,r.reverse,IsTup.new _ _⟩
  show wpAny (model X.prog X.w) X.A (subscriptTail e (.Slice none none (some e3) p2) (.ref a) (.ref s3.heap.objs.size)) (EP X pins σ Q) X.xe { s3 with heap:=s3.heap.push { cls:=.type "slice",data:=.fields #[.none,.none,.int (-1) tk] } }
  exact tail_any (ops:=[.ref a,.ref s3.heap.objs.size]) ht.typeIs PyProof.Rows.slot_tuple_getitem.lookup hg (by with_unfolding_all rfl)
 ·obtain ⟨its,r,ht,hz⟩:=I4.list hx
  have hlen:=r.length
  have hg:wpAny (model X.prog X.w) X.A (getItem (.ref a) (.ref s3.heap.objs.size)) (EP X pins σ Q) X.xe { s3 with heap:=s3.heap.push { cls:=.type "slice",data:=.fields #[.none,.none,.int (-1) tk] } }:=by
   refine wpAny_getItem_list_slice ht.isList (Heap.IsSliceOf.new ..) .none .none (.int (-1) tk) (by decide) ?_ (by rw [List.size_toArray] <;> omega)
   rw [PySem.W.krv_pick]
   refine ⟨.ref _,_,I4.laid (t':=s3.toks) (o:=.lst xs.reverse) (fun b ob q=>Heap.get?_push_of_some _ q) (Nat.le_refl _) ?_,rfl,q _ (I4.hok.fresh (Nat.le_refl _))⟩
   exact ⟨by rw [List.length_reverse];exact hz,its.reverse,0,r.reverse,Heap.get?_push_size _ rfl⟩
  show wpAny (model X.prog X.w) X.A (subscriptTail e (.Slice none none (some e3) p2) (.ref a) (.ref s3.heap.objs.size)) (EP X pins σ Q) X.xe { s3 with heap:=s3.heap.push { cls:=.type "slice",data:=.fields #[.none,.none,.int (-1) tk] } }
  exact tail_any (ops:=[.ref a,.ref s3.heap.objs.size]) ht.isList.typeIs slot_list_getitem.lookup hg (by with_unfolding_all rfl)
theorem RepL.reverse {K:PySem.W.Frag}{cl:Nat->Addr}{B:Addr->Prop}{φ:Ph}{H:Hp}:∀{vs:List PV} {xs:List V},RepL K cl B φ H vs xs->RepL K cl B φ H vs.reverse xs.reverse
 | [],xs,h=>by
  simp only [RepL] at h
  subst h
  simp only [List.reverse_nil,RepL]
 |v::vs,xs,h=>by
  simp only [RepL] at h
  obtain ⟨y,ys,rfl,r,l⟩:=h
  rw [List.reverse_cons,List.reverse_cons]
  exact (RepL.reverse l).append (by simp only [RepL];exact ⟨y,[],rfl,r,rfl⟩)
theorem zhO {α β γ:Type}(r:R α)(f:α->Store->R β)(g:β->Store->R γ):(r.bind f).bind g=r.bind fun v s=>(f v s).bind g:=by cases r <;> rfl
theorem zmf (ha:PE X a (tE S X ca))(h3:PE X e3 (tE S X (.neg (.cst (.int 1))))):PE X (.Subscript a (.Slice none none (some e3) p2) pos) (tE S X (.blt .rev (.cons ca .nil))) :=
 (zln ha h3).imp fun σ H Q ⟨B,φ,st,ρ,rs,re,h⟩=>by
  simp only [ev,evs,zhO] at h
  refine tE.bind rs re h fun x H1 v st1 φ1 s1 rs1 re1 rv h1=>?_
  refine ⟨B,φ1,st1,ρ,rs1,re1,?_⟩
  obtain ⟨z,ez,q⟩:=zac h1 rs1
  simp only [ev,R.bind]
  intro y H2 φ2 s2 rs2 ry
  simp only [RepV] at ry
  refine ⟨ry,?_⟩
  unfold bltV at ez
  cases v with
  |tp k vs =>
   simp only [revV] at ez
   split at ez
   ·cases ez
   ·cases ez
    have rv2:=rv.step s2
    simp only [RepV] at rv2
    obtain ⟨p,xs,rfl,r1,l1⟩:=rv2
    exact ⟨p,xs,rfl,.inl ⟨r1.sq,fun t ht=>q _ _ φ2 (s2.trans (.upd ht)) (rs2.upd ht) (.tup_new ht rs2 l1.reverse)⟩⟩
  |lst vs =>
   simp only [revV] at ez
   cases ez
   have rv2:=rv.step s2
   simp only [RepV] at rv2
   obtain ⟨p,xs,rfl,r1,l1⟩:=rv2
   exact ⟨p,xs,rfl,.inr ⟨r1.sq,fun t ht=>q _ _ φ2 (s2.trans (.upd ht)) (rs2.upd ht) (.lst_new ht rs2 l1.reverse)⟩⟩
  |_=>cases ez
theorem zii (ha:KqE X a (tE S X ca))(h3:KqE X e3 (tE S X (.neg (.cst (.int 1))))):KqE X (.Subscript a (.Slice none none (some e3) p2) pos) (tE S X (.blt .rev (.cons ca .nil))):=by with_unfolding_all exact zmf ha h3
end
theorem zgF {l:List Str}(h:l.Nodup){i j:Nat}(hi:i<l.length)(hj:j<l.length)(e:l[i]=l[j]):i=j:=by
 rcases Nat.lt_trichotomy i j with q|q|q
 ·exact absurd e (List.pairwise_iff_getElem.mp h i j hi hj q)
 ·exact q
 ·exact absurd e.symm (List.pairwise_iff_getElem.mp h j i hj hi q)
section
variable {X:Cx}{pins:List (Addr×Obj)}{σ:St}{H:Hp}{s:Shared}
theorem Inv.drop {h':Heap}{m:Str->Option Value}{v:Option Value}{i:Nat}{n:Str}(I:Inv X pins σ H s)(hN:X.N.Nodup)(hi:X.N[i]?=some n)(hm:s.heap.Ns X.env.locals m)(look:∀(i:Nat) (x:Str) (v:V),X.N[i]?=some x->σ[i]?=some (some v)->Vis X.env.scope x->∃u,RelV v u/\Look X.env s.heap m x u)(hs:Heap.SameBut X.env.locals s.heap h')(hn:h'.Ns X.env.locals (fun x=>if x=n then v else m x)):Inv X pins (σ.set i none) H { s with heap:=h' }:=by
 have k:∀b u,b≠X.env.locals->s.heap.get? b=some u->h'.get? b=some u:=fun b u hb q=>(hs.2 b hb).trans q
 have nl:∀b o,X.s₀.heap.get? b=some o->b≠X.env.locals:=fun b o e=>Nat.ne_of_lt (Nat.lt_of_lt_of_le (Heap.lt_size e) I.ok.above)
 refine ⟨I.ok,I.os,I.bare,⟨fun b o q n hb hx=>k b o (nl b o q) (I.base.keep b o q n hb hx),fun b o q n hb hx=>?_,I.base.free,fun b o q hx=>?_,I.base.tups,I.base.frzs,I.base.tbls⟩,⟨_,hn,fun j x v e1 e2 hv=>?_⟩,fun x c e=>?_,I.free,I.freeC,fun p hp=>?_,fun b u e=>?_,?_⟩
 ·obtain ⟨sl,q1⟩:=I.base.slot b o q n hb hx
  exact ⟨sl,k b _ (nl b o q) q1⟩
 ·obtain ⟨o',q1⟩:=I.base.there b o q hx
  exact ⟨o',k b o' (nl b o q) q1⟩
 ·have hj:j≠i:=fun z=>by
   subst z
   rw [List.getElem?_set] at e2
   simp only [if_true] at e2
   split at e2 <;> cases e2
  rw [List.getElem?_set_ne (Ne.symm hj)] at e2
  have hx:x≠n:=fun z=>by
   subst z
   obtain ⟨l1,g1⟩:=List.getElem?_eq_some_iff.mp e1
   obtain ⟨l2,g2⟩:=List.getElem?_eq_some_iff.mp hi
   exact hj (zgF hN l1 l2 (g1.trans g2.symm))
  obtain ⟨u,r,lk⟩:=look j x v e1 e2 hv
  refine ⟨u,r,?_⟩
  rcases lk with ⟨q1,q2⟩|⟨q1,c,q2,o,q3,q4⟩
  ·exact .inl ⟨q1,by dsimp only;rw [if_neg hx];exact q2⟩
  ·exact .inr ⟨q1,c,q2,o,k c o (I.cne x c q2) q3,q4⟩
 ·obtain ⟨v,o,ho,hd⟩:=I.cell x c e
  exact ⟨v,o,k c o (I.cne x c e) ho,hd⟩
 ·obtain ⟨q1,q2,q3,q4⟩:=I.pin p hp
  exact ⟨k _ _ q3 q1,q2,q3,q4⟩
 ·refine (I.hok b u e).stay (fun c v hc q=>k c v (fun z=>?_) q) (fun _ q=>q) fun _ _ q=>q
  have fr:=I.free
  subst z
  rcases hc with z|z
  ·rw [z,e] at fr
   cases fr
  ·rw [z] at fr
   cases fr
 ·rw [List.length_set]
  exact I.len
end
noncomputable def xeT2 (X:Cx)(pn:List (Addr×Obj))(P:St->Value->Hp->Prop):Value->Shared->Prop:=fun e s'=>∃pins σ H s,Inv (cxP X pn) pins σ H s/\CX1 X.prog X.w X.stack H s (fun cls _ H'=>P σ cls H') e s'
noncomputable abbrev cxT2 (X:Cx)(pn:List (Addr×Obj))(P:St->Value->Hp->Prop):Cx:=(cxP X pn).wish (xeT2 X pn P)
section
variable {X:Cx}{body suite:List Stmt}{b₀:Stmt}{x n:Str}{np hpos pos:Pos}{W:Addr}{i:Nat}
theorem zct {pins:List (Addr×Obj)}{σ:St}{H:Hp}{s:Shared}{Q:Unit->Shared->Prop}{E:Value->Shared->Prop}{A:Around}(I:Inv X pins σ H s)(hN:X.N.Nodup)(hi:X.N[i]?=some n)(hx:X.env.scope.names.lookup n=some .local)(hl:i<σ.length)
  (h:∀s',Inv X pins (σ.set i none) H s'->Q () s'):wpAny (model X.prog X.w) A (do bindName X.env n .none;unbindBehindTheSuite X.env n pos) Q E s:=by
 refine wpAny_bind (wpAny_bindName (zaJ I hN hi (.inl hx) (show RelV .non .none from rfl) (fun s2 I2=>?_) (.inr hx)))
 obtain ⟨m,hn,look⟩:=I2.loc
 obtain ⟨u,ru,lk⟩:=look i n .non hi (by rw [List.getElem?_set];simp [hl]) (.inl hx)
 have hm:m n=some u:=by
  rcases lk with ⟨_,q⟩|⟨z,_⟩
  ·exact q
  ·rw [show X.env.kindOf n=some .local from hx] at z
   rcases z with z|z <;> cases z
 have hkn:X.env.kindOf n=some .local:=hx
 have hkind:X.env.scope.kind=.function:=I.ok.kind
 unfold unbindBehindTheSuite
 refine wpAny_onRaise ?_
 unfold unbindName deleteName
 refine wpAny_bind (wpAny_point (wpAny_bind ?_))
 simp only [hkn,hkind]
 refine wpAny_bind (m:=nsDel X.env.locals n) (wpAny_nsDel_keeps hn fun h' m' hn' hs'=>?_)
 rw [hm]
 refine wpAny_pure (wpAny_point ?_)
 have J:=I2.drop hN hi hn look hs' hn'
 rw [List.set_set] at J
 exact h _ J
theorem zj1 {tb:List (Addr×Obj)->(St->Value->Hp->Prop)->TS}{ts:List (Addr×Obj)->Addr->TS}(hstk:∃outer,X.stack=X.env::outer)(hex0:X.ex=[])(hfr:X.env.frame=some X.env.locals)(hN:X.N.Nodup)(hi:X.N[i]?=some n)(hx:X.env.scope.names.lookup n=some .local)(hgx:Gl X x)(hmx:X.mg x=some (.ref W))
  (hb:∀pn P,PSs (cxT2 X pn P) body (tb pn P)) (hs:∀pn a,PSs (cxS X pn a) (b₀::suite) (ts pn a)) (hdb:(x == ("__debug__":Str))=false:=by decide) :
  PS X (.Try body [.ExceptHandler (some (.Name x np)) (some n) (b₀::suite) hpos] [] [] pos) (fun D σ H=>∀pn,∃P:St->Value->Hp->Prop,tb pn P D σ H/\∀σ1 cls H',P σ1 cls H'->∃C,cls=.ref C/\PySem.W.exmOne X.K (.ref C) (.ref W)=some true /\
   ∀a,H' a=none->ts pn a { nx:=fun σ2 H2=>D.nx (σ2.set i none) H2,rt:=D.rt } (σ1.set i (some (.ref a))) (upd H' a (.ext (ExcO a C)))):=by
 intro pins s σ H D I h
 obtain ⟨P,hbody,hex⟩:=h (X.pn++pins)
 obtain ⟨outer,hst⟩:=hstk
 refine wpAny_Try_except (wpAny_mono (hb (X.pn++pins) P [] s σ H D (I.toP.wish _) hbody) (fun f s1 hf=>?_) fun e s1 hx1=>?_)
 ·have cv:SP X pins D f s1:=by
   cases f with
   |next =>
    obtain ⟨σ',H',J,q⟩:=hf
    exact ⟨σ',H',Inv.ofP I.ok J.unwish,q⟩
   |brk =>
    obtain ⟨σ',H',J,q⟩:=hf
    exact ⟨σ',H',Inv.ofP I.ok J.unwish,q⟩
   |cont =>
    obtain ⟨σ',H',J,q⟩:=hf
    exact ⟨σ',H',Inv.ofP I.ok J.unwish,q⟩
   |ret u =>
    obtain ⟨v,σ',H',J,r,q⟩:=hf
    exact ⟨v,σ',H',Inv.ofP I.ok J.unwish,r,q⟩
  cases f with
  |next=>exact wpAny_execs_nil cv
  |brk=>exact cv
  |cont=>exact cv
  |ret u=>exact cv
 ·obtain ⟨pins1,σ1,H1,s2,I1,a,cls,a0,H',B,rfl,os,bare,fl,hok,un,hB,tr,hT,hE⟩:=hx1
  obtain ⟨C,rfl,hm,hsuite⟩:=hex σ1 cls H' hE
  have I1:Inv (cxP X (X.pn++pins)) [] σ1 H1 s2:=I1.pins_of fun p hp=>absurd hp (by simp)
  have frs':X.A.frames=some (X.env::outer):=by rw [<- hst];exact I.ok.frames
  have fl0:Heap.FlyingW B (X.env::outer) a (.ref C) a0 s1.heap:=by rw [<- hst];exact fl
  refine wpAny_looks_onW frs' hfr fl0 fun h1 held1 up1=>?_
  refine wpAny_landsW (s:={ s1 with heap:=h1 }) held1 fun h2 fl2 up2=>?_
  have up12:s1.heap.UpToSlots h2:=up1.trans up2
  have I2:Inv (cxP X (X.pn++pins)) [] σ1 H' { s1 with heap:=h2 }:=I1.back (t':=s1.toks) os bare fl hok un hB tr hT fl2.1 up12
  obtain ⟨ob,hob,hobc⟩:=fl2.there
  have LT:∀M:Model,PySem.W.Looks M h2 (typeOf (.ref a)) (.ref C):=fun M=>hobc ▸ (PySem.W.Looks.ld hob).andThen .now
  refine wpAny_handleBy_cons (codeAny_handlers_test ?_) (by intro q;cases q)
  refine zdF (X:=cxS X (X.pn++pins) a) (I2.toS a) hgx hmx ?_ hdb
  refine PySem.W.Looks.at (PySem.W.exm_one I2.kIn (LT _) hm) ?_
  rw [if_pos rfl]
  refine codeAny_handlers_suite_as ?_
  refine lands_againW (s:={ s1 with heap:=h2 }) fl2 fun h3 fl3 up3=>?_
  have up13:=up12.trans up3
  have I3:Inv (cxP X (X.pn++pins)) [] σ1 H' { s1 with heap:=h3 }:=I1.back (t':=s1.toks) os bare fl hok un hB tr hT fl3.1 up13
  obtain ⟨oe,ws,T3,oT,tsx,ge,⟨gc,g0⟩,gd,_⟩:=id fl3.2.2.2
  have nfr:a∉frs X.stack:=fun z=>by
   obtain ⟨_,o',ho',hd⟩:=Heap.FunFrames.mem fl3.2.2.1 (by rw [<- hst];exact z)
   rw [ge] at ho'
   cases ho'
   exact hd ws gd
  have nB:B.get? a=none:=fl3.2.1
  have ns2:∀o,s2.heap.get? a≠some o:=fun o z=>by
   obtain ⟨o',q⟩:=hT a o z nfr
   rw [nB] at q
   cases q
  have nH:H' a=none:=by
   cases z:H' a with
   |none=>rfl
   |some u =>
    obtain ⟨o',q⟩:=tr a u z
    rw [nB] at q
    cases q
  have n0:∀o,X.s₀.heap.get? a≠some o:=fun o z=>by
   have hx':a∉X.ex:=by
    rw [hex0]
    simp
   obtain ⟨o',q⟩:=I1.base.there a o z hx'
   exact ns2 o' q
  have nl:a≠X.env.locals:=fun z=>by
   obtain ⟨m,hn,_⟩:=I1.loc
   obtain ⟨ol,_,_,hol,_⟩:=hn
   exact ns2 ol (z ▸ hol)
  have nc:∀y c,X.env.cells.lookup y=some c->c≠a:=fun y c q z=>by
   obtain ⟨v,oc,hoc,_⟩:=I1.cell y c q
   exact ns2 oc (z ▸ hoc)
  have np:∀p∈(cxP X (X.pn++pins)).pn++[],p.1≠a:=fun p hp z=>ns2 p.2 (z ▸ (I1.pin p hp).1)
  have new:ObjOk X.prog X.w (upd H' a (.ext (ExcO a C))) h3 a (.ext (ExcO a C)):=⟨⟨oe,ge,gc⟩,⟨oe,ge⟩,fun k1 k2 p q=>p.keep q⟩
  have I4:Inv (cxP X (X.pn++pins)) [] σ1 (upd H' a (.ext (ExcO a C))) { s1 with heap:=h3 }:=I3.track nH n0 nl nc np new
  have hln:i<X.N.length:=(List.getElem?_eq_some_iff.mp hi).1
  refine zaJ (X:=cxS X (X.pn++pins) a) (I4.toS a) hN hi (.inl hx) (show RelV (.ref a) (.ref a) from rfl) (fun s6 I6=>?_) (.inr hx)
  refine wpAny_mono (hs (X.pn++pins) a [] s6 _ _ _ I6 (hsuite a nH)) (fun f s7 hf=>?_) fun _ _ z=>z.elim
  cases f with
  |next =>
   obtain ⟨σ7,H7,J7,q7⟩:=hf
   have J8:Inv X pins σ7 H7 s7:=Inv.ofS I.ok J7
   exact zct (pos:=hpos) J8 hN hi hx (by rw [J8.len];exact hln) fun s8 J9=>⟨_,H7,J9,q7⟩
  |brk =>
   obtain ⟨_,_,_,z⟩:=hf
   exact z.elim
  |cont =>
   obtain ⟨_,_,_,z⟩:=hf
   exact z.elim
  |ret u =>
   obtain ⟨v,σ7,H7,J7,r7,q7⟩:=hf
   have J8:Inv X pins σ7 H7 s7:=Inv.ofS I.ok J7
   exact zct (pos:=hpos) J8 hN hi hx (by rw [J8.len];exact hln) fun s8 J9=>⟨v,_,H7,J9,r7,q7⟩
end
section
variable {S:Se}{X:Cx}{σ:St}{B:Addr->Prop}{φ φ1:Ph}{H H1:Hp}{st:Store}{ρ:IC.Env}{D:Ends}{body suite:List Stmt}{b₀:Stmt}{x n:Str}{p p2 np hpos pos cpos:Pos}{W:Addr}{i:Nat}{cb ch:Css}{a e:Expr}{es:List Expr}{ca ce:Ce}{ces:Ces}
theorem RepE.drop {K:PySem.W.Frag}{cl:Nat->Addr}(r:RepE K cl B φ H ρ σ)(i:Nat):RepE K cl B φ H (ρ.set i none) (σ.set i none):=by
 refine ⟨by rw [List.length_set,List.length_set];exact r.len,fun j w e=>?_⟩
 by_cases h:j=i
 ·subst h
  rw [List.getElem?_set] at e
  simp only [if_true] at e
  split at e <;> cases e
 ·rw [List.getElem?_set_ne (Ne.symm h)] at e ⊢
  exact r.get j w e
noncomputable abbrev Se.quiet (S:Se):Se:={ S with may:=false }
theorem zl4 {cs:List Nat}(hstk:∃outer,X.stack=X.env::outer)(hex0:X.ex=[])(hfr:X.env.frame=some X.env.locals)(hN:X.N.Nodup)(hi:X.N[i]?=some n)(hx:X.env.scope.names.lookup n=some .local)(hgx:Gl X x)(hmx:X.mg x=some (.ref W))(hW:∀c∈cs,PySem.W.exmOne X.K (.ref (S.cl c)) (.ref W)=some true)
  (hb:∀pn P,PSs (cxT2 X pn P) body (tSs S.quiet (cxT2 X pn P) cb)) (hs:∀pn a,PSs (cxS X pn a) (b₀::suite) (tSs S.quiet (cxS X pn a) ch)) (hdb:(x == ("__debug__":Str))=false:=by decide) :
  PS X (.Try body [.ExceptHandler (some (.Name x np)) (some n) (b₀::suite) hpos] [] [] pos) (tS S X (.try cb cs i ch)):=by
 refine (zj1 (tb:=fun pn P=>tSs S.quiet (cxT2 X pn P) cb) (ts:=fun pn a=>tSs S.quiet (cxS X pn a) ch) hstk hex0 hfr hN hi hx hgx hmx hb hs hdb).imp fun D σ H ⟨B,φ,st,ρ,rs,re,h⟩ pn=>?_
 simp only [ex] at h
 cases q:exs S.call ρ st cb with
 |exc d ρ1 st1 =>
  rw [q] at h
  dsimp only at h
  by_cases hd:cs.contains d=true
  ·rw [if_pos hd] at h
   refine ⟨fun σ1 cls H'=>cls=.ref (S.cl d)/\∃φ',Step φ H φ' H'/\RepS X.K S.cl B φ' H' st1/\RepE X.K S.cl B φ' H' ρ1 σ1,⟨B,φ,st,ρ,rs,re,?_⟩,?_⟩
   ·show RunF _ _ _ _ _ (exs S.call ρ st cb) _
    rw [q]
    intro σ' φ1 H1 e s' s1 re1 hx
    rcases hx with ⟨pins,H2,t,φ2,I,q2,c⟩|⟨m,_⟩|⟨m,_⟩
    ·refine ⟨pins,σ',H2,t,I.unwish,CX1.mono c fun cls H' z=>?_⟩
     obtain ⟨z1,φ',z2,z3⟩:=z
     exact ⟨z1,φ',(s1.trans q2).trans z2,z3,(re1.step q2).step z2⟩
    ·cases m
    ·cases m
   ·rintro σ1 cls H' ⟨rfl,φ',s1,rs1,re1⟩
    refine ⟨S.cl d,rfl,hW d (by simpa using hd),fun a ha=>?_⟩
    have nB:¬B a:=fun z=>by
     obtain ⟨o,e⟩:=rs1.dom a z
     rw [ha] at e
     cases e
    have nφ:some a∉φ':=fun z=>by
     obtain ⟨o,e⟩:=rs1.there z
     rw [ha] at e
     cases e
    have s2:Step φ' H' φ' (upd H' a (.ext (ExcO a (S.cl d)))):=.upd ha
    refine ⟨B,φ',st1,ρ1.set i (some (.exn d)),rs1.upd ha,(re1.step s2).set i ?_,?_⟩
    ·simp only [RepV]
     exact ⟨a,rfl,zE,nB,nφ⟩
    ·show RunF _ _ _ _ _ (exs S.call (ρ1.set i (some (.exn d))) st1 ch) _
     cases q2:exs S.call (ρ1.set i (some (.exn d))) st1 ch with
     |nx ρ2 st2 =>
      rw [q2] at h
      intro σ' H2 φ2 s3 rs3 re3
      exact h _ H2 φ2 ((s1.trans s2).trans s3) rs3 (re3.drop i)
     |rt v st2 =>
      rw [q2] at h
      intro y H2 φ2 s3 rs3 rv
      exact h y H2 φ2 ((s1.trans s2).trans s3) rs3 rv
     |bk ρ2 st2=>rw [q2] at h;exact h.elim
     |ct ρ2 st2=>rw [q2] at h;exact h.elim
     |exc k ρ2 st2=>rw [q2] at h;exact h.elim
     |bad=>rw [q2] at h;exact h.elim
  ·rw [if_neg hd] at h
   exact h.elim
 |nx ρ1 st1 =>
  rw [q] at h
  exact ⟨fun _ _ _=>False,⟨B,φ,st,ρ,rs,re,by show RunF _ _ _ _ _ (exs S.call ρ st cb) _;rw [q];exact h⟩,fun _ _ _ z=>z.elim⟩
 |rt v st1 =>
  rw [q] at h
  exact ⟨fun _ _ _=>False,⟨B,φ,st,ρ,rs,re,by show RunF _ _ _ _ _ (exs S.call ρ st cb) _;rw [q];exact h⟩,fun _ _ _ z=>z.elim⟩
 |bk ρ1 st1 =>
  rw [q] at h
  exact ⟨fun _ _ _=>False,⟨B,φ,st,ρ,rs,re,by show RunF _ _ _ _ _ (exs S.call ρ st cb) _;rw [q];exact h⟩,fun _ _ _ z=>z.elim⟩
 |ct ρ1 st1 =>
  rw [q] at h
  exact ⟨fun _ _ _=>False,⟨B,φ,st,ρ,rs,re,by show RunF _ _ _ _ _ (exs S.call ρ st cb) _;rw [q];exact h⟩,fun _ _ _ z=>z.elim⟩
 |bad=>rw [q] at h;exact h.elim
theorem zfL {cs:List Nat}(hstk:∃outer,X.stack=X.env::outer)(hex0:X.ex=[])(hfr:X.env.frame=some X.env.locals)(hN:X.N.Nodup)(hi:X.N[i]?=some n)(hx:X.env.scope.names.lookup n=some .local)(hgx:Gl X x)(hmx:X.mg x=some (.ref W))(hW:∀c∈cs,PySem.W.exmOne X.K (.ref (S.cl c)) (.ref W)=some true)
  (hb:∀pn P,KqSs (cxT2 X pn P) body (tSs S.quiet (cxT2 X pn P) cb)) (hs:∀pn a,KqSs (cxS X pn a) (b₀::suite) (tSs S.quiet (cxS X pn a) ch)) (hdb:(x == ("__debug__":Str))=false:=by decide) :
  KqS X (.Try body [.ExceptHandler (some (.Name x np)) (some n) (b₀::suite) hpos] [] [] pos) (tS S X (.try cb cs i ch)):=by with_unfolding_all exact zl4 hstk hex0 hfr hN hi hx hgx hmx hW hb hs hdb
theorem all_nil {P:Nat->Prop}:∀c∈([]:List Nat),P c:=fun _ h=>by cases h
theorem all_cons {P:Nat->Prop}{c:Nat}{cs:List Nat}(h:P c)(t:∀d∈cs,P d):∀d∈c::cs,P d:=fun d hd=>by
 rcases List.mem_cons.mp hd with e|e
 ·exact e ▸ h
 ·exact t d e
theorem zC {P:Ty->Prop}:∀c∈([]:List Ty),P c:=fun _ h=>by cases h
theorem za {P:Ty->Prop}{c:Ty}{cs:List Ty}(h:P c)(t:∀d∈cs,P d):∀d∈c::cs,P d:=fun d hd=>by
 rcases List.mem_cons.mp hd with e|e
 ·exact e ▸ h
 ·exact t d e
structure RaiseK (K:PySem.W.Frag)(mg:Str->Option Value)(C:Addr)(x:Str):Prop where
 m:mg x=some (.ref C)
 q:PySem.W.excIn K C [.type "ValueError",.type "Exception",.type "BaseException",.type "object"] "ValueError.__new__"=true
theorem zio {k:Nat}(Z:RaiseK X.K X.mg (S.cl k) x)(hmay:S.may=true)(hc:X.calm=true)(hg:Gl X x)(ha:PE X a (tE S X ca))
  (hs:starEach [a] X.env=(false,eval a X.env)::starEach [] X.env:=by rfl) (hpl:(backTo cpos (starEach [] X.env)).any (·.1)=false:=by rfl) (hdb:(x == ("__debug__":Str))=false:=by decide) :
  PS X (.Raise (some (.Call (.Name x np) [a] [] cpos)) none pos) (tS S X (.raise k ca)):=by
 intro pins s σ H D I ⟨B,φ,st,ρ,rs,re,h⟩
 simp only [ex] at h
 have OC:=ownX I.ok.mod.kin Z.m Z.q
 have FB:=PySem.F.excBase_ValueError
 obtain ⟨tl,Nn,nm,q,bs,hdct,sn,sub,ab,col,dd,k0,k1,k2,k3,k5,mN,hC,hN,hni,TL⟩:=OC.obj
 refine wpAny_Raise_call_subT (C:=S.cl k) (nm:=nm) (q:=q) (N:=Nn) (bs:=bs) (bm:=tl) (hdct:=hdct) (sn:=sn) (sub:=sub) (ab:=ab) (col:=col) (dd:=dd) (k0:=k0) (k1:=k1) (k2:=k2) (k3:=k3) (k5:=k5)
  FB (mN:=mN) (TL.hasType FB.hasBase) (I.ok.hd hc) (by rw [hs];show (false || (backTo cpos (starEach [] X.env)).any (·.1))=false;rw [hpl];rfl) hni (zdF I hg OC.bound ⟨rfl,?_⟩ hdb)
 have hA:=(zae ha pa_nil hs) cpos pins s σ H (fun vs H1=>∃v,vs=[v]/\∃φ1 st1,Step φ H φ1 H1/\RepS X.K S.cl B φ1 H1 st1/\RepE X.K S.cl B φ1 H1 ρ σ/\RunF S X B φ1 H1 (.exc k ρ st1) D) I
  (tE.fl rs re h fun x H1 v st1 φ1 s1 rs1 re1 rv h1=>⟨x,rfl,φ1,st1,s1,rs1,re1,h1⟩)
 rw [hs] at hA ⊢
 refine Calls.evalArgs_plain (thn hA fun us s1 ⟨vs,H1,I1,r1,v,ev,φ1,st1,t1,rs1,re1,h1⟩=>?_)
 subst ev
 refine ⟨rfl,by rw [<- r1.length];show 1<=sizeLine;decide,I1.bk _ _ hC,hN.keeps I1.bk,TL.keeps I1.bk,fun h' e' hx=>?_⟩
 exact h1 σ φ1 H1 _ _ .rfl re1 (.inr (.inl ⟨hmay,pins,H1,s1,φ1,h',e',us,I1,.rfl,rs1,hx,rfl,rfl⟩))
theorem zy {k:Nat}(Z:RaiseK X.K X.mg (S.cl k) x)(hmay:S.may=true)(hc:X.calm=true)(hg:Gl X x)(ha:KqE X a (tE S X ca))
  (hs:starEach [a] X.env=(false,eval a X.env)::starEach [] X.env:=by rfl) (hpl:(backTo cpos (starEach [] X.env)).any (·.1)=false:=by rfl) (hdb:(x == ("__debug__":Str))=false:=by decide) :
  KqS X (.Raise (some (.Call (.Name x np) [a] [] cpos)) none pos) (tS S X (.raise k ca)):=by with_unfolding_all exact zio Z hmay hc hg ha hs hpl hdb
noncomputable def tyZ (cl:Nat->Addr):Ty->Value
 | .cls d=>.ref (cl d)
 |_=>.type "ValueError"
noncomputable def tyZV (cl:Nat->Addr):Ty->V
 | .cls d=>.ref (cl d)
 |_=>.ty "ValueError"
theorem zfw {cl:Nat->Addr}{t:Ty}{c:Value}(r:RelV (tyZV cl t) c):c=tyZ cl t:=by
 cases t <;> exact r
theorem zgA:bootBuiltins "ValueError"=some (.type "ValueError"):=by decide +kernel
theorem zmb {d:Nat}{cl:Nat->Addr}(hg:Gl X x)(hm:X.mg x=some (.ref (cl d)))(hd:(x == ("__debug__":Str))=false:=by decide):PE X (.Name x pos) (tC (tyZV cl (.cls d))):=zgS hg hm rfl hd
theorem zw {d:Nat}{cl:Nat->Addr}(hg:Gl X x)(hm:X.mg x=some (.ref (cl d)))(hd:(x == ("__debug__":Str))=false:=by decide):KqE X (.Name x pos) (tC (tyZV cl (.cls d))):=by with_unfolding_all exact zmb hg hm hd
theorem zle {cl:Nat->Addr}(hg:Gl X "ValueError")(hm:X.mg "ValueError"=none):PE X (.Name "ValueError" pos) (tC (tyZV cl .val)):=zhn hg hm zgA rfl
theorem zix {cl:Nat->Addr}(hg:Gl X "ValueError")(hm:X.mg "ValueError"=none):KqE X (.Name "ValueError" pos) (tC (tyZV cl .val)):=by with_unfolding_all exact zle hg hm
def IsxK (K:PySem.W.Frag)(cl:Nat->Addr)(c:Nat)(t:Ty):Prop:=PySem.W.kitOne K (.ref (cl c)) (tyZ cl t)=some (isTy (.exn c) t)
theorem zhB {K:PySem.W.Frag}{cl:Nat->Addr}{c:Nat}:∀{ts:List Ty},(∀t∈ts,IsxK K cl c t)->PySem.W.kitAny K (.ref (cl c)) (ts.map (tyZ cl))=some (ts.any (isTy (.exn c)))
 | [],_=>rfl
 |t::ts,h=>by
  have ht:=h t List.mem_cons_self
  unfold IsxK at ht
  rw [List.map_cons,PySem.W.kitAny,ht,List.any_cons]
  cases isTy (.exn c) t with
  |true=>rfl
  |false=>exact zhB fun t' h'=>h t' (List.mem_cons_of_mem _ h')
noncomputable abbrev gaE:=PySem.F.attr_ValueError.ga
theorem zjk {cs:List Nat}{ts:List Ty}{v z:PV}(h:isxV cs v ts=some z):∃c,v=.exn c/\c∈cs/\z=.bl (ts.any (isTy (.exn c))):=by
 cases v with
 |exn c =>
  simp only [isxV] at h
  split at h
  ·rename_i q
   exact ⟨c,rfl,by simpa using q,(Option.some.inj h).symm⟩
  ·cases h
 |_=>cases h
noncomputable def rIsx (S:Se)(X:Cx)(cs:List Nat)(t:Ty):List V->Hp->VK->Prop:=fun xs H Q=>∃B φ st v x z,xs=[x,tyZV S.cl t]/\RepS X.K S.cl B φ H st/\RepV X.K S.cl B φ H v x/\isxV cs v [t]=some z /\
 ∀z' H' φ',Step φ H φ' H'->RepS X.K S.cl B φ' H' st->RepV X.K S.cl B φ' H' z z'->Q z' H'
theorem zlY {cs:List Nat}{t:Ty}(Z:∀c∈cs,ExcK X.K (S.cl c)/\IsxK X.K S.cl c t):CallR X (.builtin "isinstance") (rIsx S X cs t):=by
 rintro pins s σ H xs us Q I r ⟨B,φ,st,v,x,z,rfl,rs,rv,e,q⟩
 obtain ⟨u,c',rfl,ru,rc⟩:=vals2 r
 obtain ⟨c,rfl,hc,rfl⟩:=zjk e
 cases zfw rc
 simp only [RepV] at rv
 obtain ⟨a,rfl,hH,_,_⟩:=rv
 cases (show u=Value.ref a from ru)
 obtain ⟨Z1,Z2⟩:=Z c hc
 have p:ExcO a (S.cl c) s.heap:=(I.hok a _ hH).1
 exact PySem.W.kia_one (zfK Z1 gaE) I.kIn p Z2 (fun z=>nomatch z) fun tk=>⟨.bl _,H,I.tok tk,rfl,q _ H φ .rfl rs (by simp [RepV])⟩
theorem zkN {cs:List Nat}{t:Ty}{en:Expr}(Z:∀c∈cs,ExcK X.K (S.cl c)/\IsxK X.K S.cl c t)(hg:Gl X "isinstance")(hm:X.mg "isinstance"=none)(hn:PE X en (tC (tyZV S.cl t)))(ha:PE X a (tE S X ca))
  (he:starEach [a,en] X.env=(false,eval a X.env)::starEach [en] X.env:=by rfl) (he2:starEach [en] X.env=(false,eval en X.env)::starEach [] X.env:=by rfl) (hpl:(backTo pos (starEach [en] X.env)).any (·.1)=false:=by rfl) :
  PE X (.Call (.Name "isinstance" p) [a,en] [] pos) (tE S X (.isx ca cs [t])) :=
 (zcm (zlY Z) hg hm PyProof.Rows.boot_isinstance (zae ha (zae hn pa_nil he2) he) (by decide) (by decide) he hpl).imp fun σ H Q ⟨B,φ,st,ρ,rs,re,h⟩=>by
  simp only [ev] at h
  refine tE.bind rs re h fun x H1 v st1 φ1 s1 rs1 re1 rv h1=>?_
  obtain ⟨z,e,q⟩:=zac h1 rs1
  exact ⟨B,φ1,st1,v,x,z,rfl,rs1,rv,e,q⟩
theorem zK {cs:List Nat}{t:Ty}{en:Expr}(Z:∀c∈cs,ExcK X.K (S.cl c)/\IsxK X.K S.cl c t)(hg:Gl X "isinstance")(hm:X.mg "isinstance"=none)(hn:KqE X en (tC (tyZV S.cl t)))(ha:KqE X a (tE S X ca))
  (he:starEach [a,en] X.env=(false,eval a X.env)::starEach [en] X.env:=by rfl) (he2:starEach [en] X.env=(false,eval en X.env)::starEach [] X.env:=by rfl) (hpl:(backTo pos (starEach [en] X.env)).any (·.1)=false:=by rfl) :
  KqE X (.Call (.Name "isinstance" p) [a,en] [] pos) (tE S X (.isx ca cs [t])):=by with_unfolding_all exact zkN Z hg hm hn ha he he2 hpl
noncomputable abbrev tNs (vs:List V):TA:=fun _ H Q=>Q vs H
theorem zlp:PA X [] (tNs []):=pa_nil.imp fun σ H Q h=>h
theorem zfN:KqA X [] (tNs []):=by with_unfolding_all exact zlp
theorem zjU {v:V}{vs:List V}(h:PE X e (tC v))(t:PA X es (tNs vs))(he:starEach (e::es) X.env=(false,eval e X.env)::starEach es X.env:=by rfl):PA X (e::es) (tNs (v::vs)):=(zae h t he).imp fun σ H Q h=>h
theorem zL {v:V}{vs:List V}(h:KqE X e (tC v))(t:KqA X es (tNs vs))(he:starEach (e::es) X.env=(false,eval e X.env)::starEach es X.env:=by rfl):KqA X (e::es) (tNs (v::vs)):=by with_unfolding_all exact zjU h t he
theorem zg1 {cl:Nat->Addr}:∀{ts:List Ty} {us:List Value},Vals (ts.map (tyZV cl)) us->us=ts.map (tyZ cl)
 | [],us,h=>by cases h;rfl
 |t::ts,us,h=>by
  cases h with
  |cons r q=>rw [zfw r,zg1 q];rfl
noncomputable def rIsxT (S:Se)(X:Cx)(cs:List Nat)(ts:List Ty):List V->Hp->VK->Prop:=fun xs H Q=>∃B φ st v x z p,xs=[x,.ref p]/\H p=some (.tup (ts.map (tyZV S.cl)))/\RepS X.K S.cl B φ H st/\RepV X.K S.cl B φ H v x/\isxV cs v ts=some z /\
 ∀z' H' φ',Step φ H φ' H'->RepS X.K S.cl B φ' H' st->RepV X.K S.cl B φ' H' z z'->Q z' H'
theorem zks {cs:List Nat}{ts:List Ty}(Z:∀c∈cs,ExcK X.K (S.cl c)/\∀t∈ts,IsxK X.K S.cl c t):CallR X (.builtin "isinstance") (rIsxT S X cs ts):=by
 rintro pins s σ H xs us Q I r ⟨B,φ,st,v,x,z,p,rfl,hp,rs,rv,e,q⟩
 obtain ⟨u,c',rfl,ru,rc⟩:=vals2 r
 obtain ⟨c,rfl,hc,rfl⟩:=zjk e
 cases (show c'=Value.ref p from rc)
 simp only [RepV] at rv
 obtain ⟨a,rfl,hH,_,_⟩:=rv
 cases (show u=Value.ref a from ru)
 obtain ⟨Z1,Z2⟩:=Z c hc
 have pp:ExcO a (S.cl c) s.heap:=(I.hok a _ hH).1
 obtain ⟨_,its,r2,⟨oc,od,odt,osl⟩,g,hcl,n,hd⟩:=(show ObjOk X.prog X.w H s.heap p (.tup (ts.map (tyZV S.cl))) from I.hok p _ hp)
 have:=zg1 r2
 dsimp only at hcl hd
 subst hcl hd this
 exact PySem.W.kia_tup (zfK Z1 gaE) I.kIn pp g (zhB Z2) (fun z=>nomatch z) fun tk=>⟨.bl _,H,I.tok tk,rfl,q _ H φ .rfl rs (by simp [RepV])⟩
theorem zkc {cs:List Nat}{ts:List Ty}{k:Nat}{tp:Pos}(Z:∀c∈cs,ExcK X.K (S.cl c)/\∀t∈ts,IsxK X.K S.cl c t)(hz:ts.length<=1000)(hg:Gl X "isinstance")(hm:X.mg "isinstance"=none)(hn:PA X es (tNs (ts.map (tyZV S.cl))))(ha:PE X a (tE S X ca))
  (he:starEach [a,.Tuple es k tp] X.env=(false,eval a X.env)::starEach [.Tuple es k tp] X.env:=by rfl) (he2:starEach [.Tuple es k tp] X.env=(false,eval (.Tuple es k tp) X.env)::starEach [] X.env:=by rfl) (hpl:(backTo pos (starEach [.Tuple es k tp] X.env)).any (·.1)=false:=by rfl) :
  PE X (.Call (.Name "isinstance" p) [a,.Tuple es k tp] [] pos) (tE S X (.isx ca cs ts)) :=
 (zcm (zks Z) hg hm PyProof.Rows.boot_isinstance (zae ha (zae (zjd hn) pa_nil he2) he) (by decide) (by decide) he hpl).imp fun σ H Q ⟨B,φ,st,ρ,rs,re,h⟩=>by
  simp only [ev] at h
  refine tE.bind rs re h fun x H1 v st1 φ1 s1 rs1 re1 rv h1=>?_
  obtain ⟨z,e,q⟩:=zac h1 rs1
  refine ⟨by rw [List.length_map,sizeLine_eq];omega,fun pp hp=>?_⟩
  have s2:Step φ1 H1 φ1 (upd H1 pp (.tup (ts.map (tyZV S.cl)))):=.upd hp
  exact ⟨B,φ1,st1,v,x,z,pp,rfl,zE,rs1.upd hp,rv.step s2,e,fun z' H' φ' s'=>q z' H' φ' (s2.trans s')⟩
theorem zes {cs:List Nat}{ts:List Ty}{k:Nat}{tp:Pos}(Z:∀c∈cs,ExcK X.K (S.cl c)/\∀t∈ts,IsxK X.K S.cl c t)(hz:ts.length<=1000)(hg:Gl X "isinstance")(hm:X.mg "isinstance"=none)(hn:KqA X es (tNs (ts.map (tyZV S.cl))))(ha:KqE X a (tE S X ca))
  (he:starEach [a,.Tuple es k tp] X.env=(false,eval a X.env)::starEach [.Tuple es k tp] X.env:=by rfl) (he2:starEach [.Tuple es k tp] X.env=(false,eval (.Tuple es k tp) X.env)::starEach [] X.env:=by rfl) (hpl:(backTo pos (starEach [.Tuple es k tp] X.env)).any (·.1)=false:=by rfl) :
  KqE X (.Call (.Name "isinstance" p) [a,.Tuple es k tp] [] pos) (tE S X (.isx ca cs ts)):=by with_unfolding_all exact zkc Z hz hg hm hn ha he he2 hpl
noncomputable def tJ (S:Se)(X:Cx)(c:Ces):TJ:=fun out σ H Q=>∃B φ st ρ,RepS X.K S.cl B φ H st/\RepE X.K S.cl B φ H ρ σ/\∃vs st' z,evs S.call ρ st c=.ok vs st'/\fstJ out vs=some z/\∀H' φ',Step φ H φ' H'->RepS X.K S.cl B φ' H' st'->Q (.str z) H'
noncomputable def tF (S:Se)(X:Cx)(c:Ce):TE:=fun σ H Q=>∃B φ st ρ,RepS X.K S.cl B φ H st/\RepE X.K S.cl B φ H ρ σ/\∃v st' y,ev S.call ρ st c=.ok v st'/\fstS v=some y/\∀H' φ',Step φ H φ' H'->RepS X.K S.cl B φ' H' st'->Q (.str y) H'
theorem zlg (h:PE X e (tE S X ce)):PE X (.FormattedValue e (-1) none pos) (tF S X ce):=by
 intro pins s σ H Q I ⟨B,φ,st,ρ,rs,re,v,st',y,e1,e2,q⟩
 refine FormattedValue_plain (thn (h pins s σ H (fun x H1=>∃φ1,Step φ H φ1 H1/\RepS X.K S.cl B φ1 H1 st'/\RepV X.K S.cl B φ1 H1 v x) I ⟨B,φ,st,ρ,rs,re,by rw [e1];exact fun x H' φ' t r rv=>⟨φ',t,r,rv⟩⟩) fun u s1 ⟨x,H1,I1,r1,φ1,t1,rs1,rv⟩=>?_)
 cases v with
 |int i =>
  simp only [RepV] at rv
  subst rv
  obtain ⟨tk,rfl⟩:=r1
  simp only [fstS] at e2
  split at e2
  ·rename_i hd
   cases e2
   exact formatField_int_small hd ⟨.str _,H1,I1.tok _,⟨_,rfl⟩,q H1 φ1 t1 rs1⟩
  ·cases e2
 |str z =>
  simp only [RepV] at rv
  subst rv
  obtain ⟨tk,rfl⟩:=r1
  simp only [fstS] at e2
  split at e2
  ·rename_i hd
   cases e2
   exact formatField_str (fun t' tk=>⟨.str _,H1,I1.tok _,⟨_,rfl⟩,q H1 φ1 t1 rs1⟩) (by rw [sizeLine_eq];exact hd)
  ·cases e2
 |_=>cases e2
theorem zdH (h:KqE X e (tE S X ce)):KqE X (.FormattedValue e (-1) none pos) (tF S X ce):=by with_unfolding_all exact zlg h
theorem zkU {y:Str}{j:Nat}:PE X (.Constant (.str y) j pos) (tF S X (.cst (.str y))):=pe_str.imp fun σ H Q ⟨B,φ,st,ρ,rs,re,v,st',z,e1,e2,q⟩=>by
 simp only [ev] at e1
 cases e1
 simp only [fstS] at e2
 split at e2
 ·cases e2;exact q H φ .rfl rs
 ·cases e2
theorem zfy {y:Str}{j:Nat}:KqE X (.Constant (.str y) j pos) (tF S X (.cst (.str y))):=by with_unfolding_all exact zkU
theorem zjc:PJ X [] (tJ S X .nil):=fun out pins s σ H Q I ⟨B,φ,st,ρ,rs,re,vs,st',z,e1,e2,q⟩=>by
 simp only [evs] at e1
 cases e1
 simp only [fstJ] at e2
 split at e2
 ·rename_i hz
  cases e2
  exact zlS out pins s σ H Q I ⟨by rw [sizeLine_eq];exact hz,q H φ .rfl rs⟩
 ·cases e2
theorem zkb (he:PE X e (tF S X ce))(hr:PJ X es (tJ S X ces))(hs:evalEach (e::es) X.env=eval e X.env::evalEach es X.env:=by rfl):PJ X (e::es) (tJ S X (.cons ce ces)):=fun out pins s σ H Q I ⟨B,φ,st,ρ,rs,re,vs,st',z,e1,e2,q⟩=>by
 simp only [evs] at e1
 cases e3:ev S.call ρ st ce with
 |ok v st1 =>
  rw [e3] at e1
  simp only [R.bind] at e1
  cases e4:evs S.call ρ st1 ces with
  |ok ws st2 =>
   rw [e4] at e1
   simp only at e1
   cases e1
   simp only [fstJ] at e2
   cases e5:fstS v with
   |none=>rw [e5] at e2;cases e2
   |some y =>
    rw [e5] at e2
    simp only at e2
    split at e2
    ·rename_i hz
     refine zkm he hr hs out pins s σ H Q I ⟨B,φ,st,ρ,rs,re,v,st1,y,e3,e5,fun H' φ' t1 rs1=>⟨y,rfl,by rw [sizeLine_eq];exact hz,B,φ',st1,ρ,rs1,re.step t1,ws,st',z,e4,e2,fun H2 φ2 t2 rs2=>q H2 φ2 (t1.trans t2) rs2⟩⟩
    ·cases e2
  |exc c st2=>rw [e4] at e1;cases e1
  |bad=>rw [e4] at e1;cases e1
 |exc c st1=>rw [e3] at e1;cases e1
 |bad=>rw [e3] at e1;cases e1
theorem zaW (he:KqE X e (tF S X ce))(hr:PJ X es (tJ S X ces))(hs:evalEach (e::es) X.env=eval e X.env::evalEach es X.env:=by rfl):PJ X (e::es) (tJ S X (.cons ce ces)):=by with_unfolding_all exact zkb he hr hs
theorem zk8 {v1 v2:Expr}{rest:List Expr}(h:PJ X (v1::v2::rest) (tJ S X ces)):PE X (.JoinedStr (v1::v2::rest) pos) (tE S X (.fst ces)):=(zhE h).imp fun σ H Q ⟨B,φ,st,ρ,rs,re,h⟩=>by
 simp only [ev] at h
 cases e1:evs S.call ρ st ces with
 |ok vs st1 =>
  rw [e1] at h
  simp only [fstR] at h
  cases e2:fstJ Str.empty vs with
  |none=>rw [e2] at h;exact h.elim
  |some z =>
   rw [e2] at h
   exact ⟨B,φ,st,ρ,rs,re,vs,st1,z,e1,e2,fun H' φ' t r=>h _ H' φ' t r (by simp only [RepV])⟩
 |exc c st1=>rw [e1] at h;exact h.elim
 |bad=>rw [e1] at h;exact h.elim
theorem zfs {v1 v2:Expr}{rest:List Expr}(h:PJ X (v1::v2::rest) (tJ S X ces)):KqE X (.JoinedStr (v1::v2::rest) pos) (tE S X (.fst ces)):=by with_unfolding_all exact zk8 h
end
theorem zcc:fillsNumberSlot (.type "tuple") "mul"=pure false :=
 PySem.fillsNumberSlot_seq (id:="tuple.__mul__") (r:=some (.builtin "tuple.__rmul__")) PySem.F.slot_tuple_mul.lookup (by decide +kernel) PySem.F.slot_tuple_rmul.lookup (by decide +kernel)
theorem zep:seqRepeat? (.type "tuple")=pure (some (.builtin "tuple.__mul__")):=by
 unfold seqRepeat?
 rw [PySem.seqSlot_of (T:="tuple") (name:="__mul__") (id:="tuple.__mul__") PySem.F.slot_tuple_mul.lookup (by decide +kernel),PySem.seqSlot_of (T:="tuple") (name:="__rmul__") (id:="tuple.__rmul__") PySem.F.slot_tuple_rmul.lookup (by decide +kernel)]
 rfl
theorem zdd (a:Int)(t:Tok)(l:Addr)(items:Array Value)(n:Nat)(dd:Option Addr)(sl:Array (Option Value)) :
  Meets (Builtin.«int.__rmul__» ⟨[.int a t,.ref l],[]⟩) (fun _ R s=>s.heap.get? l=some { cls:=.type "tuple",dict:=dd,data:=.seq items n,slots:=sl }/\R (.ok (.ret Value.notImplemented)) s) :=
 .of_wp fun prog w A R s h=>by obtain ⟨hp,g,d,tk,os⟩:=s;obtain ⟨hl,h⟩:=h;wp_walk;exact ⟨_,rfl,h⟩
theorem zf4 (l:Addr)(items:Array Value)(n:Nat)(dd:Option Addr)(sl:Array (Option Value))(x:Int)(u:Tok)(hc0:¬(decide (x < -(2 ^ 63)) || decide (x ≥ 2 ^ 63))=true)(hc1:¬(items.isEmpty || x == 1)=true)(hc2:¬(decide (x<=0) || items.isEmpty)=true)(hc3:¬(items.size:Int)*x > (2 ^ 63 - 1) / 8)(hc4:¬Builtin.Tuple.tupleTooMany ((items.size:Int)*x)=true)
  (hsz:((List.replicate x.toNat items).foldl (·++·) #[]).size<=sizeLine) :
  Meets (Builtin.«tuple.__mul__» ⟨[.ref l,.int x u],[]⟩) (fun _ R s=>s.heap.get? l=some { cls:=.type "tuple",dict:=dd,data:=.seq items n,slots:=sl }/\R (.ok (.ret (Value.ref s.heap.objs.size))) { s with heap:=s.heap.push { cls:=Value.type "tuple",data:=Data.seq ((List.replicate x.toNat items).foldl (·++·) #[]) },toks:=s.toks }) :=
 .of_wp fun prog w A R s h=>by
  obtain ⟨hp,g,d,tk,os⟩:=s;obtain ⟨hl,h⟩:=h
  have f1:=AutoSeq1.idx_int;have f2:=AutoSeq1.sub_tuple_tuple
  have ht:IsTup (⟨hp,g,d,tk,os⟩:Shared).heap l items:=⟨_,hl,rfl,n,rfl⟩
  wp_walk
  rw [if_neg hc0]
  refine wpAny_bind (PyProof.Rows.tupleItemsOf_ ht ?_)
  rw [if_neg hc1]
  rw [if_neg hc2]
  rw [if_neg hc3]
  rw [if_neg hc4]
  exact wpAny_bind (m:=Builtin.Tuple.tupleExact _) (wpAny_newObj_type (wpAny_pure ⟨_,rfl,h⟩) hsz)
theorem zdp (its:List Value):∀k:Nat,(List.replicate k its.toArray).foldl (·++·) #[]=((List.replicate k its).flatten).toArray:=fun k=>by
 have:=listMul_foldl its.toArray k #[]
 simpa using this
theorem Vals.repN {xs:List V}{us:List Value}(r:Vals xs us):∀k:Nat,Vals (List.replicate k xs).flatten (List.replicate k us).flatten
 |0=>.nil
 |k+1=>by
  rw [List.replicate_succ,List.replicate_succ,List.flatten_cons,List.flatten_cons]
  exact r.append (Vals.repN r k)
section
variable {S:Se}{X:Cx}{p pos p2 px apos:Pos}{a b:Expr}{ca cb:Ce}
theorem zj9:OpR X (binaryOp .Mult) (fun x y H Q=>∃a xs n,x=.ref a/\y=.int n/\SqT X.K H a xs/\xs≠[]/\2<=n/\n<=1000/\xs.length<=1000/\∀p,H p=none->Q (.ref p) (upd H p (.tup (List.replicate n.toNat xs).flatten))):=by
 intro pins s σ H x y v u Q I rx ry h
 obtain ⟨a,xs,n,rfl,rfl,ha,hx,h2,hn,hz,q⟩:=h
 cases rx
 obtain ⟨t,rfl⟩:=ry
 obtain ⟨its,r1,p1,_⟩:=I.tuple ha
 obtain ⟨⟨cls,dd,data,sl⟩,ho,hc,m,hd⟩:=id p1
 simp only at hc hd
 subst hc hd
 have hl:=r1.length
 have hne:its≠[]:=fun z=>hx (r1.nil_iff.mp z)
 have hmul:its.length*n.toNat<=1000*1000:=Nat.mul_le_mul (by omega) (by omega)
 have hmulI:(its.length:Int)*n<=1000000:=by
  have:((its.length*n.toNat:Nat):Int)=(its.length:Int)*n:=by rw [Int.natCast_mul,Int.toNat_of_nonneg (by omega)]
  omega
 have hfl:∀k,((List.replicate k its).flatten).length=k*its.length:=fun k=>by simp
 have hflx:((List.replicate n.toNat xs).flatten).length<=sizeLine:=by
  rw [List.length_flatten,sizeLine_eq]
  simp only [List.map_replicate,List.sum_replicate_nat]
  rw [hl,Nat.mul_comm]
  omega
 refine PySem.wpAny_binaryOp_repeat_ref (T:="tuple") (U:="int") (by decide) ⟨_,ho,rfl⟩ (fun s'=>typeIs_int s' n t) zcc PySem.F.fills_int_mul PySem.F.slot_int_rmul zep PySem.F.slot_int_index.lookup
  (call_meets PySem.F.slot_int_rmul (typeIs_int s n t) PySem.F.entry_int_rmul (PySem.F.args_int_rmul_2 _ _) (zdd n t a its.toArray m dd sl)
   ⟨ho,rfl,⟨_,ho,rfl⟩,call_meets PySem.F.slot_tuple_mul ⟨_,ho,rfl⟩ PySem.F.entry_tuple_mul (PySem.F.args_tuple_mul_2 _ _)
    (zf4 a its.toArray m dd sl n t (by simp;omega) (by simp [hne];omega) (by simp [hne];omega) (by simp only [List.size_toArray];omega) (by simp only [Builtin.Tuple.tupleTooMany,List.size_toArray];simp [sizeLine_eq];omega) (by rw [zdp,List.size_toArray,hfl,sizeLine_eq,Nat.mul_comm];omega)) ⟨ho,?_⟩⟩)
 rw [zdp]
 refine ⟨.ref s.heap.objs.size,_,I.laid (t':=s.toks) (o:=.tup (List.replicate n.toNat xs).flatten) (fun b ob q=>Heap.get?_push_of_some _ q) (Nat.le_refl _) ?_,rfl,q _ (I.hok.fresh (Nat.le_refl _))⟩
 exact ⟨hflx,_,r1.repN n.toNat,IsTup.new _ _⟩
theorem RepL.rep {K:PySem.W.Frag}{cl:Nat->Addr}{B:Addr->Prop}{φ:Ph}{H:Hp}{vs:List PV}{xs:List V}(l:RepL K cl B φ H vs xs):∀k:Nat,RepL K cl B φ H (List.replicate k vs).flatten (List.replicate k xs).flatten
 |0=>by simp [RepL]
 |k+1=>by
  rw [List.replicate_succ,List.replicate_succ,List.flatten_cons,List.flatten_cons]
  exact l.append (RepL.rep l k)
theorem zek (a:Array Nat):∀(k:Nat) (acc:Array Nat),((List.replicate k a).foldl (·++·) acc).toList=acc.toList++(List.replicate k a.toList).flatten
 |0,acc=>by simp
 |k+1,acc=>by
  rw [List.replicate_succ,List.foldl_cons,zek a k (acc++a)]
  simp [List.replicate_succ]
theorem zlU {x:Str}{n:Int}(h1:1<=n)(h2:1<=x.length):Txt.mul x n=⟨(List.replicate n.toNat x.cps.toList).flatten.toArray⟩:=by
 unfold Txt.mul
 rw [if_neg (by omega)]
 by_cases q:n=1
 ·subst q
  rw [if_pos (by simp)]
  cases x
  simp
 ·have:(n == 1 || x.length == 0)=false:=by simp [q];omega
  rw [if_neg (by rw [this];simp)]
  congr 1
  apply Array.toList_inj.mp
  rw [zek]
  simp
theorem zjG {x:Str}{n:Int}(h1:1<=n)(h2:n<=1000)(h3:x.length<=1000)(h4:1<=x.length){pins:List (Addr×Obj)}{s:Shared}{σ:St}{H:Hp}{t u:Tok}{Q:VK}(I:Inv X pins σ H s)(q:Q (.str ⟨(List.replicate n.toNat x.cps.toList).flatten.toArray⟩) H) :
  wpAny (model X.prog X.w) X.A (binaryOp .Mult (.str x t) (.int n u)) (EP X pins σ Q) X.xe s:=by
 have hm:x.length*n.toNat<=1000*1000:=Nat.mul_le_mul h3 (by omega)
 refine SB.mul ⟨by rw [decide_eq_false (by omega),decide_eq_false (by omega)];rfl,fun _ _=>?_,fun _ _=>?_⟩ fun t' k=>?_
 ·have h5:(x.length:Int)*n<=1000*1000:=Int.mul_le_mul (by omega) h2 (by omega) (by omega)
  have:=(Int.le_ediv_iff_mul_le (a:=(x.length:Int)) (b:=2 ^ 63 - 1) (show (0:Int)<n by omega)).2 (by omega)
  omega
 ·unfold Builtin.Str.tooLong
  rw [sizeLine_eq]
  exact decide_eq_false (by omega)
 ·rw [zlU h1 h4]
  exact ⟨.str _,H,I.tok k,⟨_,rfl⟩,q⟩
theorem zkV:OpR X (binaryOp .Mult) (rT2 S X repV):=by
 rintro pins s σ H x y v u Q I rx ry ⟨B,φ,st,a,b,z,rs,ra,rb,e,q⟩
 unfold repV at e
 split at e
 ·rename_i a n
  split at e
  ·rename_i c
   cases e
   simp only [RepV] at ra rb
   subst ra rb
   obtain ⟨t1,rfl⟩:=rx
   obtain ⟨t2,rfl⟩:=ry
   exact zjG c.1 c.2.1 c.2.2.1 c.2.2.2 I (q _ H φ .rfl rs (by simp only [RepV]))
  ·cases e
 ·rename_i k vs n
  split at e
  ·rename_i c
   cases e
   simp only [RepV] at ra rb
   subst rb
   obtain ⟨p,xs,rfl,rt,l⟩:=ra
   have hl:=l.length
   refine zj9 pins s σ H _ _ v u Q I rx ry ⟨p,xs,n,rfl,rfl,rt.sq,?_,c.1,c.2.1,by rw [<- hl];exact c.2.2.2,fun t ht=>q _ _ φ (.upd ht) (rs.upd ht) (.tup_new ht rs (l.rep n.toNat))⟩
   rintro rfl
   cases vs with
   |nil=>exact absurd c.2.2.1 (by simp)
   |cons _ _=>simp at hl
  ·cases e
 ·cases e
theorem zkW (ha:PE X a (tE S X ca))(hb:PE X b (tE S X cb)):PE X (.BinOp a .Mult b pos) (tE S X (.rep ca cb)) :=
 (zlQ zkV ha hb).imp fun σ H Q ⟨B,φ,st,ρ,rs,re,h⟩=>by
  simp only [ev] at h
  refine tE.bind rs re h fun x H1 v st1 φ1 s1 rs1 re1 rv h1=>tE.bind rs1 re1 h1 fun y H2 w st2 φ2 s2 rs2 re2 rw h2=>?_
  obtain ⟨z,e,q⟩:=zac h2 rs2
  exact ⟨B,φ2,st2,v,w,z,rs2,rv.step s2,rw,e,q⟩
theorem zh3 (ha:KqE X a (tE S X ca))(hb:KqE X b (tE S X cb)):KqE X (.BinOp a .Mult b pos) (tE S X (.rep ca cb)):=by with_unfolding_all exact zkW ha hb
def GCI (mg:Str->Option Value)(x:Str)(i:Int):Prop:=∃t,mg x=some (.int i t)
theorem zkL {x:Str}{i:Int}(hg:Gl X x)(h:GCI X.mg x i)(hd:(x == ("__debug__":Str))=false:=by decide):PE X (.Name x pos) (tE S X (.cst (.int i))):=by
 obtain ⟨t,hm⟩:=h
 exact (zgS hg hm (show RelV (.int i) (.int i t) from ⟨t,rfl⟩) hd).imp fun σ H Q ⟨B,φ,st,ρ,rs,re,h⟩=>by
  simp only [ev] at h
  exact h.ok rs (by simp only [RepV])
theorem zdN {x:Str}{i:Int}(hg:Gl X x)(h:GCI X.mg x i)(hd:(x == ("__debug__":Str))=false:=by decide):KqE X (.Name x pos) (tE S X (.cst (.int i))):=by with_unfolding_all exact zkL hg h hd
end
end L2
namespace IC
open PySem
noncomputable def glue (c:Nat):List (List Nat)->List Nat
 | []=>[]
 | [p]=>p
 |p::q::r=>p++c::glue c (q::r)
theorem zcI {c:Nat}:∀{p:List Nat},c∉p->splitL c p=[p]
 | [],_=>rfl
 |x::p,h=>by
  have h1:¬x=c:=fun e=>h (by simp [e])
  simp only [splitL,if_neg h1,zcI (fun e=>h (List.mem_cons_of_mem _ e):c∉p)]
theorem zdr {c:Nat}:∀{p:List Nat} (r:List Nat),c∉p->splitL c (p++c::r)=p::splitL c r
 | [],r,_=>by simp [splitL]
 |x::p,r,h=>by
  have h1:¬x=c:=fun e=>h (by simp [e])
  simp only [List.cons_append,splitL,if_neg h1,zdr r (fun e=>h (List.mem_cons_of_mem _ e):c∉p)]
theorem zde {c:Nat}:∀{ps:List (List Nat)},ps≠[]->(∀p∈ps,c∉p)->splitL c (glue c ps)=ps
 | [],h,_=>absurd rfl h
 | [p],_,h=>by simp only [glue];exact zcI (h p (by simp))
 |p::q::r,_,h=>by
  simp only [glue]
  rw [zdr _ (h p (by simp)),zde (by simp) fun x hx=>h x (List.mem_cons_of_mem _ hx)]
theorem zbr (a b:Str):(a++b).cps.toList=a.cps.toList++b.cps.toList:=by
 show (a.cps++b.cps).toList=_
 simp
theorem zbv (c:Nat):∀ys:List Str,(Str.join ⟨#[c]⟩ ys).cps.toList=glue c (ys.map (·.cps.toList))
 | []=>rfl
 | [y]=>rfl
 |y::z::r=>by
  simp only [Str.join,List.map_cons,glue]
  rw [zbr,zbr,zbv c (z::r)]
  simp
theorem zaQ {a b:Str}(h:a.cps.toList=b.cps.toList):a=b:=by
 cases a;cases b
 simp only [Str.mk.injEq]
 exact Array.toList_inj.mp h
theorem zi7 (x:Str)(c:Nat):Txt.split x ⟨#[c]⟩=(splitL c x.cps.toList).map fun l=>⟨l.toArray⟩:=by
 have h1:=StrLaws.join_split x ⟨#[c]⟩
 have h2:=StrLaws.split_free x c
 have h3:=PyProof.Rows.split_pos x ⟨#[c]⟩
 have h4:x.cps.toList=glue c ((Txt.split x ⟨#[c]⟩).map (·.cps.toList)):=by rw [<- zbv,h1]
 rw [h4,zde]
 ·rw [List.map_map]
  conv=>lhs;rw [<- List.map_id (Txt.split x ⟨#[c]⟩)]
  refine List.map_congr_left fun a _=>zaQ ?_
  simp
 ·intro e
  have:=congrArg List.length e
  simp at this
  rw [this] at h3
  simp at h3
 ·intro p hp
  obtain ⟨a,ha,rfl⟩:=List.mem_map.1 hp
  exact h2 a ha
end IC
namespace L2
open PySem PySem.Spec PyProof.Rows IC
noncomputable def ItC (x:Str):It:=⟨fun i _=>i<x.cps.size,fun i H v H'=>H'=H/\∃c,x.cps[i]?=some c/\v=.str ⟨#[c]⟩,fun i _=>x.cps.size<=i⟩
theorem zfT {P:Program}{w:World}{K:PySem.W.Frag}{tg:Expr}(it:Addr)(x:Str)(t:Tok)(nm:String)
  (hW:∀A:Around,A.handled=none->Walks P w A it [it] [it] x.cps.size (SignAt x) (fun i h=>h.IsStrIter it nm x t i)) (hI:∀A E (s:Shared) i Q,s.heap.IsStrIter it nm x t i->Q (.ref it) s->wpAny (model P w) A (pyIter (.ref it)) Q E s)
  (hn:["enumerate","zip","dict_itemiterator","dict_reverseitemiterator","odict_iterator","itertools.zip_longest","itertools.pairwise"].contains nm=false) :
  Turn P w K tg (ItC x) [it] it (fun i h=>i<=x.cps.size/\h.IsStrIter it nm x t i) where
 mem:=by simp
 obj:=fun i h st b hb=>by
  have e:b=it:=by simpa using hb
  subst e
  obtain ⟨_,o,e,c,d⟩:=st
  exact ⟨o,e,fun v z=>by rw [d] at z;cases z⟩
 keep:=fun i h h' st k=>by
  obtain ⟨l,o,e,r⟩:=st
  exact ⟨l,o,k it (by simp) o e,r⟩
 item:=by
  intro X hP hw hK hc i pins s σ H E I hf st hg
  subst hP hw hK
  obtain ⟨f0,f1,f2,f3,f4,f5⟩:=hf it (by simp)
  refine (hW X.A (I.ok.hd hc)).item i s _ _ hg st.2 fun v h' tk hv st' kk=>?_
  obtain ⟨c,u,hx,rfl⟩:=hv
  have I1:Inv X pins σ H { s with heap:=h',toks:=tk }:=I.turned (fun b o hb e=>kk b o (by simpa using hb) e) f0 f1 f3 f4 f5
  obtain ⟨o,e,cc,d⟩:=id st'
  exact ⟨_,rfl,zfY (s:={ s with heap:=h',toks:=tk }) e cc d hn ⟨.str ⟨#[c]⟩,H,I1,⟨u,rfl⟩,⟨rfl,c,hx,rfl⟩,⟨hg,st'⟩,fun b hb=>(hf b hb).1⟩⟩
 done:=by
  intro X hP hw hK hc i pins s σ H E I hf st hg
  subst hP hw hK
  obtain ⟨f0,f1,f2,f3,f4,f5⟩:=hf it (by simp)
  have e:i=x.cps.size:=Nat.le_antisymm st.1 hg
  subst e
  exact (hW X.A (I.ok.hd hc)).done s _ _ st.2 fun h' tk kk=>⟨rfl,I.turned (fun b o hb e=>kk b o (by simpa using hb) e) f0 f1 f3 f4 f5⟩
 self:=fun A i s Q E st h=>hI A E s i Q st.2 h
theorem ziI {X:Cx}{e tg:Expr}{te:TE}(he:PE X e te):PI X tg e (fun σ H R=>te σ H fun v H1=>∃x,v=.str x/\R (ItC x) H1):=by
 intro pins s σ H R I h
 refine thn (he pins s σ H _ I h) fun v s1 ⟨y,H1,I1,r1,q1⟩=>?_
 obtain ⟨x,rfl,q⟩:=q1
 obtain ⟨t,rfl⟩:=r1
 have fp:∀(o:Obj),∀b∈[s1.heap.objs.size],FpOk X pins H1 b:=fun o b hb=>by
  have e:b=s1.heap.objs.size:=by simpa using hb
  subst e
  exact I1.fpOk (Nat.le_refl _) (I1.hok.fresh (Nat.le_refl _))
 cases ha:x.cps.all (· < 128)
 ·refine wpAny_pyIter_wide ha ?_
  exact ⟨_,[s1.heap.objs.size],_,_,H1,rfl,I1.kept (t':=s1.toks) fun b o e=>Heap.get?_push_of_some _ e,zfT _ x t "str_iterator" (fun A hA=>Walks.strWide hA _ x t) (fun A E s i Q st h=>wpAny_pyIter_striter_wide st h) (by decide),⟨Nat.zero_le _,_,Heap.get?_push_size _ rfl,rfl,rfl⟩,fp default,q⟩
 ·refine wpAny_pyIter_ascii ha ?_
  exact ⟨_,[s1.heap.objs.size],_,_,H1,rfl,I1.kept (t':=s1.toks) fun b o e=>Heap.get?_push_of_some _ e,zfT _ x t "str_ascii_iterator" (fun A hA=>Walks.strAscii hA _ x t) (fun A E s i Q st h=>wpAny_pyIter_striter_ascii st h) (by decide),⟨Nat.zero_le _,_,Heap.get?_push_size _ rfl,rfl,rfl⟩,fp default,q⟩
section
variable {S:Se}{X:Cx}{σ:St}{B:Addr->Prop}{φ:Ph}{H:Hp}{p p2 pos pos2 apos:Pos}{a b tg:Expr}{ca cb:Ce}
theorem zgu {x:Str}:Drw S X B φ H (x.cps.toList.map fun c=>.str ⟨#[c]⟩) (ItC x):=by
 refine ⟨fun φ' H' s=>by simp [ItC],fun i φ' H' s hi=>by simpa [ItC] using hi,fun i φ' H' st v H2 B' hB s rs hi q=>?_⟩
 obtain ⟨rfl,c,hc,rfl⟩:=q
 refine ⟨.str ⟨#[c]⟩,?_,by simp only [RepV],fun _ _ e=>e⟩
 simp [hc]
theorem zim (hl:PE X a (tE S X ca)):PI X tg a (tI S X (.chars ca)) :=
 (ziI hl).imp fun σ H R ⟨B,φ,st,ρ,rs,re,h⟩=>by
  simp only [evi] at h
  refine tE.bind rs re h fun x H1 v st1 φ1 s1 rs1 re1 rv h1=>?_
  obtain ⟨xs,e,h1⟩:=zfg h1
  cases v with
  |str y =>
   simp only [charsV] at e
   split at e
   ·cases e
    simp only [RepV] at rv
    subst rv
    exact ⟨y,rfl,h1.ok rs1 zgu⟩
   ·cases e
  |_=>cases e
theorem zbN (hl:KqE X a (tE S X ca)):KqI X tg a (tI S X (.chars ca)):=by with_unfolding_all exact zim hl
theorem zid {k:Bool}{vs:List PV}{xs:List V}{y:Addr}(rt:RTup X.K B φ H k y xs)(l:RepL X.K S.cl B φ H vs xs):Drw S X B φ H vs.reverse (ItR X.K y xs.length):=by
 have hl:=l.length
 refine ⟨fun φ' H' s=>by rw [List.length_reverse];exact (show xs.length<=vs.length by omega),fun i φ' H' s hi=>?_,fun i φ' H' st x H2 B' hB s rs hi q=>?_⟩
 ·rw [List.length_reverse] at hi
  exact ⟨xs,xs.reverse[i]'(by simp;omega),(rt.step s).sq,rfl,List.getElem?_eq_getElem _⟩
 ·rw [List.length_reverse] at hi
  obtain ⟨rfl,q⟩:=q
  obtain ⟨v,hv⟩:∃v,vs.reverse[i]?=some v:=⟨vs.reverse[i]'(by simp;omega),List.getElem?_eq_getElem _⟩
  have h2:=(zbO (q xs (rt.step s).sq)).2
  obtain ⟨x',hx',rv⟩:=l.get _ (zbO hv).2
  rw [show xs.length - 1 - i=vs.length - 1 - i by omega,hx'] at h2
  cases h2
  exact ⟨v,hv,(rv.moreB hB).step s,fun _ _ e=>e⟩
theorem ziS {vs:List PV}{xs:List V}{y:Addr}(rt:RLst B φ H y xs)(l:RepL X.K S.cl B φ H vs xs):Drw S X B φ H vs.reverse (ItS X.K y xs.length):=by
 have hl:=l.length
 refine ⟨fun φ' H' s=>by rw [List.length_reverse];exact (show xs.length<=vs.length by omega),fun i φ' H' s hi=>?_,fun i φ' H' st x H2 B' hB s rs hi q=>?_⟩
 ·rw [List.length_reverse] at hi
  exact ⟨xs,xs.reverse[i]'(by simp;omega),(rt.step s).sq,rfl,List.getElem?_eq_getElem _⟩
 ·rw [List.length_reverse] at hi
  obtain ⟨rfl,q⟩:=q
  obtain ⟨v,hv⟩:∃v,vs.reverse[i]?=some v:=⟨vs.reverse[i]'(by simp;omega),List.getElem?_eq_getElem _⟩
  have h2:=(zbO (q xs (rt.step s).sq)).2
  obtain ⟨x',hx',rv⟩:=l.get _ (zbO hv).2
  rw [show xs.length - 1 - i=vs.length - 1 - i by omega,hx'] at h2
  cases h2
  exact ⟨v,hv,(rv.moreB hB).step s,fun _ _ e=>e⟩
theorem zkv (hg:Gl X "reversed")(hm:X.mg "reversed"=none)(ha:PE X a (tE S X ca))(hs:starEach [a] X.env=[(false,eval a X.env)]:=by rfl):PI X tg (.Call (.Name "reversed" p) [a] [] pos) (tI S X (.revl ca)) :=
 (zkS hg hm (zae ha pa_nil hs) hs).imp fun σ H R ⟨B,φ,st,ρ,rs,re,h⟩=>by
  simp only [evi] at h
  refine tE.bind rs re h fun x H1 v st1 φ1 s1 rs1 re1 rv h1=>?_
  obtain ⟨xs,e,h1⟩:=zfg h1
  cases v with
  |tp k vs =>
   cases e
   simp only [RepV] at rv
   obtain ⟨y,xs,rfl,rt,l⟩:=rv
   exact ⟨y,xs,rfl,.inr ⟨rt.sq,h1.ok rs1 (zid rt l)⟩⟩
  |lst vs =>
   cases e
   simp only [RepV] at rv
   obtain ⟨y,xs,rfl,rt,l⟩:=rv
   exact ⟨y,xs,rfl,.inl ⟨rt.sq,h1.ok rs1 (ziS rt l)⟩⟩
  |_=>cases e
theorem zgC (hg:Gl X "reversed")(hm:X.mg "reversed"=none)(ha:KqE X a (tE S X ca))(hs:starEach [a] X.env=[(false,eval a X.env)]:=by rfl):KqI X tg (.Call (.Name "reversed" p) [a] [] pos) (tI S X (.revl ca)):=by with_unfolding_all exact zkv hg hm ha hs
noncomputable def rSplit:V->List V->Hp->VK->Prop:=fun x vs H Q=>∃s c,x=.str s/\vs=[.str ⟨#[c]⟩]/\s.length<=100000/\∀l,H l=none->Q (.ref l) (upd H l (.lst ((splitL c s.cps.toList).map fun l=>.str ⟨l.toArray⟩)))
theorem zeS:∀l:List (Str×Tok),Vals (l.map fun p=>V.str p.1) (strValues l)
 | []=>.nil
 |p::l=>.cons ⟨p.2,rfl⟩ (zeS l)
theorem zfP:MtR X "str.split" rSplit:=by
 intro pins s σ H x vs v us Q I rx rv h
 obtain ⟨x,c,rfl,rfl,hz,q⟩:=h
 obtain ⟨t,rfl⟩:=rx
 obtain ⟨w,rfl,rw⟩:=vals1 rv
 obtain ⟨u,rfl⟩:=rw
 have hle:(Txt.split x ⟨#[c]⟩).length<=sizeLine:=by
  have:=PyProof.Rows.split_le x ⟨#[c]⟩
  rw [sizeLine_eq]
  omega
 have fin:∀(l:List (Str×Tok)) (tk:Nat),l.map (·.1)=Txt.split x ⟨#[c]⟩->EP X pins σ Q (.ref s.heap.objs.size) { s with heap:=s.heap.push { cls:=.type "list",data:=.seq (strValues l).toArray },toks:=tk }:=fun l tk e=>by
  have e2:l.map (fun p=>V.str p.1)=(splitL c x.cps.toList).map fun l=>.str ⟨l.toArray⟩:=by
   rw [zi7] at e
   have:=congrArg (List.map V.str) e
   simpa [List.map_map,Function.comp_def] using this
  have hl:(l.map fun p=>V.str p.1).length<=sizeLine:=by
   rw [List.length_map,<- List.length_map (f:=(·.1)),e];exact hle
  refine ⟨.ref s.heap.objs.size,_,I.laid (t':=tk) (fun b o e=>Heap.get?_push_of_some _ e) (Nat.le_refl _) (show ObjOk X.prog X.w _ _ _ (.lst ((splitL c x.cps.toList).map fun l=>.str ⟨l.toArray⟩)) from ?_),rfl,q _ (I.hok.fresh (Nat.le_refl _))⟩
  rw [<- e2]
  exact ⟨hl,strValues l,_,zeS l,Heap.get?_push_size _ rfl⟩
 have hsz:x.length<=sizeLine:=by rw [sizeLine_eq];omega
 cases h1:(decide (x.length<(⟨#[c]⟩:Str).length) || decide (Builtin.Str.strKind x<Builtin.Str.strKind ⟨#[c]⟩))
 ·cases hf:(Builtin.Str.occurrences x ⟨#[c]⟩ 0 x.length (x.length+1)).isEmpty
  ·refine call_meets F.slot_str_split (typeIs_str _ _ _) F.entry_str_split (F.args_str_split_2 _ _) (PySem.meets_str_split_sep x ⟨#[c]⟩ t u h1 rfl hf hsz ?_) ?_
   ·have:=hle
    unfold Txt.split at this
    rw [if_neg (ne_true_of_eq_false h1),if_neg (ne_true_of_eq_false hf)] at this
    exact this
   show wants _ _ _ { s with toks:=_,heap:=s.heap.push { cls:=.type "list",data:=.seq (strsFrom s.toks (Builtin.Str.partsBetween x (Builtin.Str.occurrences x ⟨#[c]⟩ 0 x.length (x.length+1)) (⟨#[c]⟩:Str).length)).toArray } }
   rw [strsFrom_eq]
   exact fin (numbered s.toks _) _ ((numbered_texts _ _).trans ((if_neg (ne_true_of_eq_false h1)).trans (if_neg (ne_true_of_eq_false hf))).symm)
  ·exact call_meets F.slot_str_split (typeIs_str _ _ _) F.entry_str_split (F.args_str_split_2 _ _) (PySem.meets_str_split_not_found x ⟨#[c]⟩ t u h1 rfl hf)
    (fin [(x,t)] _ ((if_neg (ne_true_of_eq_false h1)).trans (if_pos hf)).symm)
 ·exact call_meets F.slot_str_split (typeIs_str _ _ _) F.entry_str_split (F.args_str_split_2 _ _) (PySem.meets_str_split_cannot_occur x ⟨#[c]⟩ t u h1)
   (fin [(x,t)] _ (if_pos h1).symm)
theorem zd1 {c:Nat}{K:PySem.W.Frag}{cl:Nat->Addr}:∀ls:List (List Nat),RepL K cl B φ H (ls.map fun l=>PV.str ⟨l.toArray⟩) (ls.map fun l=>V.str ⟨l.toArray⟩)
 | []=>by simp [RepL]
 |l::ls=>by
  simp only [List.map_cons,RepL]
  exact ⟨_,_,rfl,by simp only [RepV],zd1 (c:=c) ls⟩
theorem zen (st:Store)(y q:Str):(∃c,q=⟨#[c]⟩/\y.length<=100000/\splitV st (.str y) (.str q)=.ok (.lst ((splitL c y.cps.toList).map fun l=>.str ⟨l.toArray⟩)) st) \/ splitV st (.str y) (.str q)=.bad:=by
 simp only [splitV]
 split
 ·rename_i c hc
  split
  ·rename_i hz
   exact .inl ⟨c,zaQ (by rw [hc]),hz,rfl⟩
  ·exact .inr rfl
 ·exact .inr rfl
theorem zh6 (ha:PE X a (tE S X ca))(hb:PE X b (tE S X cb))(hs:starEach [b] X.env=(false,eval b X.env)::starEach [] X.env:=by rfl)(hbase:attributeBase a "split" X.env (eval a X.env)=eval a X.env:=by rfl)(hline:(apos.endLine == pos.line)=true:=by rfl)
  (hfew:((backTo pos (starEach [b] X.env)).all (fun x=>!x.1) && (backToKw pos (keywordEach [] X.env)).all (fun x=>x.1.isSome) && decide (([b]:List Expr).length+([]:List Keyword).length+(if ([]:List Keyword).isEmpty then 0 else 1)<30))=true:=by rfl) (hany:(backTo pos (starEach [] X.env)).any (·.1)=false:=by rfl) :
  PE X (.Call (.Attribute a "split" apos) [b] [] pos) (tE S X (.mth .split ca (.cons cb .nil))) :=
 (zfe PySem.F.plainAttrs_str PySem.F.slot_str_split PySem.F.type_str_split zfP ha (zaM (S:=S) hb zb3 hs) hbase hfew hline hs hany).imp fun σ H Q ⟨B,φ,st,ρ,rs,re,h⟩=>by
  simp only [ev] at h
  refine tE.bind rs re h fun x H1 v st1 φ1 s1 rs1 re1 rv h1=>?_
  obtain ⟨_,e1,h1⟩:=zb1 h1
  cases v with
  |str y =>
   simp only [RepV] at rv
   subst rv
   refine ⟨rfl,tAs.bind rs1 re1 h1 fun ys H2 vs st2 φ2 s2 rs2 re2 rvs h2=>?_⟩
   rcases vs with _|⟨w,_|⟨w',t⟩⟩
   ·exact h2.elim
   ·obtain ⟨z,rfl,rw⟩:=rvs.one
    simp only [mthV] at h2
    cases w with
    |str q =>
     simp only [RepV] at rw
     subst rw
     rcases zen st2 y q with ⟨c,rfl,hz,e⟩|e
     ·rw [e] at h2
      exact ⟨y,c,rfl,rfl,hz,fun l hl=>h2 _ _ φ2 (.upd hl) (rs2.upd hl) (.lst_new hl rs2 (zd1 (c:=c) _))⟩
     ·rw [e] at h2
      exact h2.elim
    |_=>exact h2.elim
   ·exact h2.elim
  |_=>cases e1
theorem zdh (ha:KqE X a (tE S X ca))(hb:KqE X b (tE S X cb))(hs:starEach [b] X.env=(false,eval b X.env)::starEach [] X.env:=by rfl)(hbase:attributeBase a "split" X.env (eval a X.env)=eval a X.env:=by rfl)(hline:(apos.endLine == pos.line)=true:=by rfl)
  (hfew:((backTo pos (starEach [b] X.env)).all (fun x=>!x.1) && (backToKw pos (keywordEach [] X.env)).all (fun x=>x.1.isSome) && decide (([b]:List Expr).length+([]:List Keyword).length+(if ([]:List Keyword).isEmpty then 0 else 1)<30))=true:=by rfl) (hany:(backTo pos (starEach [] X.env)).any (·.1)=false:=by rfl) :
  KqE X (.Call (.Attribute a "split" apos) [b] [] pos) (tE S X (.mth .split ca (.cons cb .nil))):=by with_unfolding_all exact zh6 ha hb hs hbase hline hfew hany
noncomputable def rJoin (K:PySem.W.Frag):V->List V->Hp->VK->Prop:=fun x vs H Q=>∃s a ys,x=.str s/\vs=[.ref a]/\SqL K H a (ys.map .str)/\s.length<=10/\ys.length<=1000/\(∀y∈ys,y.length<=1000)/\Q (.str (Str.join s ys)) H
theorem zgU:∀{ys:List Str} {us:List Value},Vals (ys.map V.str) us->StrsAre us ys
 | [],us,h=>by cases h;exact .nil
 |y::ys,us,h=>by
  cases h with
  |cons r t =>
   obtain ⟨k,rfl⟩:=r
   exact .cons y k (zgU t)
theorem zja:∀{ys:List Str},(∀y∈ys,y.length<=1000)->(ys.map (·.length)).sum<=1000*ys.length
 | [],_=>by simp
 |y::ys,h=>by
  have:=zja fun z hz=>h z (List.mem_cons_of_mem _ hz)
  have:=h y (by simp)
  simp only [List.map_cons,List.sum_cons,List.length_cons]
  omega
theorem zjy:MtR X "str.join" (rJoin X.K):=by
 intro pins s σ H x vs v us Q I rx rv h
 obtain ⟨x,a,ys,rfl,rfl,hq,h1,h2,h3,q⟩:=h
 obtain ⟨t,rfl⟩:=rx
 obtain ⟨w,rfl,rw⟩:=vals1 rv
 cases (show _=Value.ref a from rw)
 obtain ⟨its,r,p,hz⟩:=I.list hq
 have e:Txt.join x ys=Str.join x ys:=by
  have:=PyProof.Rows.join_plain_closes x ys
  simpa using this
 have hs:=zja h3
 have hm:ys.length*x.length<=1000*10:=Nat.mul_le_mul h2 h1
 refine PyProof.Rows.join_list p.isList (by simpa using zgU r) (by omega) fun t' k=>?_
 rw [e]
 exact ⟨.str _,H,I.tok k,⟨_,rfl⟩,q⟩
theorem zeh:∀{xs:List PV} {ys:List Str},strsOf xs=some ys->xs=ys.map .str
 | [],ys,h=>by cases h;rfl
 | .str s::r,ys,h=>by
  simp only [strsOf] at h
  cases e:strsOf r with
  |none=>rw [e] at h;cases h
  |some zs =>
   rw [e] at h
   cases h
   rw [zeh e];rfl
 | .non::r,ys,h=>by cases h
 | .bl _::r,ys,h=>by cases h
 | .int _::r,ys,h=>by cases h
 | .tp _ _::r,ys,h=>by cases h
 | .lst _::r,ys,h=>by cases h
 | .loc _::r,ys,h=>by cases h
 | .exn _::r,ys,h=>by cases h
 | .scr _::r,ys,h=>by cases h
theorem zfS {K:PySem.W.Frag}{cl:Nat->Addr}:∀{ys:List Str} {xs:List V},RepL K cl B φ H (ys.map PV.str) xs->xs=ys.map V.str
 | [],xs,h=>by simpa only [List.map_nil,RepL] using h
 |y::ys,xs,h=>by
  simp only [List.map_cons,RepL] at h
  obtain ⟨z,zs,rfl,rz,l⟩:=h
  simp only [RepV] at rz
  rw [zfS l,rz];rfl
theorem ziy (st:Store)(y:Str)(w:PV):(∃xs ys,lstOf st w=some xs/\xs=ys.map .str/\y.length<=10/\ys.length<=1000/\(∀z∈ys,z.length<=1000)/\joinV st (.str y) w=.ok (.str (Str.join y ys)) st) \/ joinV st (.str y) w=.bad:=by
 simp only [joinV]
 cases e:lstOf st w with
 |none=>exact .inr rfl
 |some xs =>
  dsimp only
  cases e2:strsOf xs with
  |none=>exact .inr rfl
  |some ys =>
   dsimp only
   split
   ·rename_i h
    have hx:=zeh e2
    refine .inl ⟨xs,ys,rfl,hx,h.1,?_,fun z hz=>?_,rfl⟩
    ·have:=h.2.1;rw [hx,List.length_map] at this;exact this
    ·have:=List.all_eq_true.1 h.2.2 z hz
     simpa using this
   ·exact .inr rfl
theorem zkl (ha:PE X a (tE S X ca))(hb:PE X b (tE S X cb))(hs:starEach [b] X.env=(false,eval b X.env)::starEach [] X.env:=by rfl)(hbase:attributeBase a "join" X.env (eval a X.env)=eval a X.env:=by rfl)(hline:(apos.endLine == pos.line)=true:=by rfl)
  (hfew:((backTo pos (starEach [b] X.env)).all (fun x=>!x.1) && (backToKw pos (keywordEach [] X.env)).all (fun x=>x.1.isSome) && decide (([b]:List Expr).length+([]:List Keyword).length+(if ([]:List Keyword).isEmpty then 0 else 1)<30))=true:=by rfl) (hany:(backTo pos (starEach [] X.env)).any (·.1)=false:=by rfl) :
  PE X (.Call (.Attribute a "join" apos) [b] [] pos) (tE S X (.mth .join ca (.cons cb .nil))) :=
 (zfe PySem.F.plainAttrs_str PySem.F.slot_str_join PySem.F.type_str_join zjy ha (zaM (S:=S) hb zb3 hs) hbase hfew hline hs hany).imp fun σ H Q ⟨B,φ,st,ρ,rs,re,h⟩=>by
  simp only [ev] at h
  refine tE.bind rs re h fun x H1 v st1 φ1 s1 rs1 re1 rv h1=>?_
  obtain ⟨_,e1,h1⟩:=zb1 h1
  cases v with
  |str y =>
   simp only [RepV] at rv
   subst rv
   refine ⟨rfl,tAs.bind rs1 re1 h1 fun ys H2 vs st2 φ2 s2 rs2 re2 rvs h2=>?_⟩
   rcases vs with _|⟨w,_|⟨w',t⟩⟩
   ·exact h2.elim
   ·obtain ⟨z,rfl,rw⟩:=rvs.one
    simp only [mthV] at h2
    rcases ziy st2 y w with ⟨xs,zs,t2,rfl,h3,h4,h5,e⟩|e
    ·rw [e] at h2
     obtain ⟨l,us,rfl,hl,rl⟩:=zbt rs2 rw t2
     have:=zfS rl
     subst this
     exact ⟨y,l,zs,rfl,rfl,hl,h3,h4,h5,h2.ok rs2 (by simp only [RepV])⟩
    ·rw [e] at h2
     exact h2.elim
   ·exact h2.elim
  |_=>cases e1
theorem zcF (ha:KqE X a (tE S X ca))(hb:KqE X b (tE S X cb))(hs:starEach [b] X.env=(false,eval b X.env)::starEach [] X.env:=by rfl)(hbase:attributeBase a "join" X.env (eval a X.env)=eval a X.env:=by rfl)(hline:(apos.endLine == pos.line)=true:=by rfl)
  (hfew:((backTo pos (starEach [b] X.env)).all (fun x=>!x.1) && (backToKw pos (keywordEach [] X.env)).all (fun x=>x.1.isSome) && decide (([b]:List Expr).length+([]:List Keyword).length+(if ([]:List Keyword).isEmpty then 0 else 1)<30))=true:=by rfl) (hany:(backTo pos (starEach [] X.env)).any (·.1)=false:=by rfl) :
  KqE X (.Call (.Attribute a "join" apos) [b] [] pos) (tE S X (.mth .join ca (.cons cb .nil))):=by with_unfolding_all exact zkl ha hb hs hbase hline hfew hany
theorem zdj:∀bs:List Bool,((List.range bs.length).any fun i=>(bs[i]?).getD true)=bs.any id
 | []=>rfl
 |b::bs=>by
  rw [List.length_cons,List.range_succ_eq_map,List.any_cons,List.any_map,List.any_cons,<- zdj bs]
  rfl
theorem zij (hc:X.calm=true):CallR X (.builtin "any") (fun xs H Q=>∃(l:Addr) (bs:List Bool),xs=[.ref l]/\SqL X.K H l (bs.map V.bl)/\Q (.bl (bs.any id)) H):=by
 intro pins s σ H xs us Q I r h
 obtain ⟨l,bs,rfl,hq,q⟩:=h
 obtain ⟨u,rfl,ru⟩:=Vals.one r
 cases (show u=Value.ref l from ru)
 obtain ⟨its,rv,pl,hz⟩:=I.list hq
 have hb:=zed rv
 have hl:=pl.isList
 have hlt:l<s.heap.objs.size:=by
  obtain ⟨_,e,_⟩:=hl
  exact Heap.lt_size e
 refine call_any_walk (wpAny_pyIter_list hl ?_)
 refine ⟨s.heap.objs.size,[s.heap.objs.size,l],[s.heap.objs.size],its.toArray.size,_,_,fun i=>(bs[i]?).getD true,rfl,Walks.list (A:=X.A.in1) (I.ok.hd hc) _ l (Nat.ne_of_lt hlt) its.toArray,⟨⟨_,Heap.get?_push_size _ rfl,rfl,rfl⟩,hl.push _⟩,fun i v s' Q' E' hP hQ=>?_,fun h' tk hk=>?_⟩
 ·obtain ⟨b,e,rfl⟩:=hb.get i v (by simpa using hP)
  simp only [e,Option.getD_some] at hQ
  exact wpAny_truthy_bool hQ
 ·have e:((List.range its.toArray.size).any fun i=>(bs[i]?).getD true)=bs.any id:=by
   rw [List.size_toArray,hb.length]
   exact zdj bs
  rw [e]
  exact ⟨.bl _,H,I.kept (t':=tk) (LSm.kept_iter hk),rfl,q⟩
theorem zjq:∀{vs:List PV} {m:Bool},IC.anyB vs=some m->∃ns:List Bool,vs=ns.map .bl/\m=ns.any id
 | [],m,h=>by cases h;exact ⟨[],rfl,rfl⟩
 | .bl i::r,m,h=>by
  simp only [IC.anyB] at h
  split at h
  ·rename_i c e
   cases h
   obtain ⟨ns,e1,e2⟩:=zjq e
   exact ⟨i::ns,by rw [e1];rfl,by rw [e2];rfl⟩
  ·cases h
 | .non::r,m,h=>by cases h
 | .int _::r,m,h=>by cases h
 | .str _::r,m,h=>by cases h
 | .tp _ _::r,m,h=>by cases h
 | .lst _::r,m,h=>by cases h
 | .loc _::r,m,h=>by cases h
 | .exn _::r,m,h=>by cases h
 | .scr _::r,m,h=>by cases h
theorem zli:bootBuiltins "any"=some (.builtin "any"):=by decide +kernel
theorem zl7 (hc:X.calm=true):CallR X (.builtin "any") (rB S X .any):=by
 rintro pins s σ H xs us Q I r ⟨B,φ,st,vs,z,rs,l,e,q⟩
 obtain ⟨v,rfl⟩:=zdV e fun _ _=>rfl
 obtain ⟨x,rfl,rv⟩:=l.one
 simp only [bltV] at e
 cases e1:lstOf st v with
 |none=>rw [e1] at e;cases e
 |some ws =>
  rw [e1] at e
  simp only [Option.bind_some] at e
  cases e2:IC.anyB ws with
  |none=>rw [e2] at e;cases e
  |some m =>
   rw [e2] at e
   cases e
   obtain ⟨ns,rfl,rfl⟩:=zjq e2
   obtain ⟨a,ys,rfl,h,l⟩:=zbt rs rv e1
   rw [l.bls] at h
   exact zij hc pins s σ H _ us Q I r ⟨a,ns,rfl,h,q _ H φ .rfl rs (by simp only [RepV])⟩
noncomputable def rSidx:V->List V->Hp->VK->Prop:=fun x vs H Q=>∃y i,x=.str "01"/\vs=[.str y]/\(y=Str.ofString "0"/\i=0 \/ y=Str.ofString "1"/\i=1)/\Q (.int i) H
theorem zjP:MtR X "str.index" rSidx:=by
 intro pins s σ H x vs v us Q I rx rv h
 obtain ⟨y,i,rfl,rfl,hy,q⟩:=h
 obtain ⟨t,rfl⟩:=rx
 obtain ⟨w,rfl,rw⟩:=vals1 rv
 obtain ⟨u,rfl⟩:=rw
 rcases hy with ⟨rfl,rfl⟩|⟨rfl,rfl⟩
 ·exact SC.index (i:=0) (rest:=[]) (by decide +kernel) ⟨.int _,H,I.tok _,⟨_,rfl⟩,q⟩
 ·exact SC.index (i:=1) (rest:=[]) (by decide +kernel) ⟨.int _,H,I.tok _,⟨_,rfl⟩,q⟩
theorem zjV (ha:PE X a (tE S X ca))(hb:PE X b (tE S X cb))(hs:starEach [b] X.env=(false,eval b X.env)::starEach [] X.env:=by rfl)(hbase:attributeBase a "index" X.env (eval a X.env)=eval a X.env:=by rfl)(hline:(apos.endLine == pos.line)=true:=by rfl)
  (hfew:((backTo pos (starEach [b] X.env)).all (fun x=>!x.1) && (backToKw pos (keywordEach [] X.env)).all (fun x=>x.1.isSome) && decide (([b]:List Expr).length+([]:List Keyword).length+(if ([]:List Keyword).isEmpty then 0 else 1)<30))=true:=by rfl) (hany:(backTo pos (starEach [] X.env)).any (·.1)=false:=by rfl) :
  PE X (.Call (.Attribute a "index" apos) [b] [] pos) (tE S X (.mth .sidx ca (.cons cb .nil))) :=
 (zfe PySem.F.plainAttrs_str PySem.F.slot_str_index PySem.F.type_str_index zjP ha (zaM (S:=S) hb zb3 hs) hbase hfew hline hs hany).imp fun σ H Q ⟨B,φ,st,ρ,rs,re,h⟩=>by
  simp only [ev] at h
  refine tE.bind rs re h fun x H1 v st1 φ1 s1 rs1 re1 rv h1=>?_
  obtain ⟨_,e1,h1⟩:=zb1 h1
  cases v with
  |str y =>
   simp only [RepV] at rv
   subst rv
   refine ⟨rfl,tAs.bind rs1 re1 h1 fun ys H2 vs st2 φ2 s2 rs2 re2 rvs h2=>?_⟩
   rcases vs with _|⟨w,_|⟨w',t⟩⟩
   ·exact h2.elim
   ·obtain ⟨z,rfl,rw⟩:=rvs.one
    simp only [mthV] at h2
    cases w with
    |str q =>
     simp only [RepV] at rw
     subst rw
     simp only [sidxV] at h2
     by_cases c0:y=Str.ofString "01"
     ·rw [if_pos c0] at h2
      by_cases c1:q=Str.ofString "0"
      ·rw [if_pos c1] at h2
       exact ⟨q,0,by rw [c0],rfl,.inl ⟨c1,rfl⟩,h2.ok rs2 (by simp only [RepV])⟩
      ·rw [if_neg c1] at h2
       by_cases c2:q=Str.ofString "1"
       ·rw [if_pos c2] at h2
        exact ⟨q,1,by rw [c0],rfl,.inr ⟨c2,rfl⟩,h2.ok rs2 (by simp only [RepV])⟩
       ·rw [if_neg c2] at h2
        exact h2.elim
     ·rw [if_neg c0] at h2
      exact h2.elim
    |_=>exact h2.elim
   ·exact h2.elim
  |_=>cases e1
theorem zhg (ha:KqE X a (tE S X ca))(hb:KqE X b (tE S X cb))(hs:starEach [b] X.env=(false,eval b X.env)::starEach [] X.env:=by rfl)(hbase:attributeBase a "index" X.env (eval a X.env)=eval a X.env:=by rfl)(hline:(apos.endLine == pos.line)=true:=by rfl)
  (hfew:((backTo pos (starEach [b] X.env)).all (fun x=>!x.1) && (backToKw pos (keywordEach [] X.env)).all (fun x=>x.1.isSome) && decide (([b]:List Expr).length+([]:List Keyword).length+(if ([]:List Keyword).isEmpty then 0 else 1)<30))=true:=by rfl) (hany:(backTo pos (starEach [] X.env)).any (·.1)=false:=by rfl) :
  KqE X (.Call (.Attribute a "index" apos) [b] [] pos) (tE S X (.mth .sidx ca (.cons cb .nil))):=by with_unfolding_all exact zjV ha hb hs hbase hline hfew hany
theorem zho (ha:PE X a (tE S X ca))(hb:PE X b (tE S X cb))(hs:starEach [b] X.env=(false,eval b X.env)::starEach [] X.env:=by rfl)(hbase:attributeBase a "split" X.env (eval a X.env)=eval a X.env:=by rfl)(hline:(apos.endLine == pos.line)=true:=by rfl)
  (hfew:((backTo pos (starEach [b] X.env)).all (fun x=>!x.1) && (backToKw pos (keywordEach [] X.env)).all (fun x=>x.1.isSome) && decide (([b]:List Expr).length+([]:List Keyword).length+(if ([]:List Keyword).isEmpty then 0 else 1)<30))=true:=by rfl) (hany:(backTo pos (starEach [] X.env)).any (·.1)=false:=by rfl) :
  PE X (.Call (.Attribute a "split" apos) [b] [] pos) (tE S X (.thw (.mth .split ca (.cons cb .nil)))) :=
 (zfe PySem.F.plainAttrs_str PySem.F.slot_str_split PySem.F.type_str_split zfP ha (zaM (S:=S) hb zb3 hs) hbase hfew hline hs hany).imp fun σ H Q ⟨B,φ,st,ρ,rs,re,h⟩=>by
  simp only [ev,R.bind_assoc] at h
  refine tE.bind rs re h fun x H1 v st1 φ1 s1 rs1 re1 rv h1=>?_
  cases v with
  |str y =>
   have h1:Run S X σ B φ1 H1 (RV S X B) ((evs S.call ρ st1 (.cons cb .nil)).bind fun vs st2=>(mthV .split st2 (.str y) vs).bind fun x st3=>thwV x st3) Q:=by
    have:=h1
    simp only [mthOk,onO] at this
    simpa only [R.bind_assoc] using this
   simp only [RepV] at rv
   subst rv
   refine ⟨rfl,tAs.bind rs1 re1 h1 fun ys H2 vs st2 φ2 s2 rs2 re2 rvs h2=>?_⟩
   rcases vs with _|⟨w,_|⟨w',t⟩⟩
   ·exact h2.elim
   ·obtain ⟨z,rfl,rw⟩:=rvs.one
    simp only [mthV] at h2
    cases w with
    |str q =>
     simp only [RepV] at rw
     subst rw
     rcases zen st2 y q with ⟨c,rfl,hz,e⟩|e
     ·rw [e] at h2
      simp only [R.bind,thwV] at h2
      exact ⟨y,c,rfl,rfl,hz,fun D hD=>h2 _ _ (φ2++[some D]) (.push hD) (rs2.push hD (rs2.nB hD) ⟨_,zE,(zd1 (c:=c) _)⟩) (.loc_new rs2)⟩
     ·rw [e] at h2
      exact h2.elim
    |_=>exact h2.elim
   ·exact h2.elim
  |_=>exact h1.elim
theorem zfi (ha:KqE X a (tE S X ca))(hb:KqE X b (tE S X cb))(hs:starEach [b] X.env=(false,eval b X.env)::starEach [] X.env:=by rfl)(hbase:attributeBase a "split" X.env (eval a X.env)=eval a X.env:=by rfl)(hline:(apos.endLine == pos.line)=true:=by rfl)
  (hfew:((backTo pos (starEach [b] X.env)).all (fun x=>!x.1) && (backToKw pos (keywordEach [] X.env)).all (fun x=>x.1.isSome) && decide (([b]:List Expr).length+([]:List Keyword).length+(if ([]:List Keyword).isEmpty then 0 else 1)<30))=true:=by rfl) (hany:(backTo pos (starEach [] X.env)).any (·.1)=false:=by rfl) :
  KqE X (.Call (.Attribute a "split" apos) [b] [] pos) (tE S X (.thw (.mth .split ca (.cons cb .nil)))):=by with_unfolding_all exact zho ha hb hs hbase hline hfew hany
end
inductive DRow (K:PySem.W.Frag)(cl:Nat->Addr)(w:World):List (Str×PV)->List DictEntry->Prop
 | nil:DRow K cl w [] []
 | cons {k:Str} {v:PV} {t:Tok} {u:Value} {x:V} {D:List (Str×PV)} {es:List DictEntry} (hr:RelV x u) (hv:∀B φ H,RepV K cl B φ H v x) (h:DRow K cl w D es):DRow K cl w ((k,v)::D) (⟨PyData.keyHash w.params k,.str k t,u⟩ :: es)
theorem DRow.pairs {K:PySem.W.Frag}{cl:Nat->Addr}{P:Program}{w:World}{D:List (Str×PV)}{es:List DictEntry}(h:DRow K cl w D es) :
  ∃vs:List (Str×Value),Pairs (strKind P w) es vs/\(∀e∈es,∃k,(strKind P w).is k e.key=true/\e.hash=(strKind P w).hash k)/\vs.map (·.1)=D.map (·.1) /\
   (∀s,(valueAt vs s).isSome=(dlook s D).isSome)/\∀s v,dlook s D=some v->∃u x,valueAt vs s=some u/\RelV x u/\∀B φ H,RepV K cl B φ H v x:=by
 induction h with
 |nil=>exact ⟨[],.nil,fun e he=>(by cases he),rfl,fun s=>rfl,fun s v e=>by cases e⟩
 | @cons k v t u x D es hr hv h ih =>
  obtain ⟨vs,h1,h2,h3,h4,h5⟩:=ih
  have hat:∀s,valueAt ((k,u)::vs) s=if k=s then some u else valueAt vs s:=fun s=>by
   unfold valueAt
   rw [List.find?_cons]
   by_cases e:k=s
   ·simp [e]
   ·simp [e]
  refine ⟨(k,u)::vs,.cons (strKind_is P w k t) rfl h1,fun e he=>?_,by rw [List.map_cons,List.map_cons,h3],fun s=>?_,fun s v' e=>?_⟩
  ·rcases List.mem_cons.1 he with rfl|he
   ·exact ⟨k,strKind_is P w k t,rfl⟩
   ·exact h2 e he
  ·rw [hat,dlook]
   by_cases e:k=s
   ·rw [if_pos e,if_pos (by simpa using e)];rfl
   ·rw [if_neg e,if_neg (by simpa using e),h4]
  ·rw [dlook] at e
   rw [hat]
   by_cases q:k=s
   ·rw [if_pos (by simpa using q)] at e
    cases e
    exact ⟨u,x,by rw [if_pos q],hr,hv⟩
   ·rw [if_neg (by simpa using q)] at e
    obtain ⟨u',x',e1,e2,e3⟩:=h5 s v' e
    exact ⟨u',x',by rw [if_neg q];exact e1,e2,e3⟩
section
variable {S:Se}{X:Cx}{σ:St}{B:Addr->Prop}{φ:Ph}{H:Hp}{st:Store}{pos p:Pos}{a b i:Expr}{ca cb:Ce}{x:Str}{D:List (Str×PV)}{ty:TE}
end
section
variable {K:PySem.W.Frag}{cl:Nat->Addr}{B:Addr->Prop}{φ:Ph}{H:Hp}{st:Store}
end
section
variable {S:Se}{X:Cx}{K:PySem.W.Frag}{cl:Nat->Addr}{σ:St}{B:Addr->Prop}{φ φ1:Ph}{H H1:Hp}{st:Store}{ρ:IC.Env}{pos p p2 px:Pos}{a b c o tg l elt iter:Expr}{ca cb cc ce:Ce}{ci:Cit}{ct:Tg}
end
section
variable {S:Se}{X:Cx}{elt tg iter:Expr}{pos:Pos}{ct:Tg}{ci:Cit}{cc ce:Ce}
theorem ziG {sc:Scope}{NC:List Str}{sl:List (Option Nat)}{x0:Str}{ifs:List Expr}(hc:X.calm=true)(O:CompOkK X sc NC sl x0)(hf:tgtFree ct sl=true)(hi:PI X tg iter (tI S X ci))(hg:∀j,PG (cxK X sc NC x0 j) tg (tG0 S X.K ct))
  (ht:∀j,PTs (cxK X sc NC x0 j) ifs (tT0 S X.K cc)) (he:∀j,PE (cxK X sc NC x0 j) elt (tE0 S X.K ce)) (hs:∀x,foldedSetIterable iter X.env x=pure x:=by intro _;rfl) :
  PE X (.ListComp elt [⟨tg,iter,ifs,0⟩] sc pos) (tE S X (.comp sl ct ci cc ce)) :=
 (zi3 hc O hi hg ht he hs).imp fun σ H Q h=>zeL hf h
theorem zgq {sc:Scope}{NC:List Str}{sl:List (Option Nat)}{x0:Str}{ifs:List Expr}(hc:X.calm=true)(O:CompOkK X sc NC sl x0)(hf:tgtFree ct sl=true)(hi:KqI X tg iter (tI S X ci))(hg:∀j,KqG (cxK X sc NC x0 j) tg (tG0 S X.K ct))
  (ht:∀j,KqTs (cxK X sc NC x0 j) ifs (tT0 S X.K cc)) (he:∀j,KqE (cxK X sc NC x0 j) elt (tE0 S X.K ce)) (hs:∀x,foldedSetIterable iter X.env x=pure x:=by intro _;rfl) :
  KqE X (.ListComp elt [⟨tg,iter,ifs,0⟩] sc pos) (tE S X (.comp sl ct ci cc ce)):=by with_unfolding_all exact ziG hc O hf hi hg ht he hs
theorem compOkN {sc0 sc:Scope}{NC0 NC:List Str}{slots:List (Option Nat)}{x0:Str}{j:CI}(kind:sc.kind=.function)
  (names:∀y∈sc.names,y.2=.local->sc.names.lookup y.1=some .local) (nocell:∀y∈sc.names,y.2 ≠ .cell) (free:∀y∈sc.names,y.2=.free->sc0.names.lookup y.1=some .cell)
  (slot:∀p∈NC.zip slots,(p.2.all fun j=>decide (NC0[j]?=some p.1/\sc.names.lookup p.1=some .free))=true) (len:slots.length=NC.length):CompOk (cxK X sc0 NC0 x0 j) sc NC slots:=by
 refine compOk NC0 (relabel sc0 X.env) rfl rfl kind names nocell (fun y hy hk=>?_) slot len
 rw [zaD,free y hy hk]
 rfl
end
section
variable {S:Se}{X:Cx}{σ:St}{B:Addr->Prop}{φ φ1:Ph}{H H1:Hp}{st:Store}{ρ:IC.Env}{pos:Pos}{tg elt iter:Expr}{ce:Ce}{ci:Cit}{ct:Tg}
theorem zf2 {sc:Scope}{NC:List Str}{sl:List (Option Nat)}(hm:S.may=true)(hf:tgtFree ct sl=true){H:Hp}{Q:VK}(h:tE S X (.cmx sl ct ci ce) σ H Q) :
  tCompX X sl (tI S X ci) (tG0 S X.K ct) tYes (fun j E=>tE S.quiet (cxX X sc NC j E) ce) σ H Q:=by
 obtain ⟨B,φ,st,ρ,rs,re,h⟩:=h
 simp only [ev] at h
 refine ⟨B,φ,st,ρ,rs,re,(Run.bind h).mono fun J H1 ⟨xs,st1,φ1,s1,rs1,dr,h1⟩=>fun D hD=>?_⟩
 split at h1
 case isFalse=>exact h1.elim
 rename_i hxs
 generalize hone:(fun (x:PV) (st2:Store)=>match bindT ct x (sl.map fun o=>o.bind fun j=>(ρ[j]?).join) with
  |none=>(R.bad:R (Option PV))
  |some ρ1=>(ev S.call ρ1 st2 ce).bind fun y st4=>.ok (some y) st4)=one at h1
 have nB:¬B D:=rs1.nB hD
 have nD:some D∉φ1:=fun z=>by
  obtain ⟨w,e⟩:=rs1.there z
  rw [hD] at e;cases e
 generalize hres:compL one xs st1=res at h1
 have hbad:res ≠ .bad:=fun z=>by rw [z] at h1;exact h1
 refine ⟨fun cls _ H'=>∃k st5,res=.exc k st5/\cls=.ref (S.cl k)/\∃φ',Step φ1 H1 φ' H'/\RepS X.K S.cl B φ' H' st5,
  fun i m σc ys H2=>∃φ2 st2 vs,i+m=xs.length/\ys.length=i/\Step φ1 H1 φ2 H2/\H2 D=some (.lst ys)/\some D∉φ2/\RepS X.K S.cl (Bx B D) φ2 H2 st2/\RepE X.K S.cl (Bx B D) φ2 H2 (sl.map fun o=>o.bind fun j=>(ρ[j]?).join) σc /\
   RepL X.K S.cl (Bx B D) φ2 H2 vs ys/\((compL one (xs.drop i) st2).bind fun rest st=>.ok (vs++rest) st)=res,
  ⟨xs.length,φ1,st1,[],by omega,rfl,.upd hD,zE,nD,rs1.more hD,(RepE.inn (re.step s1)).more hD,by simp only [RepL],by
   rw [<- hres,List.drop_zero]
   cases compL one xs st1 <;> rfl⟩,?_,?_⟩
 ·rintro i m σc ys H2 ⟨φ2,st2,vs,hm2,hyl,s2,hD2,nD2,rs2,re2,l2,ec⟩
  refine ⟨hD2,?_⟩
  by_cases hi:i<xs.length
  ·have hml:=million1
   refine .inr ⟨dr.go i φ2 H2 s2 hi,by omega,fun σ' ys' H'=>∃φ2 st2 vs,ys'.length=i+1/\Step φ1 H1 φ2 H'/\H' D=some (.lst ys')/\some D∉φ2/\RepS X.K S.cl (Bx B D) φ2 H' st2/\RepE X.K S.cl (Bx B D) φ2 H' (sl.map fun o=>o.bind fun j=>(ρ[j]?).join) σ' /\
     RepL X.K S.cl (Bx B D) φ2 H' vs ys'/\((compL one (xs.drop (i+1)) st2).bind fun rest st=>.ok (vs++rest) st)=res,fun σ' ys' H' ⟨φ2,st2,vs,q⟩=>⟨m - 1,by omega,φ2,st2,vs,by omega,q⟩,fun x H3 hy=>?_⟩
   obtain ⟨v,hv,rv,kk⟩:=dr.yld i φ2 H2 st2 x H3 (Bx B D) (fun y z=>z.elim .inl fun q=>.inr (q ▸ hD)) s2 rs2 hi hy
   have s3:Step φ2 H2 φ2 H3:=⟨fun b o _ e=>kk b o e,Nat.le_refl _,fun _ _ _ e=>e,fun _ h=>.inl h⟩
   have rs3:RepS X.K S.cl (Bx B D) φ2 H3 st2:=rs2.same kk
   have ed:xs.drop i=v::xs.drop (i+1):=by
    rw [List.drop_eq_getElem_cons hi]
    rw [List.getElem?_eq_getElem hi] at hv
    rw [Option.some.inj hv]
   rw [ed,compL] at ec
   have eo:one v st2=(match bindT ct v (sl.map fun o=>o.bind fun j=>(ρ[j]?).join) with
    |none=>(R.bad:R (Option PV))
    |some ρ1=>(ev S.call ρ1 st2 ce).bind fun y st4=>.ok (some y) st4):=by rw [<- hone]
   rw [eo] at ec
   cases eb:bindT ct v (sl.map fun o=>o.bind fun j=>(ρ[j]?).join) with
   |none=>rw [eb] at ec;exact absurd ec.symm hbad
   |some ρ1 =>
    rw [eb] at ec
    dsimp only at ec
    refine ⟨Bx B D,φ2,st2,_,v,ρ1,rs3,re2.step s3,rv,eb,fun σ4 re4=>?_⟩
    dsimp only [tYes]
    rw [if_pos rfl]
    intro j
    refine ⟨Bx B D,φ2,st2,ρ1,rs3,re4,?_⟩
    have h0:∀(i:Nat),sl[i]?=some none->(sl.map fun o=>o.bind fun j=>(ρ[j]?).join)[i]?=some none:=fun i q=>by
     rw [List.getElem?_map,q];rfl
    have hD3:H3 D=some (.lst ys):=kk D _ hD2
    show Run S.quiet _ σ4 (Bx B D) φ2 H3 _ (ev S.call ρ1 st2 ce) _
    cases e5:ev S.call ρ1 st2 ce with
    |bad=>rw [e5] at ec;exact absurd ec.symm hbad
    |exc k st5 =>
     rw [e5] at ec
     have ec:R.exc k st5=res:=ec
     intro e s' hx
     rcases hx with ⟨pins,H6,s6,φ6,I,sp,c⟩|⟨hq,_⟩|⟨hq,_⟩
     ·exact ⟨pins,σ4,H6,s6,I.unwish,c.mono fun cls H' ⟨e1,φ',t2,r⟩=>⟨k,st5,ec.symm,e1,φ',(s2.trans (s3.trans sp)).trans t2,r.less⟩⟩
     ·cases hq
     ·cases hq
    |ok y st6 =>
     rw [e5] at ec
     intro y' H6 φ6 s6 rs6 ry
     have nD6:some D∉φ6:=fun z=>by
      rcases s6.new D z with q|q
      ·exact nD2 q
      ·rw [hD3] at q;cases q
     have hD6:H6 D=some (.lst ys):=s6.keep D _ nD2 hD3
     have hBD:Bx B D D:=.inr rfl
     refine ⟨hD6,φ6,st6,vs++[y],by simp;omega,?_,zE,nD6,rs6.skip hBD,(RepE.untgt hf h0 eb (re4.step s6)).skip hBD,(((l2.step s3).step s6).append (by simp only [RepL];exact ⟨y',[],rfl,ry,rfl⟩)).skip hBD,?_⟩
     ·have s16:=s2.trans (s3.trans s6)
      exact ⟨fun b o n q=>by rw [zn (zr q hD)];exact s16.keep b o n q,s16.len,s16.pre,s16.new⟩
     ·rw [<- ec]
      simp only [R.bind]
      cases compL one (xs.drop (i+1)) st6 <;> simp [R.bind,consO]
  ·have ei:i=xs.length:=by omega
   subst ei
   rw [List.drop_length,compL] at ec
   have ec:R.ok (vs++[]) st2=res:=ec
   rw [List.append_nil] at ec
   rw [<- ec] at h1
   have h1:Run S X σ B φ1 H1 (RV S X B) (.ok (.lst vs) st2) Q:=h1
   refine .inl ⟨dr.stop φ2 H2 s2,h1 (.ref D) H2 φ2 s2 rs2.less ?_⟩
   simp only [RepV]
   exact ⟨D,ys,rfl,⟨hD2,nB,nD2⟩,l2.less⟩
 ·intro pins H2 s e s' I z
  cases res with
  |bad=>exact absurd rfl hbad
  |ok zs st5 =>
   exfalso
   obtain ⟨_,_,_,_,_,_,_,_,_,_,_,_,_,_,_,_,_,k,st6,q,_⟩:=z
   cases q
  |exc k st5 =>
   refine h1 e s' (.inr (.inr ⟨hm,pins,H2,s,I,z.mono fun cls H' ⟨k',st6,q,r⟩=>?_⟩))
   cases q
   exact r
theorem zi9 {sc:Scope}{NC:List Str}{sl:List (Option Nat)}(hstk:∃outer,X.stack=X.env::outer)(hfr:X.env.frame=some X.env.locals)(hm:S.may=true)(hc:X.calm=true)(O:CompOk X sc NC sl)(hf:tgtFree ct sl=true)(hi:PI X tg iter (tI S X ci))(hg:∀j,PG (cxC X sc NC j) tg (tG0 S X.K ct))
  (he:∀j E,PE (cxX X sc NC j E) elt (tE S.quiet (cxX X sc NC j E) ce)) (hs:∀x,foldedSetIterable iter X.env x=pure x:=by intro _;rfl) :
  PE X (.ListComp elt [⟨tg,iter,[],0⟩] sc pos) (tE S X (.cmx sl ct ci ce)) :=
 (zi5 hstk hfr hc O hi hg (fun j=>zha) he hs).imp fun σ H Q h=>zf2 hm hf h
theorem zgj {sc:Scope}{NC:List Str}{sl:List (Option Nat)}(hstk:∃outer,X.stack=X.env::outer)(hfr:X.env.frame=some X.env.locals)(hm:S.may=true)(hc:X.calm=true)(O:CompOk X sc NC sl)(hf:tgtFree ct sl=true)(hi:KqI X tg iter (tI S X ci))(hg:∀j,KqG (cxC X sc NC j) tg (tG0 S X.K ct))
  (he:∀j E,KqE (cxX X sc NC j E) elt (tE S.quiet (cxX X sc NC j E) ce)) (hs:∀x,foldedSetIterable iter X.env x=pure x:=by intro _;rfl) :
  KqE X (.ListComp elt [⟨tg,iter,[],0⟩] sc pos) (tE S X (.cmx sl ct ci ce)):=by with_unfolding_all exact zi9 hstk hfr hm hc O hf hi hg he hs
end
end L2
namespace IC
open PySem
noncomputable def zX:PV:=(.int 4)
noncomputable def z4:PV:=(.int 16)
noncomputable def zZ:PV:=(.int 8)
noncomputable def f_read:Fn:=⟨1,3,true,(.cons (.asg (.n 1) (.mth .split (.var 0) (.cons (.cst (.str " ")) .nil))) (.cons (.asg (.n 2) (.blt .len (.cons (.idx (.var 1) (.cst (.int 0))) .nil))) (.cons (.ite (.or (.not (.chain .le .le (.cst zX) (.var 2) (.cst z4))) (.cmp .gt (.blt .len (.cons (.var 1) .nil)) (.cst zZ))) (.cons (.raise 1 (.cst (.str "this is no number of 1 to 8 words of a width from 4 to 16"))) .nil) .nil) (.cons (.ret (.tup (.cons (.var 2) (.cons (.blt .tuple (.cons (.cmx [none,some 2] (.n 0) (.revl (.var 1)) (.call 1 (.cons (.var 0) (.cons (.var 1) .nil)))) .nil)) .nil)))) .nil))))⟩
noncomputable def f_read_word:Fn:=⟨2,4,true,(.cons (.ite (.cmp .ne (.blt .len (.cons (.var 0) .nil)) (.var 1)) (.cons (.raise 1 (.fst (.cons (.var 0) (.cons (.cst (.str " is no word of width ")) (.cons (.var 1) .nil))))) .nil) .nil) (.cons (.asg (.n 2) (.cst (.int 0))) (.cons (.for (.n 3) (.chars (.var 0)) (.cons (.asg (.n 2) (.bin .add (.bin .mul (.cst (.int 2)) (.var 2)) (.call 2 (.cons (.var 3) .nil)))) .nil)) (.cons (.ret (.var 2)) .nil))))⟩
noncomputable def f_read_two:Fn:=⟨1,1,true,(.cons (.ite (.and (.cmp .ne (.var 0) (.cst (.str "0"))) (.cmp .ne (.var 0) (.cst (.str "1")))) (.cons (.raise 1 (.fst (.cons (.var 0) (.cons (.cst (.str " is neither 0 nor 1")) .nil)))) .nil) .nil) (.cons (.ret (.ite (.cmp .eq (.var 0) (.cst (.str "1"))) (.cst (.int 1)) (.cst (.int 0)))) .nil))⟩
noncomputable def zcl:Fn:=⟨1,1,false,(.cons (.ret (.newl (.cons (.slc (.var 0) (.cst .non) (.cst (.int 63))) (.cons (.cst (.int 0)) (.cons (.cst (.int 0)) (.cons (.cst (.bl false)) .nil)))))) .nil)⟩
noncomputable def f_qmixed:Fn:=⟨1,8,true,(.cons (.asg (.n 1) (.tup (.cons (.cst (.int 2147483647)) (.cons (.cst (.int 2147483629)) (.cons (.cst (.int 2147483587)) (.cons (.cst (.int 2147483579)) (.cons (.cst (.int 2147483563)) .nil))))))) (.cons (.asg (.n 2) (.cst (.int 0))) (.cons (.for (.t [3,4]) (.enum (.var 1)) (.cons (.asg (.n 5) (.bin .add (.var 0) (.idx (.tup (.cons (.cst (.int 11)) (.cons (.cst (.int 101)) (.cons (.cst (.int 1009)) (.cons (.cst (.int 10007)) (.cons (.cst (.int 100003)) .nil)))))) (.var 3)))) (.cons (.asg (.n 5) (.bin .mod (.bin .mul (.var 5) (.bin .add (.cst (.int 48271)) (.bin .mul (.cst (.int 2)) (.var 3)))) (.var 4))) (.cons (.asg (.n 6) (.bin .mod (.bin .mul (.var 5) (.var 5)) (.var 4))) (.cons (.asg (.n 7) (.bin .mod (.bin .mul (.bin .mod (.bin .mul (.var 6) (.var 6)) (.var 4)) (.var 5)) (.var 4))) (.cons (.asg (.n 2) (.bin .add (.bin .mul (.var 2) (.var 4)) (.var 7))) .nil)))))) (.cons (.ret (.var 2)) .nil))))⟩
noncomputable def zbi:Fn:=⟨1,4,false,(.cons (.asg (.t [1,2]) (.tup (.cons (.idx (.var 0) (.cst (.int 0))) (.cons (.idx (.var 0) (.cst (.int 1))) .nil)))) (.cons (.asg (.n 3) (.bin .add (.bin .mul (.cst (.int 31)) (.var 2)) (.cst (.int 7)))) (.cons (.ite (.cmp .gt (.blt .len (.cons (.var 1) .nil)) (.cst (.int 0))) (.cons (.asg (.n 3) (.bin .mul (.cst (.int 104729)) (.bin .fdiv (.var 2) (.blt .len (.cons (.var 1) .nil))))) (.cons (.asg (.n 3) (.bin .add (.var 3) (.idx (.var 1) (.bin .mod (.var 2) (.blt .len (.cons (.var 1) .nil)))))) .nil)) .nil) (.cons (.six (.var 0) (.cst (.int 1)) (.bin .add (.var 2) (.cst (.int 1)))) (.cons (.six (.var 0) (.cst (.int 3)) (.or (.cmp .ge (.var 2) (.blt .len (.cons (.var 1) .nil))) (.cmp .lt (.var 3) (.bin .pow (.cst (.int 10)) (.cst (.int 18)))))) (.cons (.ite (.idx (.var 0) (.cst (.int 3))) (.cons (.six (.var 0) (.cst (.int 2)) (.call 4 (.cons (.var 3) .nil))) .nil) (.cons (.six (.var 0) (.cst (.int 2)) (.bin .sub (.var 3) (.bin .pow (.cst (.int 10)) (.cst (.int 18))))) .nil)) .nil))))))⟩
noncomputable def f_qtake:Fn:=⟨2,4,false,(.cons (.asg (.n 2) (.cst (.int 0))) (.cons (.while (.and (.cmp .lt (.var 2) (.cst (.int 64))) (.or (.cmp .eq (.idx (.var 0) (.cst (.int 2))) (.cst (.int 0))) (.and (.idx (.var 0) (.cst (.int 3))) (.cmp .lt (.idx (.var 0) (.cst (.int 2))) (.bin .mul (.var 1) (.cst (.int 4096))))))) (.cons (.expr (.call 5 (.cons (.var 0) .nil))) (.cons (.aug 2 .add (.cst (.int 1))) (.cons (.ite (.and (.idx (.var 0) (.cst (.int 3))) (.cmp .lt (.idx (.var 0) (.cst (.int 2))) (.bin .mul (.var 1) (.cst (.int 4096))))) (.cons (.six (.var 0) (.cst (.int 2)) (.bin .add (.idx (.var 0) (.cst (.int 2))) (.bin .mul (.bin .mul (.var 1) (.cst (.int 4096))) (.bin .add (.cst (.int 1)) (.bin .mod (.idx (.var 0) (.cst (.int 2))) (.cst (.int 4093))))))) .nil) .nil) .nil)))) (.cons (.asg (.n 3) (.bin .mod (.idx (.var 0) (.cst (.int 2))) (.var 1))) (.cons (.six (.var 0) (.cst (.int 2)) (.bin .fdiv (.idx (.var 0) (.cst (.int 2))) (.var 1))) (.cons (.ret (.var 3)) .nil)))))⟩
noncomputable def zbH:Fn:=⟨1,3,true,(.cons (.asg (.n 1) (.cst (.int 1))) (.cons (.for (.n 2) (.range1 (.var 0)) (.cons (.asg (.n 1) (.bin .mul (.cst (.int 2)) (.var 1))) .nil)) (.cons (.ret (.var 1)) .nil)))⟩
noncomputable def zdX:Fn:=⟨1,1,true,(.cons (.ret (.and (.isi (.var 0) [.int]) (.not (.isi (.var 0) [.bool])))) .nil)⟩
noncomputable def zbx:Fn:=⟨3,3,true,(.cons (.ite (.or (.not (.isi (.var 0) [.tuple])) (.or (.cmp .ne (.blt .len (.cons (.var 0) .nil)) (.var 2)) (.not (.blt .all (.cons (.comp [none] (.n 0) (.seq (.var 0)) (.cst (.bl true)) (.call 8 (.cons (.var 0) .nil))) .nil))))) (.cons .nope .nil) .nil) (.cons (.ret (.blt .all (.cons (.comp [none,some 1] (.n 0) (.seq (.var 0)) (.cst (.bl true)) (.chain .le .lt (.cst (.int 0)) (.var 0) (.call 7 (.cons (.var 1) .nil)))) .nil))) .nil))⟩
noncomputable def f_qdue:Fn:=⟨1,7,true,(.cons (.asg (.n 1) (.mth .split (.var 0) (.cons (.cst (.str " ")) .nil))) (.cons (.asg (.n 2) (.blt .len (.cons (.idx (.var 1) (.cst (.int 0))) .nil))) (.cons (.ite (.or (.cmp .lt (.var 2) (.cst (.int 4))) (.or (.cmp .gt (.var 2) (.cst (.int 16))) (.cmp .gt (.blt .len (.cons (.var 1) .nil)) (.cst (.int 8))))) (.cons (.ret (.cst .non)) .nil) .nil) (.cons (.asg (.n 3) (.newl .nil)) (.cons (.for (.n 4) (.seq (.blt .rev (.cons (.var 1) .nil))) (.cons (.ite (.or (.cmp .ne (.blt .len (.cons (.var 4) .nil)) (.var 2)) (.blt .any (.cons (.comp [none] (.n 0) (.chars (.var 4)) (.cst (.bl true)) (.cmp .notin (.var 0) (.cst (.str "01")))) .nil))) (.cons (.ret (.cst .non)) .nil) .nil) (.cons (.asg (.n 5) (.cst (.int 0))) (.cons (.for (.n 6) (.chars (.var 4)) (.cons (.asg (.n 5) (.bin .add (.bin .mul (.cst (.int 2)) (.var 5)) (.mth .sidx (.cst (.str "01")) (.cons (.var 6) .nil)))) .nil)) (.cons (.expr (.mth .append (.var 3) (.cons (.var 5) .nil))) .nil))))) (.cons (.ret (.tup (.cons (.var 2) (.cons (.blt .tuple (.cons (.var 3) .nil)) .nil)))) .nil))))))⟩
noncomputable def f_qsign:Fn:=⟨1,2,false,(.cons (.asg (.n 1) (.cst (.str (Str.ofString " !\"#$&'()*+,-./0123456789:;<=>?@ABCDEFGHIJKLMNOPQRSTUVWXYZ[\\]^_`abcdefghijklmnopqrstuvwxyz{|}~")))) (.cons (.ret (.idx (.tup (.cons (.cst (.str "0")) (.cons (.cst (.str "1")) (.cons (.cst (.str " ")) (.cons (.idx (.var 1) (.call 6 (.cons (.var 0) (.cons (.blt .len (.cons (.var 1) .nil)) .nil)))) .nil))))) (.call 6 (.cons (.var 0) (.cons (.cst (.int 4)) .nil))))) .nil))⟩
noncomputable def f_qspoilt:Fn:=⟨2,6,false,(.cons (.asg (.n 2) (.call 6 (.cons (.var 0) (.cons (.cst (.int 8)) .nil)))) (.cons (.asg (.n 3) (.call 6 (.cons (.var 0) (.cons (.bin .add (.blt .len (.cons (.var 1) .nil)) (.cst (.int 1))) .nil)))) (.cons (.asg (.n 4) (.call 11 (.cons (.var 0) .nil))) (.cons (.ite (.cmp .eq (.var 2) (.cst (.int 0))) (.cons (.ret (.bin .add (.bin .add (.slc (.var 1) (.cst .non) (.var 3)) (.var 4)) (.slc (.var 1) (.var 3) (.cst .non)))) .nil) .nil) (.cons (.ite (.cmp .eq (.var 2) (.cst (.int 1))) (.cons (.ret (.bin .add (.slc (.var 1) (.cst .non) (.var 3)) (.slc (.var 1) (.bin .add (.var 3) (.cst (.int 1))) (.cst .non)))) .nil) .nil) (.cons (.ite (.cmp .eq (.var 2) (.cst (.int 2))) (.cons (.ret (.bin .add (.bin .add (.slc (.var 1) (.cst .non) (.var 3)) (.var 4)) (.slc (.var 1) (.bin .add (.var 3) (.cst (.int 1))) (.cst .non)))) .nil) .nil) (.cons (.asg (.n 5) (.thw (.mth .split (.var 1) (.cons (.cst (.str " ")) .nil)))) (.cons (.asg (.n 3) (.bin .mod (.var 3) (.bin .add (.blt .len (.cons (.var 5) .nil)) (.cst (.int 1))))) (.cons (.ite (.cmp .eq (.var 2) (.cst (.int 3))) (.cons (.expr (.mth .insert (.var 5) (.cons (.var 3) (.cons (.rep (.cst (.str "01")) (.bin .add (.cst (.int 1)) (.call 6 (.cons (.var 0) (.cons (.cst (.int 10)) .nil))))) .nil)))) .nil) .nil) (.cons (.ite (.and (.cmp .eq (.var 2) (.cst (.int 4))) (.cmp .lt (.var 3) (.blt .len (.cons (.var 5) .nil)))) (.cons (.expr (.mth .insert (.var 5) (.cons (.var 3) (.cons (.idx (.var 5) (.var 3)) .nil)))) .nil) .nil) (.cons (.ret (.mth .join (.cst (.str " ")) (.cons (.var 5) .nil))) .nil)))))))))))⟩
noncomputable def zex:Fn:=⟨2,2,true,(.cons (.ite (.cmp .eq (.var 0) (.cst (.int 0))) (.cons (.raise 0 (.var 1)) .nil) .nil) (.cons (.ite (.cmp .eq (.var 0) (.cst (.int 1))) (.cons (.raise 1 (.var 1)) .nil) .nil) (.cons (.ite (.cmp .eq (.var 0) (.cst (.int 2))) (.cons (.raise 2 (.var 1)) .nil) .nil) (.cons (.ite (.cmp .eq (.var 0) (.cst (.int 3))) (.cons (.raise 3 (.var 1)) .nil) .nil) (.cons (.ite (.cmp .eq (.var 0) (.cst (.int 4))) (.cons (.raise 4 (.var 1)) .nil) .nil) (.cons (.ite (.cmp .eq (.var 0) (.cst (.int 5))) (.cons (.raise 5 (.var 1)) .nil) .nil) (.cons (.ite (.cmp .eq (.var 0) (.cst (.int 6))) (.cons (.raise 6 (.var 1)) .nil) .nil) (.cons (.ite (.cmp .eq (.var 0) (.cst (.int 7))) (.cons (.raise 7 (.var 1)) .nil) .nil) (.cons (.ite (.cmp .eq (.var 0) (.cst (.int 8))) (.cons (.raise 8 (.var 1)) .nil) .nil) (.cons (.ite (.cmp .eq (.var 0) (.cst (.int 9))) (.cons (.raise 9 (.var 1)) .nil) .nil) (.cons (.ite (.cmp .eq (.var 0) (.cst (.int 10))) (.cons (.raise 10 (.var 1)) .nil) .nil) (.cons (.ite (.cmp .eq (.var 0) (.cst (.int 11))) (.cons (.raise 11 (.var 1)) .nil) .nil) (.cons (.ite (.cmp .eq (.var 0) (.cst (.int 12))) (.cons (.raise 12 (.var 1)) .nil) .nil) (.cons (.raise 13 (.var 1)) .nil))))))))))))))⟩
noncomputable def zh0:Fn:=⟨2,4,true,(.cons (.asg (.n 2) (.newl .nil)) (.cons (.try (.cons (.expr (.call 13 (.cons (.var 0) (.cons (.var 1) .nil)))) .nil) [0,1,2,3,4,5,6,7,8,9,10,11,12,13] 3 (.cons (.asg (.n 2) (.newl (.cons (.isx (.var 3) [0,1,2,3,4,5,6,7,8,9,10,11,12,13] [.cls 0]) (.cons (.isx (.var 3) [0,1,2,3,4,5,6,7,8,9,10,11,12,13] [.cls 1]) (.cons (.isx (.var 3) [0,1,2,3,4,5,6,7,8,9,10,11,12,13] [.cls 2]) (.cons (.isx (.var 3) [0,1,2,3,4,5,6,7,8,9,10,11,12,13] [.cls 3]) .nil)))))) (.cons (.expr (.mth .extend (.var 2) (.cons (.lst (.cons (.isx (.var 3) [0,1,2,3,4,5,6,7,8,9,10,11,12,13] [.cls 4]) (.cons (.isx (.var 3) [0,1,2,3,4,5,6,7,8,9,10,11,12,13] [.cls 5]) (.cons (.isx (.var 3) [0,1,2,3,4,5,6,7,8,9,10,11,12,13] [.cls 6]) .nil)))) .nil))) (.cons (.expr (.mth .extend (.var 2) (.cons (.lst (.cons (.isx (.var 3) [0,1,2,3,4,5,6,7,8,9,10,11,12,13] [.cls 7]) (.cons (.isx (.var 3) [0,1,2,3,4,5,6,7,8,9,10,11,12,13] [.cls 8]) (.cons (.isx (.var 3) [0,1,2,3,4,5,6,7,8,9,10,11,12,13] [.cls 9]) .nil)))) .nil))) (.cons (.expr (.mth .extend (.var 2) (.cons (.lst (.cons (.isx (.var 3) [0,1,2,3,4,5,6,7,8,9,10,11,12,13] [.cls 10]) (.cons (.isx (.var 3) [0,1,2,3,4,5,6,7,8,9,10,11,12,13] [.cls 11]) (.cons (.isx (.var 3) [0,1,2,3,4,5,6,7,8,9,10,11,12,13] [.cls 12]) (.cons (.isx (.var 3) [0,1,2,3,4,5,6,7,8,9,10,11,12,13] [.cls 13]) .nil))))) .nil))) .nil))))) (.cons (.ret (.frz (.var 2))) .nil)))⟩
noncomputable def f_law:Fn:=⟨1,11,true,(.cons (.asg (.n 1) (.call 3 (.cons (.var 0) .nil))) (.cons (.asg (.n 2) (.idx (.tup (.cons (.bin .add (.cst (.int 4)) (.call 6 (.cons (.var 1) (.cons (.cst (.int 13)) .nil)))) (.cons (.bin .add (.cst (.int 2)) (.call 6 (.cons (.var 1) (.cons (.cst (.int 17)) .nil)))) .nil))) (.call 6 (.cons (.var 1) (.cons (.cst (.int 2)) .nil))))) (.cons (.asg (.n 3) (.idx (.tup (.cons (.bin .add (.cst (.int 1)) (.call 6 (.cons (.var 1) (.cons (.cst (.int 8)) .nil)))) (.cons (.call 6 (.cons (.var 1) (.cons (.cst (.int 11)) .nil))) .nil))) (.call 6 (.cons (.var 1) (.cons (.cst (.int 2)) .nil))))) (.cons (.asg (.n 4) (.newl .nil)) (.cons (.for (.n 5) (.range1 (.var 3)) (.cons (.expr (.mth .append (.var 4) (.cons (.mth .join (.cst (.str "")) (.cons (.comp [none,some 1] (.n 0) (.range1 (.var 2)) (.cst (.bl true)) (.idx (.cst (.str "01")) (.call 6 (.cons (.var 1) (.cons (.cst (.int 2)) .nil))))) .nil)) .nil))) .nil)) (.cons (.asg (.n 6) (.call 12 (.cons (.var 1) (.cons (.mth .join (.cst (.str " ")) (.cons (.var 4) .nil)) .nil)))) (.cons (.asg (.n 7) (.call 10 (.cons (.var 6) .nil))) (.cons (.asg (.n 8) (.cst .non)) (.cons (.asg (.n 9) (.cst (.bl false))) (.cons (.try (.cons (.asg (.n 8) (.call 0 (.cons (.var 6) .nil))) .nil) [0,1,2,3,4,5,6,7,8,9,10,11,12,13] 10 (.cons (.asg (.n 9) (.and (.isx (.var 10) [0,1,2,3,4,5,6,7,8,9,10,11,12,13] [.cls 1]) (.isx (.var 10) [0,1,2,3,4,5,6,7,8,9,10,11,12,13] [.val]))) (.cons (.asg (.n 9) (.and (.var 9) (.not (.isx (.var 10) [0,1,2,3,4,5,6,7,8,9,10,11,12,13] [.cls 0,.cls 2,.cls 3,.cls 4,.cls 5,.cls 6,.cls 7])))) (.cons (.asg (.n 9) (.and (.var 9) (.not (.isx (.var 10) [0,1,2,3,4,5,6,7,8,9,10,11,12,13] [.cls 8,.cls 9,.cls 10,.cls 11,.cls 12,.cls 13])))) .nil)))) (.cons (.ite (.not (.blt .all (.cons (.comp [none,some 6] (.n 0) (.range1 (.cst (.int 14))) (.cst (.bl true)) (.cmp .eq (.call 14 (.cons (.var 0) (.cons (.var 1) .nil))) (.comp [none,some 0] (.n 0) (.range1 (.cst (.int 14))) (.cst (.bl true)) (.cmp .eq (.var 1) (.var 0))))) .nil))) (.cons .nope .nil) .nil) (.cons (.ite (.cmp .is (.var 7) (.cst .non)) (.cons (.ret (.and (.var 9) (.cmp .is (.var 8) (.cst .non)))) .nil) .nil) (.cons (.ite (.or (.not (.isi (.var 8) [.tuple])) (.or (.cmp .ne (.blt .len (.cons (.var 8) .nil)) (.cst (.int 2))) (.or (.not (.call 8 (.cons (.idx (.var 8) (.cst (.int 0))) .nil))) (.cmp .ne (.idx (.var 8) (.cst (.int 0))) (.idx (.var 7) (.cst (.int 0))))))) (.cons .nope .nil) .nil) (.cons (.ret (.and (.call 9 (.cons (.idx (.var 8) (.cst (.int 1))) (.cons (.idx (.var 7) (.cst (.int 0))) (.cons (.blt .len (.cons (.idx (.var 7) (.cst (.int 1))) .nil)) .nil)))) (.cmp .eq (.var 8) (.var 7)))) .nil))))))))))))))⟩
noncomputable def T:Nat->Option Fn
 |0=>some f_read
 |1=>some f_read_word
 |2=>some f_read_two
 |3=>some zcl
 |4=>some f_qmixed
 |5=>some zbi
 |6=>some f_qtake
 |7=>some zbH
 |8=>some zdX
 |9=>some zbx
 |10=>some f_qdue
 |11=>some f_qsign
 |12=>some f_qspoilt
 |13=>some zex
 |14=>some zh0
 |15=>some f_law
 |_=>none
noncomputable abbrev zey:Nat:=0
noncomputable abbrev zbo:Nat:=1
noncomputable abbrev za7:Nat:=2
noncomputable abbrev zdU:Nat:=3
noncomputable abbrev zfV:Nat:=4
noncomputable abbrev zhp:Nat:=5
noncomputable abbrev z8:Nat:=6
noncomputable abbrev zcQ:Nat:=7
noncomputable abbrev zcn:Nat:=8
noncomputable abbrev zcH:Nat:=9
noncomputable abbrev zeg:Nat:=10
noncomputable abbrev zhC:Nat:=11
noncomputable abbrev zcA:Nat:=12
noncomputable abbrev zhX:Nat:=14
noncomputable abbrev zgw:Nat:=15
end IC
namespace WK
open PySem L2 IC
noncomputable def top (i:Nat):Stmt:=PySem.Challenge.pw_widewords_k05_texts_refused.main.body.getD i (.Pass ⟨0,0,0,0⟩)
noncomputable abbrev zav:Stmt:=top 20
theorem sc_read:FnScope ["text","words","w"] ["text"] (defScope zav):=⟨rfl,rfl,rfl,by decide +kernel,rfl,by decide +kernel,by decide +kernel⟩
noncomputable abbrev zN:Stmt:=top 21
theorem sc_read_word:FnScope ["text","w","word","sign"] ["text","w"] (defScope zN):=⟨rfl,rfl,rfl,by decide +kernel,rfl,by decide +kernel,by decide +kernel⟩
noncomputable abbrev z9:Stmt:=top 22
theorem sc_read_two:FnScope ["sign"] ["sign"] (defScope z9):=⟨rfl,rfl,rfl,by decide +kernel,rfl,by decide +kernel,by decide +kernel⟩
noncomputable abbrev za4:Stmt:=top 24
theorem sc_qfresh:FnScope ["_law_script"] ["_law_script"] (defScope za4):=⟨rfl,rfl,rfl,by decide +kernel,rfl,by decide +kernel,by decide +kernel⟩
noncomputable abbrev zaG:Stmt:=top 25
theorem sc_qmixed:FnScope ["_law_seed","_law_primes","_law_number_here","_law_k","_law_prime","_law_far","_law_square","_law_power"] ["_law_seed"] (defScope zaG):=⟨rfl,rfl,rfl,by decide +kernel,rfl,by decide +kernel,by decide +kernel⟩
noncomputable abbrev zaY:Stmt:=top 26
theorem sc_qfill:FnScope ["_law_state","_law_cells","_law_at","_law_seed"] ["_law_state"] (defScope zaY):=⟨rfl,rfl,rfl,by decide +kernel,rfl,by decide +kernel,by decide +kernel⟩
noncomputable abbrev zbh:Stmt:=top 27
theorem sc_qtake:FnScope ["_law_state","_law_many","_law_turns","_law_digit"] ["_law_state","_law_many"] (defScope zbh):=⟨rfl,rfl,rfl,by decide +kernel,rfl,by decide +kernel,by decide +kernel⟩
noncomputable abbrev zas:Stmt:=top 28
theorem sc_qtwo_to:FnScope ["_law_many","_law_found","_law_k"] ["_law_many"] (defScope zas):=⟨rfl,rfl,rfl,by decide +kernel,rfl,by decide +kernel,by decide +kernel⟩
noncomputable abbrev zah:Stmt:=top 29
theorem sc_qwhole:FnScope ["_law_thing"] ["_law_thing"] (defScope zah):=⟨rfl,rfl,rfl,by decide +kernel,rfl,by decide +kernel,by decide +kernel⟩
noncomputable abbrev zQ:Stmt:=top 30
theorem sc_qnumber:FnScope ["_law_thing","_law_w","_law_n"] ["_law_thing","_law_w","_law_n"] (defScope zQ):=⟨rfl,rfl,rfl,by decide +kernel,rfl,by decide +kernel,by decide +kernel⟩
noncomputable abbrev zbd:Stmt:=top 31
theorem sc_qdue:FnScope ["_law_text","_law_words","_law_w","_law_number_here","_law_word","_law_worth","_law_sign_here"] ["_law_text"] (defScope zbd):=⟨rfl,rfl,rfl,by decide +kernel,rfl,by decide +kernel,by decide +kernel⟩
noncomputable abbrev zaU:Stmt:=top 32
theorem sc_qsign:FnScope ["_law_state","_law_most"] ["_law_state"] (defScope zaU):=⟨rfl,rfl,rfl,by decide +kernel,rfl,by decide +kernel,by decide +kernel⟩
noncomputable abbrev z7:Stmt:=top 33
theorem sc_qspoilt:FnScope ["_law_state","_law_text","_law_way","_law_at","_law_sign_here","_law_words"] ["_law_state","_law_text"] (defScope z7):=⟨rfl,rfl,rfl,by decide +kernel,rfl,by decide +kernel,by decide +kernel⟩
noncomputable abbrev zz:Stmt:=top 34
theorem sc_qraised:FnScope ["_law_which","_law_text"] ["_law_which","_law_text"] (defScope zz):=⟨rfl,rfl,rfl,by decide +kernel,rfl,by decide +kernel,by decide +kernel⟩
noncomputable abbrev zU:Stmt:=top 35
theorem sc_qmet:FnScope ["_law_which","_law_text","_law_found","e"] ["_law_which","_law_text"] (defScope zU):=⟨rfl,rfl,rfl,by decide +kernel,rfl,by decide +kernel,by decide +kernel⟩
noncomputable abbrev zS:Stmt:=top 36
theorem sc_law:FnScope ["_law_script","_law_state","_law_w","_law_many","_law_words","_law_k","_law_text","_law_due_here","_law_found","_law_kind","e"] ["_law_script"] (defScope zS):=⟨rfl,rfl,rfl,by decide +kernel,rfl,by decide +kernel,by decide +kernel⟩
theorem zaV:VisAll ["text","words","w"] (defScope zav):=by unfold VisAll;decide +kernel
abbrev GI (s:Stmt)(x:String):Prop:=(defScope s).names.lookup (Str.ofString x)=some .globalImplicit
theorem zbk:GI zav "LEAST_WIDTH":=by decide +kernel
theorem zbC:GI zav "MOST_WIDTH":=by decide +kernel
theorem zbG:GI zav "MOST_WORDS":=by decide +kernel
theorem zc8:GI zav "NoText":=by decide +kernel
theorem zcS:GI zav "len":=by decide +kernel
theorem zcd:GI zav "reversed":=by decide +kernel
theorem zdM:GI zav "tuple":=by decide +kernel
theorem zF:VisAll ["text","w","word","sign"] (defScope zN):=by unfold VisAll;decide +kernel
theorem zbl:GI zN "NoText":=by decide +kernel
theorem zch:GI zN "len":=by decide +kernel
theorem zaS:GI zN "read_two":=by decide +kernel
theorem zaL:VisAll ["sign"] (defScope z9):=by unfold VisAll;decide +kernel
theorem zbu:GI z9 "NoText":=by decide +kernel
theorem zg5:VisAll ["_law_script"] (defScope za4):=by unfold VisAll;decide +kernel
theorem zo:VisAll ["_law_seed","_law_primes","_law_number_here","_law_k","_law_prime","_law_far","_law_square","_law_power"] (defScope zaG):=by unfold VisAll;decide +kernel
theorem zbm:GI zaG "enumerate":=by decide +kernel
theorem zt:VisAll ["_law_state","_law_cells","_law_at","_law_seed"] (defScope zaY):=by unfold VisAll;decide +kernel
theorem zcu:GI zaY "_law_mixed":=by decide +kernel
theorem zaw:GI zaY "len":=by decide +kernel
theorem zA:VisAll ["_law_state","_law_many","_law_turns","_law_digit"] (defScope zbh):=by unfold VisAll;decide +kernel
theorem zcW:GI zbh "_law_fill":=by decide +kernel
theorem zaj:VisAll ["_law_many","_law_found","_law_k"] (defScope zas):=by unfold VisAll;decide +kernel
theorem zcj:GI zas "range":=by decide +kernel
theorem zeJ:VisAll ["_law_thing"] (defScope zah):=by unfold VisAll;decide +kernel
theorem zc7:GI zah "bool":=by decide +kernel
theorem zdE:GI zah "int":=by decide +kernel
theorem zaf:GI zah "isinstance":=by decide +kernel
theorem zaA:VisAll ["_law_thing","_law_w","_law_n"] (defScope zQ):=by unfold VisAll;decide +kernel
theorem zbf:GI zQ "all":=by decide +kernel
theorem za0:GI zQ "isinstance":=by decide +kernel
theorem zda:GI zQ "len":=by decide +kernel
theorem zcf:GI zQ "tuple":=by decide +kernel
theorem zH:VisAll ["_law_text","_law_words","_law_w","_law_number_here","_law_word","_law_worth","_law_sign_here"] (defScope zbd):=by unfold VisAll;decide +kernel
theorem zfn:GI zbd "any":=by decide +kernel
theorem zbn:GI zbd "len":=by decide +kernel
theorem zdD:GI zbd "tuple":=by decide +kernel
theorem zbp:VisAll ["_law_state","_law_most"] (defScope zaU):=by unfold VisAll;decide +kernel
theorem zbe:GI zaU "_law_take":=by decide +kernel
theorem zev:GI zaU "len":=by decide +kernel
theorem zh:VisAll ["_law_state","_law_text","_law_way","_law_at","_law_sign_here","_law_words"] (defScope z7):=by unfold VisAll;decide +kernel
theorem zci:GI z7 "_law_sign":=by decide +kernel
theorem zad:GI z7 "_law_take":=by decide +kernel
theorem zax:GI z7 "len":=by decide +kernel
theorem zl:VisAll ["_law_which","_law_text"] (defScope zz):=by unfold VisAll;decide +kernel
theorem zbU:GI zz "NoCell":=by decide +kernel
theorem zbP:GI zz "NoDeed":=by decide +kernel
theorem zb8:GI zz "NoFit":=by decide +kernel
theorem zbY:GI zz "NoLine":=by decide +kernel
theorem zbW:GI zz "NoName":=by decide +kernel
theorem zb2:GI zz "NoPair":=by decide +kernel
theorem zaR:GI zz "NoQuotient":=by decide +kernel
theorem zb9:GI zz "NoRow":=by decide +kernel
theorem zbc:GI zz "NoTelling":=by decide +kernel
theorem zbM:GI zz "NoText":=by decide +kernel
theorem zb0:GI zz "NoUndo":=by decide +kernel
theorem zbF:GI zz "NoWidth":=by decide +kernel
theorem zbQ:GI zz "NoWord":=by decide +kernel
theorem zbB:GI zz "TooMany":=by decide +kernel
theorem zJ:VisAll ["_law_which","_law_text","_law_found","e"] (defScope zU):=by unfold VisAll;decide +kernel
theorem zc0:GI zU "NoCell":=by decide +kernel
theorem zcV:GI zU "NoDeed":=by decide +kernel
theorem zd0:GI zU "NoFit":=by decide +kernel
theorem zc2:GI zU "NoLine":=by decide +kernel
theorem zdb:GI zU "NoName":=by decide +kernel
theorem zc5:GI zU "NoPair":=by decide +kernel
theorem zbz:GI zU "NoQuotient":=by decide +kernel
theorem zd4:GI zU "NoRow":=by decide +kernel
theorem zbS:GI zU "NoTelling":=by decide +kernel
theorem zc4:GI zU "NoText":=by decide +kernel
theorem zc6:GI zU "NoUndo":=by decide +kernel
theorem zcE:GI zU "NoWidth":=by decide +kernel
theorem zc1:GI zU "NoWord":=by decide +kernel
theorem zcT:GI zU "TooMany":=by decide +kernel
theorem zbX:GI zU "WordError":=by decide +kernel
theorem zcz:GI zU "_law_raised":=by decide +kernel
theorem zj:GI zU "isinstance":=by decide +kernel
theorem zx:VisAll ["_law_script","_law_state","_law_w","_law_many","_law_words","_law_k","_law_text","_law_due_here","_law_found","_law_kind","e"] (defScope zS):=by unfold VisAll;decide +kernel
theorem zdQ:GI zS "NoCell":=by decide +kernel
theorem zdY:GI zS "NoDeed":=by decide +kernel
theorem zeO:GI zS "NoFit":=by decide +kernel
theorem zdC:GI zS "NoLine":=by decide +kernel
theorem zd7:GI zS "NoName":=by decide +kernel
theorem zdy:GI zS "NoPair":=by decide +kernel
theorem zbK:GI zS "NoQuotient":=by decide +kernel
theorem zet:GI zS "NoRow":=by decide +kernel
theorem zce:GI zS "NoTelling":=by decide +kernel
theorem zdO:GI zS "NoText":=by decide +kernel
theorem zd5:GI zS "NoUndo":=by decide +kernel
theorem zdc:GI zS "NoWidth":=by decide +kernel
theorem zd3:GI zS "NoWord":=by decide +kernel
theorem zc9:GI zS "TooMany":=by decide +kernel
theorem zbT:GI zS "ValueError":=by decide +kernel
theorem zcg:GI zS "WordError":=by decide +kernel
theorem zfq:GI zS "_law_due":=by decide +kernel
theorem zdJ:GI zS "_law_fresh":=by decide +kernel
theorem zcU:GI zS "_law_number":=by decide +kernel
theorem zcY:GI zS "_law_spoilt":=by decide +kernel
theorem z5:GI zS "_law_take":=by decide +kernel
theorem zdS:GI zS "_law_whole":=by decide +kernel
theorem zgi:GI zS "all":=by decide +kernel
theorem zM:GI zS "isinstance":=by decide +kernel
theorem zds:GI zS "len":=by decide +kernel
theorem zaO:GI zS "range":=by decide +kernel
theorem zfh:GI zS "read":=by decide +kernel
theorem zew:GI zS "tuple":=by decide +kernel
noncomputable def pss:Nat->Option (List Str)
 |0=>some ["text"]
 |1=>some ["text","w"]
 |2=>some ["sign"]
 |3=>some ["_law_script"]
 |4=>some ["_law_seed"]
 |5=>some ["_law_state"]
 |6=>some ["_law_state","_law_many"]
 |7=>some ["_law_many"]
 |8=>some ["_law_thing"]
 |9=>some ["_law_thing","_law_w","_law_n"]
 |10=>some ["_law_text"]
 |11=>some ["_law_state"]
 |12=>some ["_law_state","_law_text"]
 |13=>some ["_law_which","_law_text"]
 |14=>some ["_law_which","_law_text"]
 |15=>some ["_law_script"]
 |_=>none
structure Facts (K:PySem.W.Frag)(mg:Str->Option Value)(cl:Nat->Addr)(fa:Nat->Addr)(fdd:Nat->FuncData):Prop where
 F0:Fn K mg "read" zav ["text"] (fa 0) (fdd 0)
 F1:Fn K mg "read_word" zN ["text","w"] (fa 1) (fdd 1)
 F2:Fn K mg "read_two" z9 ["sign"] (fa 2) (fdd 2)
 F3:Fn K mg "_law_fresh" za4 ["_law_script"] (fa 3) (fdd 3)
 F4:Fn K mg "_law_mixed" zaG ["_law_seed"] (fa 4) (fdd 4)
 F5:Fn K mg "_law_fill" zaY ["_law_state"] (fa 5) (fdd 5)
 F6:Fn K mg "_law_take" zbh ["_law_state","_law_many"] (fa 6) (fdd 6)
 F7:Fn K mg "_law_two_to" zas ["_law_many"] (fa 7) (fdd 7)
 F8:Fn K mg "_law_whole" zah ["_law_thing"] (fa 8) (fdd 8)
 F9:Fn K mg "_law_number" zQ ["_law_thing","_law_w","_law_n"] (fa 9) (fdd 9)
 F10:Fn K mg "_law_due" zbd ["_law_text"] (fa 10) (fdd 10)
 F11:Fn K mg "_law_sign" zaU ["_law_state"] (fa 11) (fdd 11)
 F12:Fn K mg "_law_spoilt" z7 ["_law_state","_law_text"] (fa 12) (fdd 12)
 F13:Fn K mg "_law_raised" zz ["_law_which","_law_text"] (fa 13) (fdd 13)
 F14:Fn K mg "_law_met" zU ["_law_which","_law_text"] (fa 14) (fdd 14)
 F15:Fn K mg "law" zS ["_law_script"] (fa 15) (fdd 15)
 z_ValueError:mg "ValueError"=none
 z_all:mg "all"=none
 z_any:mg "any"=none
 z_bool:mg "bool"=none
 z_enumerate:mg "enumerate"=none
 z_int:mg "int"=none
 z_isinstance:mg "isinstance"=none
 z_len:mg "len"=none
 z_range:mg "range"=none
 z_reversed:mg "reversed"=none
 z_tuple:mg "tuple"=none
 k_bool:KitT K .bool
 k_int:KitT K .int
 k_tuple:KitT K .tuple
 c_LEAST_WIDTH:GCI mg "LEAST_WIDTH" 4
 c_MOST_WIDTH:GCI mg "MOST_WIDTH" 16
 c_MOST_WORDS:GCI mg "MOST_WORDS" 8
 n_0:mg "NoFit"=some (.ref (cl 0))
 n_1:mg "NoText"=some (.ref (cl 1))
 n_2:mg "NoCell"=some (.ref (cl 2))
 n_3:mg "NoWord"=some (.ref (cl 3))
 n_4:mg "NoRow"=some (.ref (cl 4))
 n_5:mg "NoTelling"=some (.ref (cl 5))
 n_6:mg "NoDeed"=some (.ref (cl 6))
 n_7:mg "NoQuotient"=some (.ref (cl 7))
 n_8:mg "TooMany"=some (.ref (cl 8))
 n_9:mg "NoLine"=some (.ref (cl 9))
 n_10:mg "NoName"=some (.ref (cl 10))
 n_11:mg "NoWidth"=some (.ref (cl 11))
 n_12:mg "NoPair"=some (.ref (cl 12))
 n_13:mg "NoUndo"=some (.ref (cl 13))
 n_14:mg "WordError"=some (.ref (cl 14))
 r_0:RaiseK K mg (cl 0) "NoFit"
 t_0:PySem.W.exmOne K (.ref (cl 0)) (.ref (cl 14))=some true
 x_0:ExcK K (cl 0)
 i_0_0:IsxK K cl 0 (.cls 0)
 i_0_1:IsxK K cl 0 (.cls 1)
 i_0_2:IsxK K cl 0 (.cls 2)
 i_0_3:IsxK K cl 0 (.cls 3)
 i_0_4:IsxK K cl 0 (.cls 4)
 i_0_5:IsxK K cl 0 (.cls 5)
 i_0_6:IsxK K cl 0 (.cls 6)
 i_0_7:IsxK K cl 0 (.cls 7)
 i_0_8:IsxK K cl 0 (.cls 8)
 i_0_9:IsxK K cl 0 (.cls 9)
 i_0_10:IsxK K cl 0 (.cls 10)
 i_0_11:IsxK K cl 0 (.cls 11)
 i_0_12:IsxK K cl 0 (.cls 12)
 i_0_13:IsxK K cl 0 (.cls 13)
 i_0_v:IsxK K cl 0 .val
 r_1:RaiseK K mg (cl 1) "NoText"
 t_1:PySem.W.exmOne K (.ref (cl 1)) (.ref (cl 14))=some true
 x_1:ExcK K (cl 1)
 i_1_0:IsxK K cl 1 (.cls 0)
 i_1_1:IsxK K cl 1 (.cls 1)
 i_1_2:IsxK K cl 1 (.cls 2)
 i_1_3:IsxK K cl 1 (.cls 3)
 i_1_4:IsxK K cl 1 (.cls 4)
 i_1_5:IsxK K cl 1 (.cls 5)
 i_1_6:IsxK K cl 1 (.cls 6)
 i_1_7:IsxK K cl 1 (.cls 7)
 i_1_8:IsxK K cl 1 (.cls 8)
 i_1_9:IsxK K cl 1 (.cls 9)
 i_1_10:IsxK K cl 1 (.cls 10)
 i_1_11:IsxK K cl 1 (.cls 11)
 i_1_12:IsxK K cl 1 (.cls 12)
 i_1_13:IsxK K cl 1 (.cls 13)
 i_1_v:IsxK K cl 1 .val
 r_2:RaiseK K mg (cl 2) "NoCell"
 t_2:PySem.W.exmOne K (.ref (cl 2)) (.ref (cl 14))=some true
 x_2:ExcK K (cl 2)
 i_2_0:IsxK K cl 2 (.cls 0)
 i_2_1:IsxK K cl 2 (.cls 1)
 i_2_2:IsxK K cl 2 (.cls 2)
 i_2_3:IsxK K cl 2 (.cls 3)
 i_2_4:IsxK K cl 2 (.cls 4)
 i_2_5:IsxK K cl 2 (.cls 5)
 i_2_6:IsxK K cl 2 (.cls 6)
 i_2_7:IsxK K cl 2 (.cls 7)
 i_2_8:IsxK K cl 2 (.cls 8)
 i_2_9:IsxK K cl 2 (.cls 9)
 i_2_10:IsxK K cl 2 (.cls 10)
 i_2_11:IsxK K cl 2 (.cls 11)
 i_2_12:IsxK K cl 2 (.cls 12)
 i_2_13:IsxK K cl 2 (.cls 13)
 i_2_v:IsxK K cl 2 .val
 r_3:RaiseK K mg (cl 3) "NoWord"
 t_3:PySem.W.exmOne K (.ref (cl 3)) (.ref (cl 14))=some true
 x_3:ExcK K (cl 3)
 i_3_0:IsxK K cl 3 (.cls 0)
 i_3_1:IsxK K cl 3 (.cls 1)
 i_3_2:IsxK K cl 3 (.cls 2)
 i_3_3:IsxK K cl 3 (.cls 3)
 i_3_4:IsxK K cl 3 (.cls 4)
 i_3_5:IsxK K cl 3 (.cls 5)
 i_3_6:IsxK K cl 3 (.cls 6)
 i_3_7:IsxK K cl 3 (.cls 7)
 i_3_8:IsxK K cl 3 (.cls 8)
 i_3_9:IsxK K cl 3 (.cls 9)
 i_3_10:IsxK K cl 3 (.cls 10)
 i_3_11:IsxK K cl 3 (.cls 11)
 i_3_12:IsxK K cl 3 (.cls 12)
 i_3_13:IsxK K cl 3 (.cls 13)
 i_3_v:IsxK K cl 3 .val
 r_4:RaiseK K mg (cl 4) "NoRow"
 t_4:PySem.W.exmOne K (.ref (cl 4)) (.ref (cl 14))=some true
 x_4:ExcK K (cl 4)
 i_4_0:IsxK K cl 4 (.cls 0)
 i_4_1:IsxK K cl 4 (.cls 1)
 i_4_2:IsxK K cl 4 (.cls 2)
 i_4_3:IsxK K cl 4 (.cls 3)
 i_4_4:IsxK K cl 4 (.cls 4)
 i_4_5:IsxK K cl 4 (.cls 5)
 i_4_6:IsxK K cl 4 (.cls 6)
 i_4_7:IsxK K cl 4 (.cls 7)
 i_4_8:IsxK K cl 4 (.cls 8)
 i_4_9:IsxK K cl 4 (.cls 9)
 i_4_10:IsxK K cl 4 (.cls 10)
 i_4_11:IsxK K cl 4 (.cls 11)
 i_4_12:IsxK K cl 4 (.cls 12)
 i_4_13:IsxK K cl 4 (.cls 13)
 i_4_v:IsxK K cl 4 .val
 r_5:RaiseK K mg (cl 5) "NoTelling"
 t_5:PySem.W.exmOne K (.ref (cl 5)) (.ref (cl 14))=some true
 x_5:ExcK K (cl 5)
 i_5_0:IsxK K cl 5 (.cls 0)
 i_5_1:IsxK K cl 5 (.cls 1)
 i_5_2:IsxK K cl 5 (.cls 2)
 i_5_3:IsxK K cl 5 (.cls 3)
 i_5_4:IsxK K cl 5 (.cls 4)
 i_5_5:IsxK K cl 5 (.cls 5)
 i_5_6:IsxK K cl 5 (.cls 6)
 i_5_7:IsxK K cl 5 (.cls 7)
 i_5_8:IsxK K cl 5 (.cls 8)
 i_5_9:IsxK K cl 5 (.cls 9)
 i_5_10:IsxK K cl 5 (.cls 10)
 i_5_11:IsxK K cl 5 (.cls 11)
 i_5_12:IsxK K cl 5 (.cls 12)
 i_5_13:IsxK K cl 5 (.cls 13)
 i_5_v:IsxK K cl 5 .val
 r_6:RaiseK K mg (cl 6) "NoDeed"
 t_6:PySem.W.exmOne K (.ref (cl 6)) (.ref (cl 14))=some true
 x_6:ExcK K (cl 6)
 i_6_0:IsxK K cl 6 (.cls 0)
 i_6_1:IsxK K cl 6 (.cls 1)
 i_6_2:IsxK K cl 6 (.cls 2)
 i_6_3:IsxK K cl 6 (.cls 3)
 i_6_4:IsxK K cl 6 (.cls 4)
 i_6_5:IsxK K cl 6 (.cls 5)
 i_6_6:IsxK K cl 6 (.cls 6)
 i_6_7:IsxK K cl 6 (.cls 7)
 i_6_8:IsxK K cl 6 (.cls 8)
 i_6_9:IsxK K cl 6 (.cls 9)
 i_6_10:IsxK K cl 6 (.cls 10)
 i_6_11:IsxK K cl 6 (.cls 11)
 i_6_12:IsxK K cl 6 (.cls 12)
 i_6_13:IsxK K cl 6 (.cls 13)
 i_6_v:IsxK K cl 6 .val
 r_7:RaiseK K mg (cl 7) "NoQuotient"
 t_7:PySem.W.exmOne K (.ref (cl 7)) (.ref (cl 14))=some true
 x_7:ExcK K (cl 7)
 i_7_0:IsxK K cl 7 (.cls 0)
 i_7_1:IsxK K cl 7 (.cls 1)
 i_7_2:IsxK K cl 7 (.cls 2)
 i_7_3:IsxK K cl 7 (.cls 3)
 i_7_4:IsxK K cl 7 (.cls 4)
 i_7_5:IsxK K cl 7 (.cls 5)
 i_7_6:IsxK K cl 7 (.cls 6)
 i_7_7:IsxK K cl 7 (.cls 7)
 i_7_8:IsxK K cl 7 (.cls 8)
 i_7_9:IsxK K cl 7 (.cls 9)
 i_7_10:IsxK K cl 7 (.cls 10)
 i_7_11:IsxK K cl 7 (.cls 11)
 i_7_12:IsxK K cl 7 (.cls 12)
 i_7_13:IsxK K cl 7 (.cls 13)
 i_7_v:IsxK K cl 7 .val
 r_8:RaiseK K mg (cl 8) "TooMany"
 t_8:PySem.W.exmOne K (.ref (cl 8)) (.ref (cl 14))=some true
 x_8:ExcK K (cl 8)
 i_8_0:IsxK K cl 8 (.cls 0)
 i_8_1:IsxK K cl 8 (.cls 1)
 i_8_2:IsxK K cl 8 (.cls 2)
 i_8_3:IsxK K cl 8 (.cls 3)
 i_8_4:IsxK K cl 8 (.cls 4)
 i_8_5:IsxK K cl 8 (.cls 5)
 i_8_6:IsxK K cl 8 (.cls 6)
 i_8_7:IsxK K cl 8 (.cls 7)
 i_8_8:IsxK K cl 8 (.cls 8)
 i_8_9:IsxK K cl 8 (.cls 9)
 i_8_10:IsxK K cl 8 (.cls 10)
 i_8_11:IsxK K cl 8 (.cls 11)
 i_8_12:IsxK K cl 8 (.cls 12)
 i_8_13:IsxK K cl 8 (.cls 13)
 i_8_v:IsxK K cl 8 .val
 r_9:RaiseK K mg (cl 9) "NoLine"
 t_9:PySem.W.exmOne K (.ref (cl 9)) (.ref (cl 14))=some true
 x_9:ExcK K (cl 9)
 i_9_0:IsxK K cl 9 (.cls 0)
 i_9_1:IsxK K cl 9 (.cls 1)
 i_9_2:IsxK K cl 9 (.cls 2)
 i_9_3:IsxK K cl 9 (.cls 3)
 i_9_4:IsxK K cl 9 (.cls 4)
 i_9_5:IsxK K cl 9 (.cls 5)
 i_9_6:IsxK K cl 9 (.cls 6)
 i_9_7:IsxK K cl 9 (.cls 7)
 i_9_8:IsxK K cl 9 (.cls 8)
 i_9_9:IsxK K cl 9 (.cls 9)
 i_9_10:IsxK K cl 9 (.cls 10)
 i_9_11:IsxK K cl 9 (.cls 11)
 i_9_12:IsxK K cl 9 (.cls 12)
 i_9_13:IsxK K cl 9 (.cls 13)
 i_9_v:IsxK K cl 9 .val
 r_10:RaiseK K mg (cl 10) "NoName"
 t_10:PySem.W.exmOne K (.ref (cl 10)) (.ref (cl 14))=some true
 x_10:ExcK K (cl 10)
 i_10_0:IsxK K cl 10 (.cls 0)
 i_10_1:IsxK K cl 10 (.cls 1)
 i_10_2:IsxK K cl 10 (.cls 2)
 i_10_3:IsxK K cl 10 (.cls 3)
 i_10_4:IsxK K cl 10 (.cls 4)
 i_10_5:IsxK K cl 10 (.cls 5)
 i_10_6:IsxK K cl 10 (.cls 6)
 i_10_7:IsxK K cl 10 (.cls 7)
 i_10_8:IsxK K cl 10 (.cls 8)
 i_10_9:IsxK K cl 10 (.cls 9)
 i_10_10:IsxK K cl 10 (.cls 10)
 i_10_11:IsxK K cl 10 (.cls 11)
 i_10_12:IsxK K cl 10 (.cls 12)
 i_10_13:IsxK K cl 10 (.cls 13)
 i_10_v:IsxK K cl 10 .val
 r_11:RaiseK K mg (cl 11) "NoWidth"
 t_11:PySem.W.exmOne K (.ref (cl 11)) (.ref (cl 14))=some true
 x_11:ExcK K (cl 11)
 i_11_0:IsxK K cl 11 (.cls 0)
 i_11_1:IsxK K cl 11 (.cls 1)
 i_11_2:IsxK K cl 11 (.cls 2)
 i_11_3:IsxK K cl 11 (.cls 3)
 i_11_4:IsxK K cl 11 (.cls 4)
 i_11_5:IsxK K cl 11 (.cls 5)
 i_11_6:IsxK K cl 11 (.cls 6)
 i_11_7:IsxK K cl 11 (.cls 7)
 i_11_8:IsxK K cl 11 (.cls 8)
 i_11_9:IsxK K cl 11 (.cls 9)
 i_11_10:IsxK K cl 11 (.cls 10)
 i_11_11:IsxK K cl 11 (.cls 11)
 i_11_12:IsxK K cl 11 (.cls 12)
 i_11_13:IsxK K cl 11 (.cls 13)
 i_11_v:IsxK K cl 11 .val
 r_12:RaiseK K mg (cl 12) "NoPair"
 t_12:PySem.W.exmOne K (.ref (cl 12)) (.ref (cl 14))=some true
 x_12:ExcK K (cl 12)
 i_12_0:IsxK K cl 12 (.cls 0)
 i_12_1:IsxK K cl 12 (.cls 1)
 i_12_2:IsxK K cl 12 (.cls 2)
 i_12_3:IsxK K cl 12 (.cls 3)
 i_12_4:IsxK K cl 12 (.cls 4)
 i_12_5:IsxK K cl 12 (.cls 5)
 i_12_6:IsxK K cl 12 (.cls 6)
 i_12_7:IsxK K cl 12 (.cls 7)
 i_12_8:IsxK K cl 12 (.cls 8)
 i_12_9:IsxK K cl 12 (.cls 9)
 i_12_10:IsxK K cl 12 (.cls 10)
 i_12_11:IsxK K cl 12 (.cls 11)
 i_12_12:IsxK K cl 12 (.cls 12)
 i_12_13:IsxK K cl 12 (.cls 13)
 i_12_v:IsxK K cl 12 .val
 r_13:RaiseK K mg (cl 13) "NoUndo"
 t_13:PySem.W.exmOne K (.ref (cl 13)) (.ref (cl 14))=some true
 x_13:ExcK K (cl 13)
 i_13_0:IsxK K cl 13 (.cls 0)
 i_13_1:IsxK K cl 13 (.cls 1)
 i_13_2:IsxK K cl 13 (.cls 2)
 i_13_3:IsxK K cl 13 (.cls 3)
 i_13_4:IsxK K cl 13 (.cls 4)
 i_13_5:IsxK K cl 13 (.cls 5)
 i_13_6:IsxK K cl 13 (.cls 6)
 i_13_7:IsxK K cl 13 (.cls 7)
 i_13_8:IsxK K cl 13 (.cls 8)
 i_13_9:IsxK K cl 13 (.cls 9)
 i_13_10:IsxK K cl 13 (.cls 10)
 i_13_11:IsxK K cl 13 (.cls 11)
 i_13_12:IsxK K cl 13 (.cls 12)
 i_13_13:IsxK K cl 13 (.cls 13)
 i_13_v:IsxK K cl 13 .val
def Fns (P:Program)(w:World)(K:PySem.W.Frag)(mg:Str->Option Value)(base:Heap)(cl:Nat->Addr)(fa:Nat->Addr)(fdd:Nat->FuncData)(k:Nat):Prop:=∀i ps,pss i=some ps->FnOk P w K mg base (CX1 P w) k (fa i) (fdd i) ps (spI K cl (callT T k) i)
section
variable {P:Program}{w:World}{K:PySem.W.Frag}{mg:Str->Option Value}{base:Heap}{cl:Nat->Addr}{fa:Nat->Addr}{fdd:Nat->FuncData}{k:Nat}
abbrev BD (P:Program)(w:World)(K:PySem.W.Frag)(mg:Str->Option Value)(base:Heap)(cl fa:Nat->Addr)(fdd:Nat->FuncData)(k i:Nat)(ps:List Str):Prop := Facts K mg cl fa fdd->Fns P w K mg base cl fa fdd k->FnOk P w K mg base (CX1 P w) (k+1) (fa i) (fdd i) ps (spI K cl (callT T (k+1)) i)
theorem zj2 :BD P w K mg base cl fa fdd k 0 ["text"]:=fun Z C=>zY (fn:=f_read) rfl Z.F0.F sc_read rfl rfl fun _ _ _ _ _ _ hr=>have nd:=sc_read.nd;have hu1:=zaT hr;(zb (zk (i:=1) nd rfl (lcF (i:=1) zaV rfl) (zdh (ze zaV 0) zI)) (zb (zk (i:=2) nd rfl (lcF (i:=2) zaV rfl) (zD zaa zcS Z.z_len zab (zc (zu (ze zaV 1) zd) zg))) (zb (zB (zan (zay (za6 (zgg zjt zjt (zdN (i:=4) zbk Z.c_LEAST_WIDTH) (ze zaV 2) (zdN (i:=16) zbC Z.c_MOST_WIDTH))) (za8 (zm zia (zD zaa zcS Z.z_len zab (zc (ze zaV 1) zg)) (zdN (i:=8) zbG Z.c_MOST_WORDS) (nomark _))))) (zb (zy Z.r_1 rfl rfl zc8 zI) zf) zf) (zb (zG (zaF (zc (ze zaV 2) (zc (zeN zfU zdM Z.z_tuple zcq (zc (zgj ⟨_,rfl⟩ rfl rfl rfl (compOk (NC:=["word","w"]) (slots:=[none,some 2]) ["text","words","w"] (defScope zav) rfl rfl rfl (by decide +kernel) (by decide +kernel) (by decide +kernel) (by decide +kernel) rfl) (by decide) (zgC zcd Z.z_reversed (ze zaV 1)) (fun j=>zar rfl (zP (i:=0) (show (["word","w"]:List Str).Nodup by decide +kernel) rfl (by first|exact Or.inl rfl|exact Or.inr rfl))) (fun j E=>(zp (C 1 _ rfl) hr rfl Z.F1.m Z.F1.F.kp Z.F1.b (zc (sv_k 0) (zc (sv_k 1) zg))))) zg)) zg)))) zf))))
theorem zez :BD P w K mg base cl fa fdd k 1 ["text","w"]:=fun Z C=>zY (fn:=f_read_word) rfl Z.F1.F sc_read_word rfl rfl fun _ _ _ _ _ _ hr=>have nd:=sc_read_word.nd;have hu1:=zaT hr;(zb (zB (zm (zeZ hr.units) (zD zaa zch Z.z_len zab (zc (ze zF 0) zg)) (ze zF 1) (nomark _)) (zb (zy Z.r_1 rfl rfl zbl (zfs (zaW (zdH (ze zF 0)) (zaW zfy (zaW (zdH (ze zF 1)) zjc))))) zf) zf) (zb (zk (i:=2) nd rfl (lcF (i:=2) zF rfl) zd) (zb (za2 own1 rfl (zbN (ze zF 0)) (zP (i:=3) nd rfl (lcF (i:=3) zF rfl)) (zb (zk (i:=2) nd rfl (lcF (i:=2) zF rfl) (zi zV (zi zal zd (ze zF 2)) (zp (C 2 _ rfl) hr zaS Z.F2.m Z.F2.F.kp Z.F2.b (zc (ze zF 3) zg)))) zf)) (zb (zG (ze zF 2)) zf))))
theorem ze2 :BD P w K mg base cl fa fdd k 2 ["sign"]:=fun Z C=>zY (fn:=f_read_two) rfl Z.F2.F sc_read_two rfl rfl fun _ _ _ _ _ _ hr=>have nd:=sc_read_two.nd;have hu1:=zaT hr;(zb (zB (zan (zbI (zm (zeZ hr.units) (ze zaL 0) zI (nomark _)) (zaZ (zm (zeZ hr.units) (ze zaL 0) zI (nomark _))))) (zb (zy Z.r_1 rfl rfl zbu (zfs (zaW (zdH (ze zaL 0)) (zaW zfy zjc)))) zf) zf) (zb (zG (zi6 (zm (zap hr.units) (ze zaL 0) zI (nomark _)) zd zd)) zf))
theorem zhH :BD P w K mg base cl fa fdd k 3 ["_law_script"]:=fun Z C=>zY (fn:=zcl) rfl Z.F3.F sc_qfresh rfl rfl fun _ _ _ _ _ _ hr=>have nd:=sc_qfresh.nd;have hu1:=zaT hr;(zb (zG (zaP (zc (zaI (ze zg5 0) zam (zak zd)) (zc zd (zc zd (zc zgt zg)))))) zf)
theorem zgJ :BD P w K mg base cl fa fdd k 4 ["_law_seed"]:=fun Z C=>zY (fn:=f_qmixed) rfl Z.F4.F sc_qmixed rfl rfl fun _ _ _ _ _ _ hr=>have nd:=sc_qmixed.nd;have hu1:=zaT hr;(zb (zk (i:=1) nd rfl (lcF (i:=1) zo rfl) (zaF (zc zd (zc zd (zc zd (zc zd (zc zd zg))))))) (zb (zk (i:=2) nd rfl (lcF (i:=2) zo rfl) zd) (zb (za2 own1 rfl (zgV zbm Z.z_enumerate (ze zo 1)) (zik rfl (zdg (i:=3) nd rfl (lcF (i:=3) zo rfl) (zdg (i:=4) nd rfl (lcF (i:=4) zo rfl) zg2))) (zb (zk (i:=5) nd rfl (lcF (i:=5) zo rfl) (zi zV (ze zo 0) (zu (zaF (zc zd (zc zd (zc zd (zc zd (zc zd zg)))))) (ze zo 3)))) (zb (zk (i:=5) nd rfl (lcF (i:=5) zo rfl) (zi zb6 (zi zal (ze zo 5) (zi zV zd (zi zal zd (ze zo 3)))) (ze zo 4))) (zb (zk (i:=6) nd rfl (lcF (i:=6) zo rfl) (zi zb6 (zi zal (ze zo 5) (ze zo 5)) (ze zo 4))) (zb (zk (i:=7) nd rfl (lcF (i:=7) zo rfl) (zi zb6 (zi zal (zi zb6 (zi zal (ze zo 6) (ze zo 6)) (ze zo 4)) (ze zo 5)) (ze zo 4))) (zb (zk (i:=2) nd rfl (lcF (i:=2) zo rfl) (zi zV (zi zal (ze zo 2) (ze zo 4)) (ze zo 7))) zf)))))) (zb (zG (ze zo 2)) zf))))
theorem ziV :BD P w K mg base cl fa fdd k 5 ["_law_state"]:=fun Z C=>zY (fn:=zbi) rfl Z.F5.F sc_qfill rfl rfl fun _ _ _ _ _ _ hr=>have nd:=sc_qfill.nd;have hu1:=zaT hr;(zb (ziZ rfl nd rfl rfl (by decide) (ziH rfl nd rfl rfl (by decide) rfl rfl (zc (zu (ze zt 0) zd) (zc (zu (ze zt 0) zd) zg)) rfl)) (zb (zk (i:=3) nd rfl (lcF (i:=3) zt rfl) (zi zV (zi zal zd (ze zt 2)) zd)) (zb (zB (zm zia (zD zaa zaw Z.z_len zab (zc (ze zt 1) zg)) zd (nomark _)) (zb (zk (i:=3) nd rfl (lcF (i:=3) zt rfl) (zi zal zd (zi zhF (ze zt 2) (zD zaa zaw Z.z_len zab (zc (ze zt 1) zg))))) (zb (zk (i:=3) nd rfl (lcF (i:=3) zt rfl) (zi zV (ze zt 3) (zu (ze zt 1) (zi zb6 (ze zt 2) (zD zaa zaw Z.z_len zab (zc (ze zt 1) zg)))))) zf)) zf) (zb (za5 (zi zV (ze zt 2) zd) (ze zt 0) zd (hg:=zba (ze zt 0) zd zau)) (zb (za5 (zjJ (zaH zmv (ze zt 2) (zD zaa zaw Z.z_len zab (zc (ze zt 1) zg)) (nomark _)) (zaK (zaH ze8 (ze zt 3) (zi zjm zd zd) (nomark _)))) (ze zt 0) zd (hg:=zba (ze zt 0) zd zau)) (zb (zB (zag (zu (ze zt 0) zd)) (zb (za5 (zp (C 4 _ rfl) hr zcu Z.F4.m Z.F4.F.kp Z.F4.b (zc (ze zt 3) zg)) (ze zt 0) zd (hg:=zba (ze zt 0) zd zau)) zf) (zb (za5 (zi zlC (ze zt 3) (zi zjm zd zd)) (ze zt 0) zd (hg:=zba (ze zt 0) zd zau)) zf)) zf))))))
theorem zis :BD P w K mg base cl fa fdd k 6 ["_law_state","_law_many"]:=fun Z C=>zY (fn:=f_qtake) rfl Z.F6.F sc_qtake rfl rfl fun _ _ _ _ _ _ hr=>have nd:=sc_qtake.nd;have hu1:=zaT hr;(zb (zk (i:=2) nd rfl (lcF (i:=2) zA rfl) zd) (zb (zfZ own1 (zan (zbI (zm ze8 (ze zA 2) zd (nomark _)) (zaZ (zan (zay (zm (zap hr.units) (zu (ze zA 0) zd) zd (nomark _)) (za8 (zan (zbI (zag (zu (ze zA 0) zd)) (zaZ (zm ze8 (zu (ze zA 0) zd) (zi zal (ze zA 1) zd) (nomark _))))))))))) (zb (z6 (zp (C 5 _ rfl) hr zcW Z.F5.m Z.F5.F.kp Z.F5.b (zc (ze zA 0) zg))) (zb (zi4 (i:=2) nd rfl (lcF (i:=2) zA rfl) zd zke) (zb (zB (zan (zbI (zag (zu (ze zA 0) zd)) (zaZ (zm ze8 (zu (ze zA 0) zd) (zi zal (ze zA 1) zd) (nomark _))))) (zb (za5 (zi zV (zu (ze zA 0) zd) (zi zal (zi zal (ze zA 1) zd) (zi zV zd (zi zb6 (zu (ze zA 0) zd) zd)))) (ze zA 0) zd (hg:=zba (ze zA 0) zd zau)) zf) zf) zf)))) (zb (zk (i:=3) nd rfl (lcF (i:=3) zA rfl) (zi zb6 (zu (ze zA 0) zd) (ze zA 1))) (zb (za5 (zi zhF (zu (ze zA 0) zd) (ze zA 1)) (ze zA 0) zd (hg:=zba (ze zA 0) zd zau)) (zb (zG (ze zA 3)) zf)))))
theorem zgd :BD P w K mg base cl fa fdd k 7 ["_law_many"]:=fun Z C=>zY (fn:=zbH) rfl Z.F7.F sc_qtwo_to rfl rfl fun _ _ _ _ _ _ hr=>have nd:=sc_qtwo_to.nd;have hu1:=zaT hr;(zb (zk (i:=1) nd rfl (lcF (i:=1) zaj rfl) zd) (zb (za2 own1 rfl (zaq zcj Z.z_range (ze zaj 0)) (zP (i:=2) nd rfl (lcF (i:=2) zaj rfl)) (zb (zk (i:=1) nd rfl (lcF (i:=1) zaj rfl) (zi zal zd (ze zaj 1))) zf)) (zb (zG (ze zaj 1)) zf)))
theorem zgK :BD P w K mg base cl fa fdd k 8 ["_law_thing"]:=fun Z C=>zY (fn:=zdX) rfl Z.F8.F sc_qwhole rfl rfl fun _ _ _ _ _ _ hr=>have nd:=sc_qwhole.nd;have hu1:=zaT hr;(zb (zG (za1 (zco (t:=.int) Z.k_int rfl zaf Z.z_isinstance zdE Z.z_int zkX (ze zeJ 0)) (zaK (zdG (zco (t:=.bool) Z.k_bool rfl zaf Z.z_isinstance zc7 Z.z_bool zko (ze zeJ 0)))))) zf)
theorem zf1 :BD P w K mg base cl fa fdd k 9 ["_law_thing","_law_w","_law_n"]:=fun Z C=>zY (fn:=zbx) rfl Z.F9.F sc_qnumber rfl rfl fun _ _ _ _ _ _ hr=>have nd:=sc_qnumber.nd;have hu1:=zaT hr;(zb (zB (zan (zay (za6 (zag (zco (t:=.tuple) Z.k_tuple rfl za0 Z.z_isinstance zcf Z.z_tuple zcq (ze zaA 0)))) (zay (zm (zeZ hr.units) (zD zaa zda Z.z_len zab (zc (ze zaA 0) zg)) (ze zaA 2) (nomark _)) (za8 (za6 (zag (zD (zgQ rfl) zbf Z.z_all zgR (zc (zaX rfl (compOk (NC:=["_law_word"]) (slots:=[none]) ["_law_thing","_law_w","_law_n"] (defScope zQ) rfl rfl rfl (by decide +kernel) (by decide +kernel) (by decide +kernel) (by decide +kernel) rfl) (by decide) (zdt (ze zaA 0)) (fun j=>zar rfl (zP (i:=0) (show (["_law_word"]:List Str).Nodup by decide +kernel) rfl (by first|exact Or.inl rfl|exact Or.inr rfl))) (fun j=>zai) (fun j=>zaC rfl (zp (C 8 _ rfl) hr rfl Z.F8.m Z.F8.F.kp Z.F8.b (zc (sv_k 0) zg)))) zg)))))))) (zb zcR zf) zf) (zb (zG (zD (zgQ rfl) zbf Z.z_all zgR (zc (zaX rfl (compOk (NC:=["_law_word","_law_w"]) (slots:=[none,some 1]) ["_law_thing","_law_w","_law_n"] (defScope zQ) rfl rfl rfl (by decide +kernel) (by decide +kernel) (by decide +kernel) (by decide +kernel) rfl) (by decide) (zdt (ze zaA 0)) (fun j=>zar rfl (zP (i:=0) (show (["_law_word","_law_w"]:List Str).Nodup by decide +kernel) rfl (by first|exact Or.inl rfl|exact Or.inr rfl))) (fun j=>zai) (fun j=>zaC rfl (zgf zjt ze8 zd (sv_k 0) (zp (C 7 _ rfl) hr rfl Z.F7.m Z.F7.F.kp Z.F7.b (zc (sv_k 1) zg))))) zg))) zf))
theorem zjA :BD P w K mg base cl fa fdd k 10 ["_law_text"]:=fun Z C=>zY (fn:=f_qdue) rfl Z.F10.F sc_qdue rfl rfl fun _ _ _ _ _ _ hr=>have nd:=sc_qdue.nd;have hu1:=zaT hr;(zb (zk (i:=1) nd rfl (lcF (i:=1) zH rfl) (zdh (ze zH 0) zI)) (zb (zk (i:=2) nd rfl (lcF (i:=2) zH rfl) (zD zaa zbn Z.z_len zab (zc (zu (ze zH 1) zd) zg))) (zb (zB (zan (zay (zm ze8 (ze zH 2) zd (nomark _)) (zay (zm zia (ze zH 2) zd (nomark _)) (za8 (zm zia (zD zaa zbn Z.z_len zab (zc (ze zH 1) zg)) zd (nomark _)))))) (zb (zG zbE) zf) zf) (zb (zk (i:=3) nd rfl (lcF (i:=3) zH rfl) (zaP zg)) (zb (za2 own1 rfl (zdt (zii (ze zH 1) (zic zd))) (zP (i:=4) nd rfl (lcF (i:=4) zH rfl)) (zb (zB (zan (zay (zm (zeZ hr.units) (zD zaa zbn Z.z_len zab (zc (ze zH 4) zg)) (ze zH 2) (nomark _)) (za8 (zag (zD (zl7 rfl) zfn Z.z_any zli (zc (zaX rfl (compOk (NC:=["_law_sign_here"]) (slots:=[none]) ["_law_text","_law_words","_law_w","_law_number_here","_law_word","_law_worth","_law_sign_here"] (defScope zbd) rfl rfl rfl (by decide +kernel) (by decide +kernel) (by decide +kernel) (by decide +kernel) rfl) (by decide) (zbN (ze zH 4)) (fun j=>zar rfl (zP (i:=0) (show (["_law_sign_here"]:List Str).Nodup by decide +kernel) rfl (by first|exact Or.inl rfl|exact Or.inr rfl))) (fun j=>zai) (fun j=>zaC rfl (zaH ziP (sv_k 0) zI (by with_unfolding_all rfl)))) zg)))))) (zb (zG zbE) zf) zf) (zb (zk (i:=5) nd rfl (lcF (i:=5) zH rfl) zd) (zb (za2 own1 rfl (zbN (ze zH 4)) (zP (i:=6) nd rfl (lcF (i:=6) zH rfl)) (zb (zk (i:=5) nd rfl (lcF (i:=5) zH rfl) (zi zV (zi zal zd (ze zH 5)) (zhg zI (ze zH 6)))) zf)) (zb (z6 (zcD (ze zH 3) (ze zH 5))) zf))))) (zb (zG (zaF (zc (ze zH 2) (zc (zeN zfU zdD Z.z_tuple zcq (zc (ze zH 3) zg)) zg)))) zf))))))
theorem zit :BD P w K mg base cl fa fdd k 11 ["_law_state"]:=fun Z C=>zY (fn:=f_qsign) rfl Z.F11.F sc_qsign rfl rfl fun _ _ _ _ _ _ hr=>have nd:=sc_qsign.nd;have hu1:=zaT hr;(zb (zk (i:=1) nd rfl (lcF (i:=1) zbp rfl) zI) (zb (zG (zu (zaF (zc zI (zc zI (zc zI (zc (zu (ze zbp 1) (zp (C 6 _ rfl) hr zbe Z.F6.m Z.F6.F.kp Z.F6.b (zc (ze zbp 0) (zc (zD zaa zev Z.z_len zab (zc (ze zbp 1) zg)) zg)))) zg))))) (zp (C 6 _ rfl) hr zbe Z.F6.m Z.F6.F.kp Z.F6.b (zc (ze zbp 0) (zc zd zg))))) zf))
theorem zf3 :BD P w K mg base cl fa fdd k 12 ["_law_state","_law_text"]:=fun Z C=>zY (fn:=f_qspoilt) rfl Z.F12.F sc_qspoilt rfl rfl fun _ _ _ _ _ _ hr=>have nd:=sc_qspoilt.nd;have hu1:=zaT hr;(zb (zk (i:=2) nd rfl (lcF (i:=2) zh rfl) (zp (C 6 _ rfl) hr zad Z.F6.m Z.F6.F.kp Z.F6.b (zc (ze zh 0) (zc zd zg)))) (zb (zk (i:=3) nd rfl (lcF (i:=3) zh rfl) (zp (C 6 _ rfl) hr zad Z.F6.m Z.F6.F.kp Z.F6.b (zc (ze zh 0) (zc (zi zV (zD zaa zax Z.z_len zab (zc (ze zh 1) zg)) zd) zg)))) (zb (zk (i:=4) nd rfl (lcF (i:=4) zh rfl) (zp (C 11 _ rfl) hr zci Z.F11.m Z.F11.F.kp Z.F11.b (zc (ze zh 0) zg))) (zb (zB (zm (zap hr.units) (ze zh 2) zd (nomark _)) (zb (zG (zi zV (zi zV (zaI (ze zh 1) zam (zak (ze zh 3))) (ze zh 4)) (zaI (ze zh 1) (zak (ze zh 3)) zam))) zf) zf) (zb (zB (zm (zap hr.units) (ze zh 2) zd (nomark _)) (zb (zG (zi zV (zaI (ze zh 1) zam (zak (ze zh 3))) (zaI (ze zh 1) (zak (zi zV (ze zh 3) zd)) zam))) zf) zf) (zb (zB (zm (zap hr.units) (ze zh 2) zd (nomark _)) (zb (zG (zi zV (zi zV (zaI (ze zh 1) zam (zak (ze zh 3))) (ze zh 4)) (zaI (ze zh 1) (zak (zi zV (ze zh 3) zd)) zam))) zf) zf) (zb (zk (i:=5) nd rfl (lcF (i:=5) zh rfl) (zfi (ze zh 1) zI)) (zb (zk (i:=3) nd rfl (lcF (i:=3) zh rfl) (zi zb6 (ze zh 3) (zi zV (zD zaa zax Z.z_len zab (zc (ze zh 5) zg)) zd))) (zb (zB (zm (zap hr.units) (ze zh 2) zd (nomark _)) (zb (z6 (zcC (ze zh 5) (ze zh 3) (zh3 zI (zi zV zd (zp (C 6 _ rfl) hr zad Z.F6.m Z.F6.F.kp Z.F6.b (zc (ze zh 0) (zc zd zg))))))) zf) zf) (zb (zB (zan (zbI (zm (zap hr.units) (ze zh 2) zd (nomark _)) (zaZ (zm ze8 (ze zh 3) (zD zaa zax Z.z_len zab (zc (ze zh 5) zg)) (nomark _))))) (zb (z6 (zcC (ze zh 5) (ze zh 3) (zu (ze zh 5) (ze zh 3)))) zf) zf) (zb (zG (zcF zI (ze zh 5))) zf)))))))))))
theorem zgc :BD P w K mg base cl fa fdd k 13 ["_law_which","_law_text"]:=fun Z C=>zY (fn:=zex) rfl Z.F13.F sc_qraised rfl rfl fun _ _ _ _ _ _ hr=>have nd:=sc_qraised.nd;have hu1:=zaT hr;(zb (zB (zm (zap hr.units) (ze zl 0) zd (nomark _)) (zb (zy Z.r_0 rfl rfl zb8 (ze zl 1)) zf) zf) (zb (zB (zm (zap hr.units) (ze zl 0) zd (nomark _)) (zb (zy Z.r_1 rfl rfl zbM (ze zl 1)) zf) zf) (zb (zB (zm (zap hr.units) (ze zl 0) zd (nomark _)) (zb (zy Z.r_2 rfl rfl zbU (ze zl 1)) zf) zf) (zb (zB (zm (zap hr.units) (ze zl 0) zd (nomark _)) (zb (zy Z.r_3 rfl rfl zbQ (ze zl 1)) zf) zf) (zb (zB (zm (zap hr.units) (ze zl 0) zd (nomark _)) (zb (zy Z.r_4 rfl rfl zb9 (ze zl 1)) zf) zf) (zb (zB (zm (zap hr.units) (ze zl 0) zd (nomark _)) (zb (zy Z.r_5 rfl rfl zbc (ze zl 1)) zf) zf) (zb (zB (zm (zap hr.units) (ze zl 0) zd (nomark _)) (zb (zy Z.r_6 rfl rfl zbP (ze zl 1)) zf) zf) (zb (zB (zm (zap hr.units) (ze zl 0) zd (nomark _)) (zb (zy Z.r_7 rfl rfl zaR (ze zl 1)) zf) zf) (zb (zB (zm (zap hr.units) (ze zl 0) zd (nomark _)) (zb (zy Z.r_8 rfl rfl zbB (ze zl 1)) zf) zf) (zb (zB (zm (zap hr.units) (ze zl 0) zd (nomark _)) (zb (zy Z.r_9 rfl rfl zbY (ze zl 1)) zf) zf) (zb (zB (zm (zap hr.units) (ze zl 0) zd (nomark _)) (zb (zy Z.r_10 rfl rfl zbW (ze zl 1)) zf) zf) (zb (zB (zm (zap hr.units) (ze zl 0) zd (nomark _)) (zb (zy Z.r_11 rfl rfl zbF (ze zl 1)) zf) zf) (zb (zB (zm (zap hr.units) (ze zl 0) zd (nomark _)) (zb (zy Z.r_12 rfl rfl zb2 (ze zl 1)) zf) zf) (zb (zy Z.r_13 rfl rfl zb0 (ze zl 1)) zf))))))))))))))
theorem zkw :BD P w K mg base cl fa fdd k 14 ["_law_which","_law_text"]:=fun Z C=>zY (fn:=zh0) rfl Z.F14.F sc_qmet rfl rfl fun _ _ _ _ _ _ hr=>have nd:=sc_qmet.nd;have hu1:=zaT hr;(zb (zk (i:=2) nd rfl (lcF (i:=2) zJ rfl) (zaP zg)) (zb (zfL (i:=3) ⟨_,rfl⟩ rfl rfl nd rfl rfl zbX Z.n_14 (all_cons Z.t_0 (all_cons Z.t_1 (all_cons Z.t_2 (all_cons Z.t_3 (all_cons Z.t_4 (all_cons Z.t_5 (all_cons Z.t_6 (all_cons Z.t_7 (all_cons Z.t_8 (all_cons Z.t_9 (all_cons Z.t_10 (all_cons Z.t_11 (all_cons Z.t_12 (all_cons Z.t_13 all_nil)))))))))))))) (fun pn P=>(zb (z6 (zp (C 13 _ rfl) hr zcz Z.F13.m Z.F13.F.kp Z.F13.b (zc (ze zJ 0) (zc (ze zJ 1) zg)))) zf)) (fun pn a=>(zb (zk (i:=2) nd rfl (lcF (i:=2) zJ rfl) (zaP (zc (zK (all_cons ⟨Z.x_0,Z.i_0_0⟩ (all_cons ⟨Z.x_1,Z.i_1_0⟩ (all_cons ⟨Z.x_2,Z.i_2_0⟩ (all_cons ⟨Z.x_3,Z.i_3_0⟩ (all_cons ⟨Z.x_4,Z.i_4_0⟩ (all_cons ⟨Z.x_5,Z.i_5_0⟩ (all_cons ⟨Z.x_6,Z.i_6_0⟩ (all_cons ⟨Z.x_7,Z.i_7_0⟩ (all_cons ⟨Z.x_8,Z.i_8_0⟩ (all_cons ⟨Z.x_9,Z.i_9_0⟩ (all_cons ⟨Z.x_10,Z.i_10_0⟩ (all_cons ⟨Z.x_11,Z.i_11_0⟩ (all_cons ⟨Z.x_12,Z.i_12_0⟩ (all_cons ⟨Z.x_13,Z.i_13_0⟩ all_nil)))))))))))))) zj Z.z_isinstance (zw zd0 Z.n_0) (ze zJ 3)) (zc (zK (all_cons ⟨Z.x_0,Z.i_0_1⟩ (all_cons ⟨Z.x_1,Z.i_1_1⟩ (all_cons ⟨Z.x_2,Z.i_2_1⟩ (all_cons ⟨Z.x_3,Z.i_3_1⟩ (all_cons ⟨Z.x_4,Z.i_4_1⟩ (all_cons ⟨Z.x_5,Z.i_5_1⟩ (all_cons ⟨Z.x_6,Z.i_6_1⟩ (all_cons ⟨Z.x_7,Z.i_7_1⟩ (all_cons ⟨Z.x_8,Z.i_8_1⟩ (all_cons ⟨Z.x_9,Z.i_9_1⟩ (all_cons ⟨Z.x_10,Z.i_10_1⟩ (all_cons ⟨Z.x_11,Z.i_11_1⟩ (all_cons ⟨Z.x_12,Z.i_12_1⟩ (all_cons ⟨Z.x_13,Z.i_13_1⟩ all_nil)))))))))))))) zj Z.z_isinstance (zw zc4 Z.n_1) (ze zJ 3)) (zc (zK (all_cons ⟨Z.x_0,Z.i_0_2⟩ (all_cons ⟨Z.x_1,Z.i_1_2⟩ (all_cons ⟨Z.x_2,Z.i_2_2⟩ (all_cons ⟨Z.x_3,Z.i_3_2⟩ (all_cons ⟨Z.x_4,Z.i_4_2⟩ (all_cons ⟨Z.x_5,Z.i_5_2⟩ (all_cons ⟨Z.x_6,Z.i_6_2⟩ (all_cons ⟨Z.x_7,Z.i_7_2⟩ (all_cons ⟨Z.x_8,Z.i_8_2⟩ (all_cons ⟨Z.x_9,Z.i_9_2⟩ (all_cons ⟨Z.x_10,Z.i_10_2⟩ (all_cons ⟨Z.x_11,Z.i_11_2⟩ (all_cons ⟨Z.x_12,Z.i_12_2⟩ (all_cons ⟨Z.x_13,Z.i_13_2⟩ all_nil)))))))))))))) zj Z.z_isinstance (zw zc0 Z.n_2) (ze zJ 3)) (zc (zK (all_cons ⟨Z.x_0,Z.i_0_3⟩ (all_cons ⟨Z.x_1,Z.i_1_3⟩ (all_cons ⟨Z.x_2,Z.i_2_3⟩ (all_cons ⟨Z.x_3,Z.i_3_3⟩ (all_cons ⟨Z.x_4,Z.i_4_3⟩ (all_cons ⟨Z.x_5,Z.i_5_3⟩ (all_cons ⟨Z.x_6,Z.i_6_3⟩ (all_cons ⟨Z.x_7,Z.i_7_3⟩ (all_cons ⟨Z.x_8,Z.i_8_3⟩ (all_cons ⟨Z.x_9,Z.i_9_3⟩ (all_cons ⟨Z.x_10,Z.i_10_3⟩ (all_cons ⟨Z.x_11,Z.i_11_3⟩ (all_cons ⟨Z.x_12,Z.i_12_3⟩ (all_cons ⟨Z.x_13,Z.i_13_3⟩ all_nil)))))))))))))) zj Z.z_isinstance (zw zc1 Z.n_3) (ze zJ 3)) zg)))))) (zb (z6 (zbj (ze zJ 2) (zeb (zc (zK (all_cons ⟨Z.x_0,Z.i_0_4⟩ (all_cons ⟨Z.x_1,Z.i_1_4⟩ (all_cons ⟨Z.x_2,Z.i_2_4⟩ (all_cons ⟨Z.x_3,Z.i_3_4⟩ (all_cons ⟨Z.x_4,Z.i_4_4⟩ (all_cons ⟨Z.x_5,Z.i_5_4⟩ (all_cons ⟨Z.x_6,Z.i_6_4⟩ (all_cons ⟨Z.x_7,Z.i_7_4⟩ (all_cons ⟨Z.x_8,Z.i_8_4⟩ (all_cons ⟨Z.x_9,Z.i_9_4⟩ (all_cons ⟨Z.x_10,Z.i_10_4⟩ (all_cons ⟨Z.x_11,Z.i_11_4⟩ (all_cons ⟨Z.x_12,Z.i_12_4⟩ (all_cons ⟨Z.x_13,Z.i_13_4⟩ all_nil)))))))))))))) zj Z.z_isinstance (zw zd4 Z.n_4) (ze zJ 3)) (zc (zK (all_cons ⟨Z.x_0,Z.i_0_5⟩ (all_cons ⟨Z.x_1,Z.i_1_5⟩ (all_cons ⟨Z.x_2,Z.i_2_5⟩ (all_cons ⟨Z.x_3,Z.i_3_5⟩ (all_cons ⟨Z.x_4,Z.i_4_5⟩ (all_cons ⟨Z.x_5,Z.i_5_5⟩ (all_cons ⟨Z.x_6,Z.i_6_5⟩ (all_cons ⟨Z.x_7,Z.i_7_5⟩ (all_cons ⟨Z.x_8,Z.i_8_5⟩ (all_cons ⟨Z.x_9,Z.i_9_5⟩ (all_cons ⟨Z.x_10,Z.i_10_5⟩ (all_cons ⟨Z.x_11,Z.i_11_5⟩ (all_cons ⟨Z.x_12,Z.i_12_5⟩ (all_cons ⟨Z.x_13,Z.i_13_5⟩ all_nil)))))))))))))) zj Z.z_isinstance (zw zbS Z.n_5) (ze zJ 3)) (zc (zK (all_cons ⟨Z.x_0,Z.i_0_6⟩ (all_cons ⟨Z.x_1,Z.i_1_6⟩ (all_cons ⟨Z.x_2,Z.i_2_6⟩ (all_cons ⟨Z.x_3,Z.i_3_6⟩ (all_cons ⟨Z.x_4,Z.i_4_6⟩ (all_cons ⟨Z.x_5,Z.i_5_6⟩ (all_cons ⟨Z.x_6,Z.i_6_6⟩ (all_cons ⟨Z.x_7,Z.i_7_6⟩ (all_cons ⟨Z.x_8,Z.i_8_6⟩ (all_cons ⟨Z.x_9,Z.i_9_6⟩ (all_cons ⟨Z.x_10,Z.i_10_6⟩ (all_cons ⟨Z.x_11,Z.i_11_6⟩ (all_cons ⟨Z.x_12,Z.i_12_6⟩ (all_cons ⟨Z.x_13,Z.i_13_6⟩ all_nil)))))))))))))) zj Z.z_isinstance (zw zcV Z.n_6) (ze zJ 3)) zg)))))) (zb (z6 (zbj (ze zJ 2) (zeb (zc (zK (all_cons ⟨Z.x_0,Z.i_0_7⟩ (all_cons ⟨Z.x_1,Z.i_1_7⟩ (all_cons ⟨Z.x_2,Z.i_2_7⟩ (all_cons ⟨Z.x_3,Z.i_3_7⟩ (all_cons ⟨Z.x_4,Z.i_4_7⟩ (all_cons ⟨Z.x_5,Z.i_5_7⟩ (all_cons ⟨Z.x_6,Z.i_6_7⟩ (all_cons ⟨Z.x_7,Z.i_7_7⟩ (all_cons ⟨Z.x_8,Z.i_8_7⟩ (all_cons ⟨Z.x_9,Z.i_9_7⟩ (all_cons ⟨Z.x_10,Z.i_10_7⟩ (all_cons ⟨Z.x_11,Z.i_11_7⟩ (all_cons ⟨Z.x_12,Z.i_12_7⟩ (all_cons ⟨Z.x_13,Z.i_13_7⟩ all_nil)))))))))))))) zj Z.z_isinstance (zw zbz Z.n_7) (ze zJ 3)) (zc (zK (all_cons ⟨Z.x_0,Z.i_0_8⟩ (all_cons ⟨Z.x_1,Z.i_1_8⟩ (all_cons ⟨Z.x_2,Z.i_2_8⟩ (all_cons ⟨Z.x_3,Z.i_3_8⟩ (all_cons ⟨Z.x_4,Z.i_4_8⟩ (all_cons ⟨Z.x_5,Z.i_5_8⟩ (all_cons ⟨Z.x_6,Z.i_6_8⟩ (all_cons ⟨Z.x_7,Z.i_7_8⟩ (all_cons ⟨Z.x_8,Z.i_8_8⟩ (all_cons ⟨Z.x_9,Z.i_9_8⟩ (all_cons ⟨Z.x_10,Z.i_10_8⟩ (all_cons ⟨Z.x_11,Z.i_11_8⟩ (all_cons ⟨Z.x_12,Z.i_12_8⟩ (all_cons ⟨Z.x_13,Z.i_13_8⟩ all_nil)))))))))))))) zj Z.z_isinstance (zw zcT Z.n_8) (ze zJ 3)) (zc (zK (all_cons ⟨Z.x_0,Z.i_0_9⟩ (all_cons ⟨Z.x_1,Z.i_1_9⟩ (all_cons ⟨Z.x_2,Z.i_2_9⟩ (all_cons ⟨Z.x_3,Z.i_3_9⟩ (all_cons ⟨Z.x_4,Z.i_4_9⟩ (all_cons ⟨Z.x_5,Z.i_5_9⟩ (all_cons ⟨Z.x_6,Z.i_6_9⟩ (all_cons ⟨Z.x_7,Z.i_7_9⟩ (all_cons ⟨Z.x_8,Z.i_8_9⟩ (all_cons ⟨Z.x_9,Z.i_9_9⟩ (all_cons ⟨Z.x_10,Z.i_10_9⟩ (all_cons ⟨Z.x_11,Z.i_11_9⟩ (all_cons ⟨Z.x_12,Z.i_12_9⟩ (all_cons ⟨Z.x_13,Z.i_13_9⟩ all_nil)))))))))))))) zj Z.z_isinstance (zw zc2 Z.n_9) (ze zJ 3)) zg)))))) (zb (z6 (zbj (ze zJ 2) (zeb (zc (zK (all_cons ⟨Z.x_0,Z.i_0_10⟩ (all_cons ⟨Z.x_1,Z.i_1_10⟩ (all_cons ⟨Z.x_2,Z.i_2_10⟩ (all_cons ⟨Z.x_3,Z.i_3_10⟩ (all_cons ⟨Z.x_4,Z.i_4_10⟩ (all_cons ⟨Z.x_5,Z.i_5_10⟩ (all_cons ⟨Z.x_6,Z.i_6_10⟩ (all_cons ⟨Z.x_7,Z.i_7_10⟩ (all_cons ⟨Z.x_8,Z.i_8_10⟩ (all_cons ⟨Z.x_9,Z.i_9_10⟩ (all_cons ⟨Z.x_10,Z.i_10_10⟩ (all_cons ⟨Z.x_11,Z.i_11_10⟩ (all_cons ⟨Z.x_12,Z.i_12_10⟩ (all_cons ⟨Z.x_13,Z.i_13_10⟩ all_nil)))))))))))))) zj Z.z_isinstance (zw zdb Z.n_10) (ze zJ 3)) (zc (zK (all_cons ⟨Z.x_0,Z.i_0_11⟩ (all_cons ⟨Z.x_1,Z.i_1_11⟩ (all_cons ⟨Z.x_2,Z.i_2_11⟩ (all_cons ⟨Z.x_3,Z.i_3_11⟩ (all_cons ⟨Z.x_4,Z.i_4_11⟩ (all_cons ⟨Z.x_5,Z.i_5_11⟩ (all_cons ⟨Z.x_6,Z.i_6_11⟩ (all_cons ⟨Z.x_7,Z.i_7_11⟩ (all_cons ⟨Z.x_8,Z.i_8_11⟩ (all_cons ⟨Z.x_9,Z.i_9_11⟩ (all_cons ⟨Z.x_10,Z.i_10_11⟩ (all_cons ⟨Z.x_11,Z.i_11_11⟩ (all_cons ⟨Z.x_12,Z.i_12_11⟩ (all_cons ⟨Z.x_13,Z.i_13_11⟩ all_nil)))))))))))))) zj Z.z_isinstance (zw zcE Z.n_11) (ze zJ 3)) (zc (zK (all_cons ⟨Z.x_0,Z.i_0_12⟩ (all_cons ⟨Z.x_1,Z.i_1_12⟩ (all_cons ⟨Z.x_2,Z.i_2_12⟩ (all_cons ⟨Z.x_3,Z.i_3_12⟩ (all_cons ⟨Z.x_4,Z.i_4_12⟩ (all_cons ⟨Z.x_5,Z.i_5_12⟩ (all_cons ⟨Z.x_6,Z.i_6_12⟩ (all_cons ⟨Z.x_7,Z.i_7_12⟩ (all_cons ⟨Z.x_8,Z.i_8_12⟩ (all_cons ⟨Z.x_9,Z.i_9_12⟩ (all_cons ⟨Z.x_10,Z.i_10_12⟩ (all_cons ⟨Z.x_11,Z.i_11_12⟩ (all_cons ⟨Z.x_12,Z.i_12_12⟩ (all_cons ⟨Z.x_13,Z.i_13_12⟩ all_nil)))))))))))))) zj Z.z_isinstance (zw zc5 Z.n_12) (ze zJ 3)) (zc (zK (all_cons ⟨Z.x_0,Z.i_0_13⟩ (all_cons ⟨Z.x_1,Z.i_1_13⟩ (all_cons ⟨Z.x_2,Z.i_2_13⟩ (all_cons ⟨Z.x_3,Z.i_3_13⟩ (all_cons ⟨Z.x_4,Z.i_4_13⟩ (all_cons ⟨Z.x_5,Z.i_5_13⟩ (all_cons ⟨Z.x_6,Z.i_6_13⟩ (all_cons ⟨Z.x_7,Z.i_7_13⟩ (all_cons ⟨Z.x_8,Z.i_8_13⟩ (all_cons ⟨Z.x_9,Z.i_9_13⟩ (all_cons ⟨Z.x_10,Z.i_10_13⟩ (all_cons ⟨Z.x_11,Z.i_11_13⟩ (all_cons ⟨Z.x_12,Z.i_12_13⟩ (all_cons ⟨Z.x_13,Z.i_13_13⟩ all_nil)))))))))))))) zj Z.z_isinstance (zw zc6 Z.n_13) (ze zJ 3)) zg))))))) zf)))))) (zb (zG (ziY (ze zJ 2))) zf)))
theorem zk2 :BD P w K mg base cl fa fdd k 15 ["_law_script"]:=fun Z C=>zY (fn:=f_law) rfl Z.F15.F sc_law rfl rfl fun _ _ _ _ _ _ hr=>have nd:=sc_law.nd;have hu1:=zaT hr;(zb (zk (i:=1) nd rfl (lcF (i:=1) zx rfl) (zp (C 3 _ rfl) hr zdJ Z.F3.m Z.F3.F.kp Z.F3.b (zc (ze zx 0) zg))) (zb (zk (i:=2) nd rfl (lcF (i:=2) zx rfl) (zu (zaF (zc (zi zV zd (zp (C 6 _ rfl) hr z5 Z.F6.m Z.F6.F.kp Z.F6.b (zc (ze zx 1) (zc zd zg)))) (zc (zi zV zd (zp (C 6 _ rfl) hr z5 Z.F6.m Z.F6.F.kp Z.F6.b (zc (ze zx 1) (zc zd zg)))) zg))) (zp (C 6 _ rfl) hr z5 Z.F6.m Z.F6.F.kp Z.F6.b (zc (ze zx 1) (zc zd zg))))) (zb (zk (i:=3) nd rfl (lcF (i:=3) zx rfl) (zu (zaF (zc (zi zV zd (zp (C 6 _ rfl) hr z5 Z.F6.m Z.F6.F.kp Z.F6.b (zc (ze zx 1) (zc zd zg)))) (zc (zp (C 6 _ rfl) hr z5 Z.F6.m Z.F6.F.kp Z.F6.b (zc (ze zx 1) (zc zd zg))) zg))) (zp (C 6 _ rfl) hr z5 Z.F6.m Z.F6.F.kp Z.F6.b (zc (ze zx 1) (zc zd zg))))) (zb (zk (i:=4) nd rfl (lcF (i:=4) zx rfl) (zaP zg)) (zb (za2 own1 rfl (zaq zaO Z.z_range (ze zx 3)) (zP (i:=5) nd rfl (lcF (i:=5) zx rfl)) (zb (z6 (zcD (ze zx 4) (zcF zI (zaX rfl (compOk (NC:=["_law_j","_law_state"]) (slots:=[none,some 1]) ["_law_script","_law_state","_law_w","_law_many","_law_words","_law_k","_law_text","_law_due_here","_law_found","_law_kind","e"] (defScope zS) rfl rfl rfl (by decide +kernel) (by decide +kernel) (by decide +kernel) (by decide +kernel) rfl) (by decide) (zaq zaO Z.z_range (ze zx 2)) (fun j=>zar rfl (zP (i:=0) (show (["_law_j","_law_state"]:List Str).Nodup by decide +kernel) rfl (by first|exact Or.inl rfl|exact Or.inr rfl))) (fun j=>zai) (fun j=>zaC rfl (zu zI (zp (C 6 _ rfl) hr rfl Z.F6.m Z.F6.F.kp Z.F6.b (zc (sv_k 1) (zc zd zg))))))))) zf)) (zb (zk (i:=6) nd rfl (lcF (i:=6) zx rfl) (zp (C 12 _ rfl) hr zcY Z.F12.m Z.F12.F.kp Z.F12.b (zc (ze zx 1) (zc (zcF zI (ze zx 4)) zg)))) (zb (zk (i:=7) nd rfl (lcF (i:=7) zx rfl) (zp (C 10 _ rfl) hr zfq Z.F10.m Z.F10.F.kp Z.F10.b (zc (ze zx 6) zg))) (zb (zk (i:=8) nd rfl (lcF (i:=8) zx rfl) zbE) (zb (zk (i:=9) nd rfl (lcF (i:=9) zx rfl) zgt) (zb (zfL (i:=10) ⟨_,rfl⟩ rfl rfl nd rfl rfl zcg Z.n_14 (all_cons Z.t_0 (all_cons Z.t_1 (all_cons Z.t_2 (all_cons Z.t_3 (all_cons Z.t_4 (all_cons Z.t_5 (all_cons Z.t_6 (all_cons Z.t_7 (all_cons Z.t_8 (all_cons Z.t_9 (all_cons Z.t_10 (all_cons Z.t_11 (all_cons Z.t_12 (all_cons Z.t_13 all_nil)))))))))))))) (fun pn P=>(zb (zk (i:=8) nd rfl (lcF (i:=8) zx rfl) (zp (C 0 _ rfl) hr zfh Z.F0.m Z.F0.F.kp Z.F0.b (zc (ze zx 6) zg))) zf)) (fun pn a=>(zb (zk (i:=9) nd rfl (lcF (i:=9) zx rfl) (za1 (zK (all_cons ⟨Z.x_0,Z.i_0_1⟩ (all_cons ⟨Z.x_1,Z.i_1_1⟩ (all_cons ⟨Z.x_2,Z.i_2_1⟩ (all_cons ⟨Z.x_3,Z.i_3_1⟩ (all_cons ⟨Z.x_4,Z.i_4_1⟩ (all_cons ⟨Z.x_5,Z.i_5_1⟩ (all_cons ⟨Z.x_6,Z.i_6_1⟩ (all_cons ⟨Z.x_7,Z.i_7_1⟩ (all_cons ⟨Z.x_8,Z.i_8_1⟩ (all_cons ⟨Z.x_9,Z.i_9_1⟩ (all_cons ⟨Z.x_10,Z.i_10_1⟩ (all_cons ⟨Z.x_11,Z.i_11_1⟩ (all_cons ⟨Z.x_12,Z.i_12_1⟩ (all_cons ⟨Z.x_13,Z.i_13_1⟩ all_nil)))))))))))))) zM Z.z_isinstance (zw zdO Z.n_1) (ze zx 10)) (zaK (zK (all_cons ⟨Z.x_0,Z.i_0_v⟩ (all_cons ⟨Z.x_1,Z.i_1_v⟩ (all_cons ⟨Z.x_2,Z.i_2_v⟩ (all_cons ⟨Z.x_3,Z.i_3_v⟩ (all_cons ⟨Z.x_4,Z.i_4_v⟩ (all_cons ⟨Z.x_5,Z.i_5_v⟩ (all_cons ⟨Z.x_6,Z.i_6_v⟩ (all_cons ⟨Z.x_7,Z.i_7_v⟩ (all_cons ⟨Z.x_8,Z.i_8_v⟩ (all_cons ⟨Z.x_9,Z.i_9_v⟩ (all_cons ⟨Z.x_10,Z.i_10_v⟩ (all_cons ⟨Z.x_11,Z.i_11_v⟩ (all_cons ⟨Z.x_12,Z.i_12_v⟩ (all_cons ⟨Z.x_13,Z.i_13_v⟩ all_nil)))))))))))))) zM Z.z_isinstance (zix zbT Z.z_ValueError) (ze zx 10))))) (zb (zk (i:=9) nd rfl (lcF (i:=9) zx rfl) (za1 (ze zx 9) (zaK (zdG (zes (all_cons ⟨Z.x_0,(za Z.i_0_0 (za Z.i_0_2 (za Z.i_0_3 (za Z.i_0_4 (za Z.i_0_5 (za Z.i_0_6 (za Z.i_0_7 zC)))))))⟩ (all_cons ⟨Z.x_1,(za Z.i_1_0 (za Z.i_1_2 (za Z.i_1_3 (za Z.i_1_4 (za Z.i_1_5 (za Z.i_1_6 (za Z.i_1_7 zC)))))))⟩ (all_cons ⟨Z.x_2,(za Z.i_2_0 (za Z.i_2_2 (za Z.i_2_3 (za Z.i_2_4 (za Z.i_2_5 (za Z.i_2_6 (za Z.i_2_7 zC)))))))⟩ (all_cons ⟨Z.x_3,(za Z.i_3_0 (za Z.i_3_2 (za Z.i_3_3 (za Z.i_3_4 (za Z.i_3_5 (za Z.i_3_6 (za Z.i_3_7 zC)))))))⟩ (all_cons ⟨Z.x_4,(za Z.i_4_0 (za Z.i_4_2 (za Z.i_4_3 (za Z.i_4_4 (za Z.i_4_5 (za Z.i_4_6 (za Z.i_4_7 zC)))))))⟩ (all_cons ⟨Z.x_5,(za Z.i_5_0 (za Z.i_5_2 (za Z.i_5_3 (za Z.i_5_4 (za Z.i_5_5 (za Z.i_5_6 (za Z.i_5_7 zC)))))))⟩ (all_cons ⟨Z.x_6,(za Z.i_6_0 (za Z.i_6_2 (za Z.i_6_3 (za Z.i_6_4 (za Z.i_6_5 (za Z.i_6_6 (za Z.i_6_7 zC)))))))⟩ (all_cons ⟨Z.x_7,(za Z.i_7_0 (za Z.i_7_2 (za Z.i_7_3 (za Z.i_7_4 (za Z.i_7_5 (za Z.i_7_6 (za Z.i_7_7 zC)))))))⟩ (all_cons ⟨Z.x_8,(za Z.i_8_0 (za Z.i_8_2 (za Z.i_8_3 (za Z.i_8_4 (za Z.i_8_5 (za Z.i_8_6 (za Z.i_8_7 zC)))))))⟩ (all_cons ⟨Z.x_9,(za Z.i_9_0 (za Z.i_9_2 (za Z.i_9_3 (za Z.i_9_4 (za Z.i_9_5 (za Z.i_9_6 (za Z.i_9_7 zC)))))))⟩ (all_cons ⟨Z.x_10,(za Z.i_10_0 (za Z.i_10_2 (za Z.i_10_3 (za Z.i_10_4 (za Z.i_10_5 (za Z.i_10_6 (za Z.i_10_7 zC)))))))⟩ (all_cons ⟨Z.x_11,(za Z.i_11_0 (za Z.i_11_2 (za Z.i_11_3 (za Z.i_11_4 (za Z.i_11_5 (za Z.i_11_6 (za Z.i_11_7 zC)))))))⟩ (all_cons ⟨Z.x_12,(za Z.i_12_0 (za Z.i_12_2 (za Z.i_12_3 (za Z.i_12_4 (za Z.i_12_5 (za Z.i_12_6 (za Z.i_12_7 zC)))))))⟩ (all_cons ⟨Z.x_13,(za Z.i_13_0 (za Z.i_13_2 (za Z.i_13_3 (za Z.i_13_4 (za Z.i_13_5 (za Z.i_13_6 (za Z.i_13_7 zC)))))))⟩ all_nil)))))))))))))) (by decide) zM Z.z_isinstance (zL (zw zeO Z.n_0) (zL (zw zdQ Z.n_2) (zL (zw zd3 Z.n_3) (zL (zw zet Z.n_4) (zL (zw zce Z.n_5) (zL (zw zdY Z.n_6) (zL (zw zbK Z.n_7) zfN))))))) (ze zx 10)))))) (zb (zk (i:=9) nd rfl (lcF (i:=9) zx rfl) (za1 (ze zx 9) (zaK (zdG (zes (all_cons ⟨Z.x_0,(za Z.i_0_8 (za Z.i_0_9 (za Z.i_0_10 (za Z.i_0_11 (za Z.i_0_12 (za Z.i_0_13 zC))))))⟩ (all_cons ⟨Z.x_1,(za Z.i_1_8 (za Z.i_1_9 (za Z.i_1_10 (za Z.i_1_11 (za Z.i_1_12 (za Z.i_1_13 zC))))))⟩ (all_cons ⟨Z.x_2,(za Z.i_2_8 (za Z.i_2_9 (za Z.i_2_10 (za Z.i_2_11 (za Z.i_2_12 (za Z.i_2_13 zC))))))⟩ (all_cons ⟨Z.x_3,(za Z.i_3_8 (za Z.i_3_9 (za Z.i_3_10 (za Z.i_3_11 (za Z.i_3_12 (za Z.i_3_13 zC))))))⟩ (all_cons ⟨Z.x_4,(za Z.i_4_8 (za Z.i_4_9 (za Z.i_4_10 (za Z.i_4_11 (za Z.i_4_12 (za Z.i_4_13 zC))))))⟩ (all_cons ⟨Z.x_5,(za Z.i_5_8 (za Z.i_5_9 (za Z.i_5_10 (za Z.i_5_11 (za Z.i_5_12 (za Z.i_5_13 zC))))))⟩ (all_cons ⟨Z.x_6,(za Z.i_6_8 (za Z.i_6_9 (za Z.i_6_10 (za Z.i_6_11 (za Z.i_6_12 (za Z.i_6_13 zC))))))⟩ (all_cons ⟨Z.x_7,(za Z.i_7_8 (za Z.i_7_9 (za Z.i_7_10 (za Z.i_7_11 (za Z.i_7_12 (za Z.i_7_13 zC))))))⟩ (all_cons ⟨Z.x_8,(za Z.i_8_8 (za Z.i_8_9 (za Z.i_8_10 (za Z.i_8_11 (za Z.i_8_12 (za Z.i_8_13 zC))))))⟩ (all_cons ⟨Z.x_9,(za Z.i_9_8 (za Z.i_9_9 (za Z.i_9_10 (za Z.i_9_11 (za Z.i_9_12 (za Z.i_9_13 zC))))))⟩ (all_cons ⟨Z.x_10,(za Z.i_10_8 (za Z.i_10_9 (za Z.i_10_10 (za Z.i_10_11 (za Z.i_10_12 (za Z.i_10_13 zC))))))⟩ (all_cons ⟨Z.x_11,(za Z.i_11_8 (za Z.i_11_9 (za Z.i_11_10 (za Z.i_11_11 (za Z.i_11_12 (za Z.i_11_13 zC))))))⟩ (all_cons ⟨Z.x_12,(za Z.i_12_8 (za Z.i_12_9 (za Z.i_12_10 (za Z.i_12_11 (za Z.i_12_12 (za Z.i_12_13 zC))))))⟩ (all_cons ⟨Z.x_13,(za Z.i_13_8 (za Z.i_13_9 (za Z.i_13_10 (za Z.i_13_11 (za Z.i_13_12 (za Z.i_13_13 zC))))))⟩ all_nil)))))))))))))) (by decide) zM Z.z_isinstance (zL (zw zc9 Z.n_8) (zL (zw zdC Z.n_9) (zL (zw zd7 Z.n_10) (zL (zw zdc Z.n_11) (zL (zw zdy Z.n_12) (zL (zw zd5 Z.n_13) zfN)))))) (ze zx 10)))))) zf))))) (zb (zB (za6 (zag (zD (zgQ rfl) zgi Z.z_all zgR (zc (zgq rfl (compOkK (NC:=["_law_k","_law_text"]) (slots:=[none,some 6]) (x0:="_law_k") ["_law_script","_law_state","_law_w","_law_many","_law_words","_law_k","_law_text","_law_due_here","_law_found","_law_kind","e"] (defScope zS) rfl rfl rfl (by decide +kernel) (by decide +kernel) (by decide +kernel) (fun _ _=>rfl) (fun _=>rfl) (by decide +kernel) (by decide +kernel) rfl) (by decide) (zaq zaO Z.z_range zd) (fun j=>zar rfl (zP (i:=0) (show (["_law_k","_law_text"]:List Str).Nodup by decide +kernel) rfl (by first|exact Or.inl rfl|exact Or.inr rfl))) (fun j=>zai) (fun j=>zaC rfl (zaH (zap hr.units) (zp (C 14 _ rfl) hr rfl Z.F14.m Z.F14.F.kp Z.F14.b (zc (sv_k 0) (zc (sv_k 1) zg))) (zaX rfl (compOkN (NC:=["_law_j","_law_k"]) (slots:=[none,some 0]) rfl (by decide +kernel) (by decide +kernel) (by decide +kernel) (by decide +kernel) rfl) (by decide) (zaq rfl Z.z_range zd) (fun j=>zar rfl (zP (i:=0) (show (["_law_j","_law_k"]:List Str).Nodup by decide +kernel) rfl (by first|exact Or.inl rfl|exact Or.inr rfl))) (fun j=>zai) (fun j=>zaC rfl (zaH (zap hr.units) (sv_k 1) (sv_k 0) (nomark _)))) (nomark _)))) zg)))) (zb zcR zf) zf) (zb (zB (zm zkT (ze zx 7) zbE (nomark _)) (zb (zG (za1 (ze zx 9) (zaK (zaH zkT (ze zx 8) zbE (nomark _))))) zf) zf) (zb (zB (zan (zay (za6 (zag (zco (t:=.tuple) Z.k_tuple rfl zM Z.z_isinstance zew Z.z_tuple zcq (ze zx 8)))) (zay (zm (zeZ hr.units) (zD zaa zds Z.z_len zab (zc (ze zx 8) zg)) zd (nomark _)) (zay (za6 (zag (zp (C 8 _ rfl) hr zdS Z.F8.m Z.F8.F.kp Z.F8.b (zc (zu (ze zx 8) zd) zg)))) (za8 (zm (zeZ hr.units) (zu (ze zx 8) zd) (zu (ze zx 7) zd) (nomark _))))))) (zb zcR zf) zf) (zb (zG (za1 (zp (C 9 _ rfl) hr zcU Z.F9.m Z.F9.F.kp Z.F9.b (zc (zu (ze zx 8) zd) (zc (zu (ze zx 7) zd) (zc (zD zaa zds Z.z_len zab (zc (zu (ze zx 7) zd) zg)) zg)))) (zaK (zaH (zap hr.units) (ze zx 8) (ze zx 7) (nomark _))))) zf))))))))))))))
end
end WK
namespace IC
open PySem
noncomputable def forB (call:Cl)(t:Tg)(b:Css)(xs:List PV)(ρ:Env)(st:Store):Fl:=forL t (fun ρ2 st2=>exs call ρ2 st2 b) xs ρ st
noncomputable def whileB (call:Cl)(c:Ce)(b:Css)(n:Nat)(ρ:Env)(st:Store):Fl:=whileL (fun ρ2 st2=>ev call ρ2 st2 c) (fun ρ2 st2=>exs call ρ2 st2 b) n ρ st
noncomputable def oneB (call:Cl)(ρ0:Env)(t:Tg)(c e:Ce)(x:PV)(st2:Store):R (Option PV):=match bindT t x ρ0 with
 |none=>.bad
 |some ρ1=>(ev call ρ1 st2 c).bind fun b st3=>onO (truV st3 b) fun k=>cond k ((ev call ρ1 st3 e).bind fun y st4=>.ok (some y) st4) (.ok none st3)
noncomputable def compB (call:Cl)(ρ0:Env)(t:Tg)(c e:Ce)(xs:List PV)(st:Store):R (List PV):=compL (oneB call ρ0 t c e) xs st
noncomputable def thenF (f:Fl)(k:Env->Store->Fl):Fl :=
 match f with
 | .nx ρ st=>k ρ st
 |f=>f
noncomputable def nxO (o:Option Env)(st:Store):Fl :=
 match o with
 |some ρ=>.nx ρ st
 |none=>.bad
noncomputable def stO (ρ:Env)(o:Option Store):Fl :=
 match o with
 |some st=>.nx ρ st
 |none=>.bad
section
variable {call:Cl}{ρ:Env}{st:Store}
theorem x_for {t:Tg}{it:Cit}{b:Css}:ex call ρ st (.for t it b)=(evi call ρ st it).fl ρ fun xs st1=>forB call t b xs ρ st1:=by rw [ex];rfl
theorem zjw {c:Ce}{b:Css}:ex call ρ st (.while c b)=whileB call c b 100000 ρ st:=by rw [ex];rfl
theorem v_comp {sl:List (Option Nat)}{t:Tg}{it:Cit}{c e:Ce}:ev call ρ st (.comp sl t it c e)=(evi call ρ st it).bind fun xs st1=>lstR (compB call (sl.map fun o=>o.bind fun j=>(ρ[j]?).join) t c e xs st1):=by rw [ev];rfl
theorem zbD {t:Tg}{b:Css}:forB call t b [] ρ st=.nx ρ st:=by rw [forB,forL]
theorem zao {t:Tg}{b:Css}{x:PV}{xs:List PV}{ρ1:Env}(h:bindT t x ρ=some ρ1):forB call t b (x::xs) ρ st=againF (exs call ρ1 st b) fun ρ2 st2=>forB call t b xs ρ2 st2:=by
 rw [forB,forL,h];rfl
theorem zd6 {t:Tg}{b:Css}(P:Nat->Env->Store->Prop):∀(xs:List PV) (i:Nat) (ρ:Env) (st:Store),P i ρ st ->
  (∀(j:Nat) (x:PV) (ρ:Env) (st:Store),xs[j]?=some x->P (i+j) ρ st->∃ρ1 ρ2 st2,bindT t x ρ=some ρ1/\exs call ρ1 st b=.nx ρ2 st2/\P (i+j+1) ρ2 st2) ->
  ∃ρ' st',forB call t b xs ρ st=.nx ρ' st'/\P (i+xs.length) ρ' st'
 | [],i,ρ,st,h,_=>⟨ρ,st,zbD,h⟩
 |x::xs,i,ρ,st,h,k=>by
  obtain ⟨ρ1,ρ2,st2,e1,e2,h2⟩:=k 0 x ρ st rfl h
  obtain ⟨ρ',st',e3,h3⟩:=zd6 P xs (i+1) ρ2 st2 h2 fun j y ρ st hy hp=>by
   have:=k (j+1) y ρ st (by simpa using hy) (by rw [show i+(j+1)=i+1+j by omega];exact hp)
   rw [show i+(j+1)+1=i+1+j+1 by omega] at this
   exact this
  refine ⟨ρ',st',?_,by rw [List.length_cons,show i+(xs.length+1)=i+1+xs.length by omega];exact h3⟩
  rw [zao e1,e2]
  exact e3
theorem zht {c:Ce}{b:Css}{n:Nat}{x:PV}{st1 st2:Store}{ρ2:Env}(h:ev call ρ st c=.ok x st1)(ht:truV st1 x=some true)(hb:exs call ρ st1 b=.nx ρ2 st2):whileB call c b (n+1) ρ st=whileB call c b n ρ2 st2:=by
 rw [whileB,whileL,h]
 simp only [R.fl,ht,onF,cond_true,hb,againF]
 rfl
theorem ze1 {c:Ce}{b:Css}{n:Nat}{x:PV}{st1:Store}(h:ev call ρ st c=.ok x st1)(ht:truV st1 x=some false):whileB call c b (n+1) ρ st=.nx ρ st1:=by
 rw [whileB,whileL,h]
 simp only [R.fl,ht,onF,cond_false]
theorem zcN {ρ0:Env}{t:Tg}{c e:Ce}:compB call ρ0 t c e [] st=.ok [] st:=by rw [compB,compL]
theorem zbZ {ρ0:Env}{t:Tg}{c e:Ce}{x:PV}{xs:List PV}:compB call ρ0 t c e (x::xs) st=(oneB call ρ0 t c e x st).bind fun o st1=>(compB call ρ0 t c e xs st1).bind fun ys st2=>.ok (consO o ys) st2:=by
 rw [compB,compL];rfl
theorem zby {ρ0:Env}{t:Tg}{c e:Ce}{f:PV->PV}:∀(xs:List PV),(∀x∈xs,oneB call ρ0 t c e x st=.ok (some (f x)) st)->compB call ρ0 t c e xs st=.ok (xs.map f) st
 | [],_=>zcN
 |x::xs,h=>by
  rw [zbZ,h x List.mem_cons_self]
  simp only [R.bind]
  rw [zby xs fun y hy=>h y (List.mem_cons_of_mem _ hy)]
  rfl
theorem xs_nil:exs call ρ st .nil=.nx ρ st:=by rw [exs]
theorem xs_cons {s:Cs}{ss:Css}:exs call ρ st (.cons s ss)=thenF (ex call ρ st s) fun ρ1 st1=>exs call ρ1 st1 ss:=by
 rw [exs]
 cases ex call ρ st s <;> rfl
theorem x_asg {t:Tg}{e:Ce}:ex call ρ st (.asg t e)=(ev call ρ st e).fl ρ fun v st1=>nxO (bindT t v ρ) st1:=by
 rw [ex]
 refine congrArg _ (funext fun v=>funext fun st1=>?_)
 cases bindT t v ρ <;> rfl
theorem x_expr {e:Ce}:ex call ρ st (.expr e)=(ev call ρ st e).fl ρ fun _ st1=>.nx ρ st1:=by rw [ex]
theorem x_ret {e:Ce}:ex call ρ st (.ret e)=(ev call ρ st e).fl ρ fun v st1=>.rt v st1:=by rw [ex]
theorem x_ite {c:Ce}{a b:Css}:ex call ρ st (.ite c a b)=(ev call ρ st c).fl ρ fun x st1=>onF (truV st1 x) fun k=>cond k (exs call ρ st1 a) (exs call ρ st1 b):=by rw [ex]
theorem x_raise {c:Nat}{e:Ce}:ex call ρ st (.raise c e)=(ev call ρ st e).fl ρ fun _ st1=>.exc c ρ st1:=by rw [ex]
noncomputable def endF (i:Nat)(f:Fl):Fl :=
 match f with
 | .nx ρ2 st2=>.nx (ρ2.set i none) st2
 | .rt v st2=>.rt v st2
 |_=>.bad
noncomputable def tryF (cs:List Nat)(i:Nat)(f:Fl)(k:Env->Store->Nat->Fl):Fl :=
 match f with
 | .exc d ρ1 st1=>if cs.contains d then endF i (k ρ1 st1 d) else .bad
 |f=>f
theorem x_try {b h:Css}{cs:List Nat}{i:Nat}:ex call ρ st (.try b cs i h)=tryF cs i (exs call ρ st b) fun ρ1 st1 d=>exs call (ρ1.set i (some (.exn d))) st1 h:=by
 rw [ex]
 cases exs call ρ st b <;> rfl
theorem x_six {o i e:Ce}:ex call ρ st (.six o i e)=(ev call ρ st e).fl ρ fun v st1=>(ev call ρ st1 o).fl ρ fun x st2=>(ev call ρ st2 i).fl ρ fun y st3=>stO ρ (sixV st3 x y v):=by
 rw [ex]
 refine congrArg _ (funext fun v=>funext fun st1=>congrArg _ (funext fun x=>funext fun st2=>congrArg _ (funext fun y=>funext fun st3=>?_)))
 cases sixV st3 x y v <;> rfl
theorem zmE {i:Nat}{o:BOp}{e:Ce}{x:PV}(h:ρ[i]?=some (some x)):ex call ρ st (.aug i o e)=(ev call ρ st e).fl ρ fun y st1=>nxO ((augV o x y).map fun z=>ρ.set i (some z)) st1:=by
 rw [ex,h]
 show (ev call ρ st e).fl ρ _=_
 refine congrArg _ (funext fun y=>funext fun st1=>?_)
 cases augV o x y <;> rfl
end
end IC
namespace WK
open IC PySem
noncomputable def chS (c:Nat):Str:=⟨#[c]⟩
noncomputable def cellV (c:Nat)(i:Int):PV:=.tup [.str (chS c),.int i]
noncomputable abbrev Mem:=Nat->Int->Int
noncomputable def upd (M:Mem)(c:Nat)(i v:Int):Mem:=fun d j=>if d=c/\j=i then v else M d j
def Rel (kvs:List (PV×PV))(M:Mem):Prop:=∀c i,(look (cellV c i) kvs).getD (.int 0)=.int (M c i)
noncomputable abbrev Cel:=Nat×Int
inductive Rw where
 | mark (d:Int)|ask (x:Cel)|set (t:Cel) (d:Int)|move (t x:Cel)|bare (t x:Cel)|twice (t x:Cel)|half (t x:Cel)
 | sum (t x y:Cel)|less (t x y:Cel)|both (t x y:Cel)|any (t x y:Cel)|odd (t x y:Cel)
theorem zin {st:Store}{n:Nat}{o:Ob}(h:st[n]?=some o):st=st.set n o:=by
 refine List.ext_getElem? fun i=>?_
 rw [List.getElem?_set]
 split
 ·rename_i e
  subst e
  split
  ·exact h
  ·rename_i z
   rw [List.getElem?_eq_none (by omega)] at h
   cases h
 ·rfl
theorem zcs (i:Int):shp (.int i)=true:=rfl
section
variable {st:Store}{k:Bool}{a b c d e:PV}{r:List PV}{i j:Int}
theorem b_add:binV .add (.int i) (.int j)=some (.int (i+j)):=rfl
theorem b_sub:binV .sub (.int i) (.int j)=some (.int (i - j)):=rfl
theorem zjs (h:i.natAbs<18446744073709551616 \/ j.natAbs<18446744073709551616):binV .mul (.int i) (.int j)=some (.int (i*j)):=by
 have:CMulB i j=true:=by simpa [CMulB] using h
 simp [binV,binI,this]
theorem zjo (h:i.natAbs<18446744073709551616):binV .mul (.int i) (.int j)=some (.int (i*j)):=zjs (.inl h)
theorem zg3 (h:j.natAbs<18446744073709551616):binV .mul (.int i) (.int j)=some (.int (i*j)):=zjs (.inr h)
theorem b_mul2:binV .mul (.int 2) (.int j)=some (.int (2*j)):=zjs (.inl (by decide))
theorem b_div2:binV .fdiv (.int i) (.int 2)=some (.int (i / 2)):=rfl
theorem zk3 (h:0<j):binV .mod (.int i) (.int j)=some (.int (i % j)):=by simp [binV,binI,h]
theorem toR_some {v:PV}:toR (some v) st=.ok v st:=rfl
theorem c_ne:cmpV .ne (.int i) (.int j)=some (.bl (!(i == j))):=by simp [cmpV,zcs,peq]
theorem c_eq:cmpV .eq (.int i) (.int j)=some (.bl (i == j)):=by simp [cmpV,zcs,peq]
theorem c_lt:cmpV .lt (.int i) (.int j)=some (.bl (decide (i<j))):=rfl
theorem c_le:cmpV .le (.int i) (.int j)=some (.bl (decide (i<=j))):=rfl
theorem c_gt:cmpV .gt (.int i) (.int j)=some (.bl (decide (j<i))):=rfl
theorem c_ge:cmpV .ge (.int i) (.int j)=some (.bl (decide (j<=i))):=rfl
theorem t_bl {b:Bool}:truV st (.bl b)=some b:=rfl
theorem on_t {f:Bool->Fl}{b:Bool}:onF (some b) f=f b:=rfl
theorem ono {α:Type}{f:Bool->R α}{b:Bool}:onO (some b) f=f b:=rfl
theorem nxO_some {ρ:IC.Env}:nxO (some ρ) st=.nx ρ st:=rfl
theorem fl_ok {α:Type}{a:α}{ρ:IC.Env}{k:α->Store->Fl}:(R.ok a st).fl ρ k=k a st:=rfl
theorem bd_ok {α β:Type}{a:α}{k:α->Store->R β}:(R.ok a st).bind k=k a st:=rfl
theorem th_nx {ρ:IC.Env}{k:IC.Env->Store->Fl}:thenF (.nx ρ st) k=k ρ st:=rfl
theorem th_rt {v:PV}{k:IC.Env->Store->Fl}:thenF (.rt v st) k=.rt v st:=rfl
theorem fl_exc {α:Type}{c:Nat}{ρ:IC.Env}{k:α->Store->Fl}:(R.exc c st:R α).fl ρ k=.exc c ρ st:=rfl
theorem bd_exc {α β:Type}{c:Nat}{k:α->Store->R β}:(R.exc c st:R α).bind k=.exc c st:=rfl
theorem th_exc {c:Nat}{ρ:IC.Env}{k:IC.Env->Store->Fl}:thenF (.exc c ρ st) k=.exc c ρ st:=rfl
theorem noLocs_ints:∀(l:List Int),noLocs (l.map PV.int)=true
 | []=>rfl
 |_::l=>by simp [noLocs,noLoc,noLocs_ints l]
theorem bT_n {i:Nat}{v:PV}{ρ:IC.Env}:bindT (.n i) v ρ=some (ρ.set i (some v)):=rfl
end
end WK
local macro_rules | `(tactic| dsimp! [$xs,*])=>`(tactic| simp only [IC.CMulB,IC.R.bind,IC.R.fl,IC.at?,IC.binI,IC.binV,IC.cmpI,IC.cmpV,IC.ev.eq_1,IC.ev.eq_16,IC.ev.eq_18,IC.ev.eq_2,IC.ev.eq_3,IC.ev.eq_8,IC.evs,IC.idxI,IC.idxV,IC.ixI,IC.nxO,IC.onBl,IC.onF,IC.thenF,IC.toR,IC.truV,IC.x_ite,IC.x_six,IC.xs_cons,IC.xs_nil,List.getElem?_cons_succ,List.getElem?_cons_zero,List.set_cons_succ,List.set_cons_zero,$xs,*])
local macro_rules | `(tactic| simp_all! [$xs,*])=>`(tactic| simp only [IC.ev.eq_1,IC.ev.eq_2,IC.x_asg,IC.x_ret,IC.xs_cons,IC.xs_nil,List.cons_append,List.getElem?_cons_zero,List.map_cons,List.map_nil,List.nil_append,List.replicate,List.set_cons_succ,List.set_cons_zero,Nat.reduceSub,$xs,*])
local macro_rules | `(tactic| simp? [$xs,*])=>`(tactic| simp only [IC.CMulB,IC.R.bind,IC.at?,IC.binI,IC.binV,IC.cmpI,IC.cmpV,IC.ev.eq_1,IC.ev.eq_16,IC.ev.eq_2,IC.ev.eq_3,IC.ev.eq_6,IC.ev.eq_7,IC.ev.eq_8,IC.idxI,IC.idxV,IC.ixI,IC.onBl,IC.toR,List.getElem?_cons_succ,List.getElem?_cons_zero,$xs,*])
local macro_rules | `(tactic| dsimp? [$xs,*])=>`(tactic| simp only [IC.ev.eq_1,IC.ev.eq_2,IC.ev.eq_3,IC.x_asg,IC.xs_cons,IC.xs_nil,List.getElem?_cons_succ,List.getElem?_cons_zero,List.set_cons_succ,List.set_cons_zero,$xs,*])
namespace WK
open IC PySem
theorem zjB {i:Int}(h:i.natAbs<2 ^ 1000):∃y,fstS (.int i)=some y/\y.length<=2000:=by
 have hl:i.natAbs.log2<1920:=by
  by_cases h0:i.natAbs=0
  ·rw [h0];decide
  ·exact (Nat.log2_lt h0).mpr (Nat.lt_of_lt_of_le h (Nat.pow_le_pow_right (by omega) (by omega)))
 refine ⟨_,by rw [fstS,if_pos hl],?_⟩
 rw [PySem.ofString_length]
 have:=PySem.int_text_length_le (k:=1920) (by decide) hl
 omega
theorem zdT {s:Str}(h:s.length<=2000):∃y,fstS (.str s)=some y/\y.length<=2000:=⟨s,by rw [fstS,if_pos (by omega)],h⟩
theorem zgv:∀(vs:List PV) (out:Str),(∀v∈vs,∃y,fstS v=some y/\y.length<=2000)->out.length+2000*vs.length<=16777216->∃z,fstJ out vs=some z
 | [],out,_,h=>⟨out,by rw [fstJ,if_pos (by simpa using h)]⟩
 |v::vs,out,hv,h=>by
  obtain ⟨y,e,l⟩:=hv v List.mem_cons_self
  have hl:(out++y).length=out.length+y.length:=PySem.Str.length_append out y
  rw [List.length_cons] at h
  obtain ⟨z,e2⟩:=zgv vs (out++y) (fun u hu=>hv u (List.mem_cons_of_mem _ hu)) (by omega)
  exact ⟨z,by rw [fstJ,e];show (if _ then _ else _)=_;rw [if_pos (by omega)];exact e2⟩
theorem zhd {vs:List PV}(st:Store)(hv:∀v∈vs,∃y,fstS v=some y/\y.length<=2000)(h:vs.length<=8000):∃z,fstR (.ok vs st)=.ok (.str z) st:=by
 obtain ⟨z,e⟩:=zgv vs Str.empty hv (by show 0+_<=_;omega)
 exact ⟨z,by rw [fstR,e]⟩
theorem zcM (ys:List PV)(h:ys.length<=1000000)(st:Store):lstR (.ok ys st)=.ok (.lst ys) st:=by simp [lstR,h]
theorem zfW (n:Nat)(h:n<1000):rng1 (.int (n:Int))=some (rangeL n 0 1):=by
 simp [rng1];omega
theorem zkx {z:Int}(h:0<=z):∃n:Nat,z=n:=⟨z.toNat,by omega⟩
noncomputable def outP (st:Store)(f:Fl):R PV :=
 match f with
 | .rt v _=>if noLoc v then .ok v st else .bad
 | .nx _ _=>.ok .non st
 | .exc c _ _=>.exc c st
 |_=>.bad
theorem zaB {T:Nat->Option IC.Fn}{k f:Nat}{fn:IC.Fn}{args:List PV}{st:Store}(hT:T f=some fn)(hp:fn.pure=true)(hl:args.length=fn.np)(hn:noLocs args=true) :
  callT T (k+1) f args st=outP st (exs (callT T k) (args.map some++List.replicate (fn.ns - fn.np) none) [] fn.body):=by
 rw [callT,hT]
 dsimp only
 rw [if_pos hl,if_pos hp,if_pos hn]
 rfl
noncomputable def outI (f:Fl):R PV :=
 match f with
 | .rt v st1=>.ok v st1
 | .nx _ st1=>.ok .non st1
 | .exc c _ st1=>.exc c st1
 |_=>.bad
theorem zfu {T:Nat->Option IC.Fn}{k f:Nat}{fn:IC.Fn}{args:List PV}{st:Store}(hT:T f=some fn)(hp:fn.pure=false)(hl:args.length=fn.np) :
  callT T (k+1) f args st=outI (exs (callT T k) (args.map some++List.replicate (fn.ns - fn.np) none) st fn.body):=by
 rw [callT,hT]
 dsimp only
 rw [if_pos hl,hp,if_neg (by simp)]
 rfl
theorem zeI {st:Store}{v:PV}:outI (.rt v st)=.ok v st:=rfl
theorem zmn {st s:Store}{b:Bool}:outP st (.rt (.bl b) s)=.ok (.bl b) st:=rfl
theorem zfp {st s:Store}{b:Int}:outP st (.rt (.int b) s)=.ok (.int b) st:=rfl
theorem zjZ {α:Type}{xs:List α}{lo hi:Option Int}{x:α}(h:x∈cut xs lo hi):x∈xs:=List.mem_of_mem_drop (List.mem_of_mem_take h)
theorem zjH {α:Type}(xs:List α)(lo hi:Option Int):(cut xs lo hi).length<=xs.length:=by
 unfold cut
 rw [List.length_take,List.length_drop]
 omega
def inW (W:Int)(ds:List Int):Prop:=∀d∈ds,0<=d/\d<W
noncomputable def primes:PV:=.tup [.int 2147483647,.int 2147483629,.int 2147483587,.int 2147483579,.int 2147483563]
noncomputable def mixB:Css:=match f_qmixed.body with
 | .cons _ (.cons _ (.cons (.for _ _ b) _))=>b
 |_=>.nil
theorem zcw {c:Cl}{s num g p:Int}{i:Nat}{u5 u6 u7:Option PV}(hg:∀st,idxV st (.tup [.int 11,.int 101,.int 1009,.int 10007,.int 100003]) (.int i)=some (.int g))(hi:i<5)(hp:0<p)(hp2:p<18446744073709551616) :
  ∃num' v5 v6 v7,exs c [some (.int s),some primes,some (.int num),some (.int i),some (.int p),u5,u6,u7] [] mixB=.nx [some (.int s),some primes,some (.int num'),some (.int i),some (.int p),v5,v6,v7] []:=by
 have h1:∀z:Int,binV .mul (.int z) (.int (48271+2*(i:Int)))=some (.int (z*(48271+2*(i:Int)))):=fun z=>zg3 (by omega)
 have h2:∀z y:Int,binV .mul (.int z) (.int (y % p))=some (.int (z*(y % p))):=fun z y=>zg3 (by
  have a:=Int.emod_nonneg y (show p≠0 by omega)
  have b:=Int.emod_lt_of_pos y hp
  omega)
 have h3:∀z:Int,binV .mul (.int z) (.int p)=some (.int (z*p)):=fun z=>zg3 (by omega)
 dsimp? [mixB,f_qmixed,List.length_cons,List.length_nil,Nat.zero_add,Nat.reduceAdd,if_true,ev.eq_11,ev.eq_16,evs,bd_ok,fl_ok,toR_some,bT_n,nxO_some,th_nx,sizeMax,Nat.reduceLeDiff,b_add,b_mul2,hg,h1,h2,h3,zk3 hp]
 exact ⟨_,_,_,_,rfl⟩
theorem zh5 {c:Cl}{s num:Int}{u5 u6 u7:Option PV}(i:Nat)(p:Int)(h:(i,p)∈[(0,(2147483647:Int)),(1,2147483629),(2,2147483587),(3,2147483579),(4,2147483563)]) :
  ∃num' v5 v6 v7,exs c [some (.int s),some primes,some (.int num),some (.int i),some (.int p),u5,u6,u7] [] mixB=.nx [some (.int s),some primes,some (.int num'),some (.int i),some (.int p),v5,v6,v7] []:=by
 simp only [List.mem_cons,Prod.mk.injEq,List.not_mem_nil,or_false] at h
 rcases h with ⟨rfl,rfl⟩|⟨rfl,rfl⟩|⟨rfl,rfl⟩|⟨rfl,rfl⟩|⟨rfl,rfl⟩
 ·exact zcw (fun _=>rfl) (by decide) (by decide) (by decide)
 ·exact zcw (fun _=>rfl) (by decide) (by decide) (by decide)
 ·exact zcw (fun _=>rfl) (by decide) (by decide) (by decide)
 ·exact zcw (fun _=>rfl) (by decide) (by decide) (by decide)
 ·exact zcw (fun _=>rfl) (by decide) (by decide) (by decide)
noncomputable def mixL:List PV:=[.tup [.int 0,.int 2147483647],.tup [.int 1,.int 2147483629],.tup [.int 2,.int 2147483587],.tup [.int 3,.int 2147483579],.tup [.int 4,.int 2147483563]]
theorem mixed (k:Nat)(s:Int)(st:Store):∃num,callT T (k+1) zfV [.int s] st=.ok (.int num) st:=by
 obtain ⟨ρ',st',h,num,a,b,c,d,e,e1,e2⟩:=zd6 (call:=callT T k) (t:=.t [3,4]) (b:=mixB) (fun _ ρ st=>∃num a b c d e,ρ=[some (.int s),some primes,some (.int num),a,b,c,d,e]/\st=[]) mixL 0 [some (.int s),some primes,some (.int 0),none,none,none,none,none] [] ⟨_,_,_,_,_,_,rfl,rfl⟩ (by
  rintro j x ρ st hx ⟨num,a,b,c,d,e,rfl,rfl⟩
  have hx:=List.mem_of_getElem? hx
  have hx:∃i p,x=.tup [.int ((i:Nat):Int),.int p]/\(i,p)∈[(0,(2147483647:Int)),(1,2147483629),(2,2147483587),(3,2147483579),(4,2147483563)]:=by
   simp only [mixL,List.mem_cons,List.not_mem_nil,or_false] at hx
   rcases hx with rfl|rfl|rfl|rfl|rfl
   ·exact ⟨0,_,rfl,by simp⟩
   ·exact ⟨1,_,rfl,by simp⟩
   ·exact ⟨2,_,rfl,by simp⟩
   ·exact ⟨3,_,rfl,by simp⟩
   ·exact ⟨4,_,rfl,by simp⟩
  obtain ⟨i,p,rfl,hm⟩:=hx
  obtain ⟨num',v5,v6,v7,hh⟩:=zh5 (c:=callT T k) (s:=s) (num:=num) (u5:=c) (u6:=d) (u7:=e) i p hm
  exact ⟨_,_,_,rfl,hh,_,_,_,_,_,_,rfl,rfl⟩)
 subst e1 e2
 refine ⟨num,?_⟩
 rw [callT]
 have hb:f_qmixed.body=.cons (.asg (.n 1) (.tup (.cons (.cst (.int 2147483647)) (.cons (.cst (.int 2147483629)) (.cons (.cst (.int 2147483587)) (.cons (.cst (.int 2147483579)) (.cons (.cst (.int 2147483563)) .nil))))))) (.cons (.asg (.n 2) (.cst (.int 0))) (.cons (.for (.t [3,4]) (.enum (.var 1)) mixB) (.cons (.ret (.var 2)) .nil))):=rfl
 have hT:T zfV=some ⟨1,8,true,f_qmixed.body⟩:=rfl
 have hp:PV.tup [.int 2147483647,.int 2147483629,.int 2147483587,.int 2147483579,.int 2147483563]=primes:=rfl
 rw [hT,hb]
 have h5:ev (callT T k) [some (.int s),none,none,none,none,none,none,none] [] (.tup (.cons (.cst (.int 2147483647)) (.cons (.cst (.int 2147483629)) (.cons (.cst (.int 2147483587)) (.cons (.cst (.int 2147483579)) (.cons (.cst (.int 2147483563)) .nil))))))=.ok primes []:=by
  simp [ev.eq_1,ev.eq_11,evs,R.bind,sizeMax,primes]
 have he:evi (callT T k) [some (.int s),some primes,some (.int 0),none,none,none,none,none] [] (.enum (.var 1))=.ok mixL []:=by
  simp [evi,ev.eq_2,R.bind,primes,pairsUp,mixL]
 simp_all! [List.length_cons,List.length_nil,if_true,noLocs,noLoc,Bool.and_self,x_for,h5,R.fl,bindT,nxO,thenF,he,h,List.getElem?_cons_succ]
theorem rdS {st:Store}{n:Nat}{o x:Ob}(h:st[n]?=some o):(st.set n x)[n]?=some x:=by
 have:n<st.length:=by
  rcases Nat.lt_or_ge n st.length with h1|h1
  ·exact h1
  ·rw [List.getElem?_eq_none h1] at h;cases h
 rw [List.getElem?_set_self this]
theorem fill (k n:Nat)(ns:List Int)(hns:ns.length<=1000)(a p:Int)(ha:0<=a)(f:Bool)(st:Store)(h:st[n]?=some (.lst [.lst (ns.map .int),.int a,.int p,.bl f])) :
  ∃p' f',callT T (k+2) zhp [.loc n] st=.ok .non (st.set n (.lst [.lst (ns.map .int),.int (a+1),.int p',.bl f'])):=by
 rw [callT,show T zhp=some zbi from rfl]
 by_cases hn:ns=[]
 ·subst hn
  obtain ⟨q,hq⟩:=mixed k (31*a+7) (st.set n (.lst [.lst [],.int (a+1),.int p,.bl true]))
  have h':st[n]?=some (.lst [.lst [],.int a,.int p,.bl f]):=h
  refine ⟨q,true,?_⟩
  dsimp! [zbi,List.length_cons,List.length_nil,if_true,List.map_cons,List.map_nil,Nat.reduceSub,List.replicate,List.cons_append,List.nil_append,x_asg,stO,ev.eq_7,ev.eq_11,ev.eq_19,bindT,h,rdS h,sizeMax,sixV,bltV,lenV,seqOf,ha,decide_true,cond_true]
  simp [ha,h',rdS h',hq]
 ·have h0:0<ns.length:=List.length_pos_iff.2 hn
  have h1:=Int.emod_nonneg a (show (ns.length:Int)≠0 by omega)
  have h2:=Int.emod_lt_of_pos a (show (0:Int)<ns.length by omega)
  have h3:(a % (ns.length:Int)).toNat<ns.length:=by omega
  obtain ⟨v,hv⟩:∃v,ns[(a % (ns.length:Int)).toNat]?=some v:=⟨_,List.getElem?_eq_getElem h3⟩
  have hw:ns[(a % (ns.length:Int)).toNat]'h3=v:=by rw [List.getElem?_eq_getElem h3] at hv;exact Option.some.inj hv
  have h4:(ns.length:Int)<10000000000000000000000000000000000000000000000000000000000000000000000:=by omega
  have h5:(0:Int)<ns.length:=by omega
  by_cases hf:(ns.length:Int)<=a \/ 104729*(a / (ns.length:Int))+v<1000000000000000000
  ·obtain ⟨q,hq⟩:=mixed k (104729*(a / (ns.length:Int))+v) (st.set n (.lst [.lst (ns.map .int),.int (a+1),.int p,.bl true]))
   refine ⟨q,true,?_⟩
   rcases Classical.em ((ns.length:Int)<=a) with hg|hg
   ·dsimp! [zbi,List.length_cons,List.length_nil,if_true,List.map_cons,List.map_nil,Nat.reduceSub,List.replicate,List.cons_append,List.nil_append,x_asg,stO,ev.eq_7,ev.eq_11,ev.eq_19,bindT,h,rdS h,sizeMax,sixV,bltV,lenV,seqOf,List.length_map,h5,h1,h2,h4,hg,and_self,decide_true,cond_true,List.getElem?_map,hv,Option.bind_some,Option.map_some]
    simp [h,rdS h,hq,h0,h1,h2,h4,hv,hw,hg]
   ·have hf:=hf.resolve_left hg
    dsimp! [zbi,List.length_cons,List.length_nil,if_true,List.map_cons,List.map_nil,Nat.reduceSub,List.replicate,List.cons_append,List.nil_append,x_asg,stO,ev.eq_7,ev.eq_11,ev.eq_19,bindT,h,rdS h,sizeMax,sixV,bltV,lenV,seqOf,List.length_map,h5,h1,h2,h4,hg,hf,and_self,decide_true,cond_true,List.getElem?_map,hv,Option.bind_some,Option.map_some]
    simp [h,rdS h,hq,h0,h1,h2,h4,hv,hw,hg,hf]
  ·have hg:¬(ns.length:Int)<=a:=fun z=>hf (.inl z)
   have hf:¬104729*(a / (ns.length:Int))+v<1000000000000000000:=fun z=>hf (.inr z)
   refine ⟨104729*(a / (ns.length:Int))+v - 1000000000000000000,false,?_⟩
   dsimp! [zbi,List.length_cons,List.length_nil,if_true,List.map_cons,List.map_nil,Nat.reduceSub,List.replicate,List.cons_append,List.nil_append,x_asg,stO,ev.eq_7,ev.eq_11,ev.eq_19,bindT,h,rdS h,sizeMax,sixV,bltV,lenV,seqOf,List.length_map,h5,h1,h2,h4,hg,hf,and_self,decide_true,cond_true,List.getElem?_map,hv,Option.bind_some,Option.map_some]
   simp [h,rdS h,h0,h1,h2,h4,hv,hw,hg,hf]
noncomputable def takeC:Ce:=match f_qtake.body with
 | .cons _ (.cons (.while c _) _)=>c
 |_=>.nope
noncomputable def takeB:Css:=match f_qtake.body with
 | .cons _ (.cons (.while _ b) _)=>b
 |_=>.nil
theorem zgW {c:Cl}{n:Nat}{ns:List Int}{a p m t:Int}{f:Bool}{u:Option PV}{st:Store}(h:st[n]?=some (.lst [.lst (ns.map .int),.int a,.int p,.bl f])) :
  ∃B,ev c [some (.loc n),some (.int m),some (.int t),u] st takeC=.ok (.bl B) st/\(B=true->t<64):=by
 by_cases h1:t<64
 ·by_cases h2:p=0
  ·refine ⟨true,?_,fun _=>h1⟩
   simp? [takeC,f_qtake,h]
   simp [h1,h2,zcs,peq]
  ·have h2:(p == 0)=false:=by simp [h2]
   cases f
   ·refine ⟨false,?_,fun _=>h1⟩
    simp? [takeC,f_qtake,h]
    simp [h,h1,h2,zcs,peq]
   ·refine ⟨decide (p<m*4096),?_,fun _=>h1⟩
    simp? [takeC,f_qtake,h]
    simp [h,h1,h2,zcs,peq]
 ·refine ⟨false,?_,fun z=>by cases z⟩
  simp? [takeC,f_qtake,h]
  simp [h1]
theorem zhV (k:Nat){n:Nat}{ns:List Int}(hns:ns.length<=1000){a p m t:Int}(ha:0<=a){f:Bool}{u:Option PV}{st:Store}(h:st[n]?=some (.lst [.lst (ns.map .int),.int a,.int p,.bl f])) :
  ∃p' f',exs (callT T (k+2)) [some (.loc n),some (.int m),some (.int t),u] st takeB=.nx [some (.loc n),some (.int m),some (.int (t+1)),u] (st.set n (.lst [.lst (ns.map .int),.int (a+1),.int p',.bl f'])):=by
 obtain ⟨q,g,hq⟩:=fill k n ns hns a p ha f st h
 have hm:(1+q % 4093).natAbs<18446744073709551616:=by omega
 have hau:∀st,ex (callT T (k+2)) [some (.loc n),some (.int m),some (.int t),u] st (.aug 2 .add (.cst (.int 1)))=.nx [some (.loc n),some (.int m),some (.int (t+1)),u] st:=fun st=>by
  rw [zmE (x:=.int t) rfl]
  simp [ev.eq_1,R.fl,augV,binV,binI,nxO]
 cases g
 ·refine ⟨q,false,?_⟩
  dsimp! [takeB,f_qtake,x_expr,hau,ev.eq_6,hq,augV,Option.map_some,rdS h]
  simp [rdS h]
 ·by_cases hl:q<m*4096
  ·refine ⟨q+m*4096*(1+q % 4093),true,?_⟩
   dsimp! [takeB,f_qtake,x_expr,hau,ev.eq_6,hq,augV,Option.map_some,rdS h,stO,sixV]
   simp [rdS h,hl,hm]
  ·refine ⟨q,true,?_⟩
   dsimp! [takeB,f_qtake,x_expr,hau,ev.eq_6,hq,augV,Option.map_some,rdS h]
   simp [rdS h,hl]
theorem zeR (k:Nat){n:Nat}{ns:List Int}(hns:ns.length<=1000){m:Int}{u:Option PV}:∀(r N:Nat) (t a p:Int) (f:Bool) (st:Store),r<=N->64 - t<=r->0<=a->st[n]?=some (.lst [.lst (ns.map .int),.int a,.int p,.bl f]) ->
  ∃t' a' p' f',0<=a'/\whileB (callT T (k+2)) takeC takeB (N+1) [some (.loc n),some (.int m),some (.int t),u] st=.nx [some (.loc n),some (.int m),some (.int t'),u] (st.set n (.lst [.lst (ns.map .int),.int a',.int p',.bl f']))
 |r,N,t,a,p,f,st,hN,ht,ha,h=>by
  obtain ⟨B,hB,hb⟩:=zgW (c:=callT T (k+2)) (m:=m) (t:=t) (u:=u) h
  have hs:st.set n (.lst [.lst (ns.map .int),.int a,.int p,.bl f])=st:=by
   refine List.ext_getElem? fun i=>?_
   rw [List.getElem?_set]
   split
   ·rename_i e
    subst e
    split
    ·exact h.symm
    ·rename_i z
     rw [List.getElem?_eq_none (by omega)] at h
     cases h
   ·rfl
  cases B with
  |false=>exact ⟨t,a,p,f,ha,by rw [ze1 hB rfl,hs]⟩
  |true =>
   have h64:=hb rfl
   match r,N with
   |0,_=>exact absurd ht (by omega)
   |r+1,N+1 =>
    obtain ⟨p1,f1,hx⟩:=zhV k hns (m:=m) (t:=t) ha (u:=u) h
    obtain ⟨t',a',p',f',h0,h2⟩:=zeR k hns (m:=m) (u:=u) r N (t+1) (a+1) p1 f1 _ (by omega) (by omega) (by omega) (rdS h)
    refine ⟨t',a',p',f',h0,?_⟩
    rw [zht hB rfl hx,h2,List.set_set]
theorem take (k n:Nat)(ns:List Int)(hns:ns.length<=1000)(a p m:Int)(ha:0<=a)(hm:0<m)(hm2:m<10000000000000000000000000000000000000000000000000000000000000000000000)(f:Bool)(st:Store)(h:st[n]?=some (.lst [.lst (ns.map .int),.int a,.int p,.bl f])) :
  ∃d a' p' f',0<=d/\d<m/\0<=a'/\callT T (k+3) z8 [.loc n,.int m] st=.ok (.int d) (st.set n (.lst [.lst (ns.map .int),.int a',.int p',.bl f'])):=by
 obtain ⟨t',a',p',f',h0,h2⟩:=zeR k hns (m:=m) (u:=none) 64 99999 0 a p f st (by omega) (by omega) ha h
 refine ⟨p' % m,a',p' / m,f',Int.emod_nonneg _ (by omega),Int.emod_lt_of_pos _ hm,h0,?_⟩
 have hb:f_qtake.body=.cons (.asg (.n 2) (.cst (.int 0))) (.cons (.while takeC takeB) (.cons (.asg (.n 3) (.bin .mod (.idx (.var 0) (.cst (.int 2))) (.var 1))) (.cons (.six (.var 0) (.cst (.int 2)) (.bin .fdiv (.idx (.var 0) (.cst (.int 2))) (.var 1))) (.cons (.ret (.var 3)) .nil)))):=rfl
 have hT:T z8=some ⟨2,4,false,f_qtake.body⟩:=rfl
 rw [callT,hT,hb]
 simp_all! [List.length_cons,List.length_nil,if_true,zjw,x_six,thenF,nxO,stO,ev.eq_3,ev.eq_16,R.fl,R.bind,bindT,List.getElem?_cons_succ,h2,rdS h,idxV,idxI,at?,ixI,binV,binI,hm,hm2,and_self,toR,sixV]
 simp [rdS h,hm,hm2]
def Drw (ns:List Int)(n:Nat)(st:Store):Prop:=∃a p f,0<=a/\st[n]?=some (.lst [.lst (ns.map .int),.int a,.int p,.bl f])
def Onl (ns:List Int)(n:Nat)(st st':Store):Prop:=∃a p f,0<=a/\st'=st.set n (.lst [.lst (ns.map .int),.int a,.int p,.bl f])
theorem Onl.drw {ns:List Int}{n:Nat}{st st':Store}(h:Drw ns n st)(o:Onl ns n st st'):Drw ns n st':=by
 obtain ⟨a,p,f,ha,h⟩:=h
 obtain ⟨b,q,g,hb,rfl⟩:=o
 exact ⟨b,q,g,hb,rdS h⟩
theorem Onl.trans {ns:List Int}{n:Nat}{st st1 st2:Store}(o:Onl ns n st st1)(o2:Onl ns n st1 st2):Onl ns n st st2:=by
 obtain ⟨b,q,g,hb,rfl⟩:=o
 obtain ⟨c,r,j,hc,rfl⟩:=o2
 exact ⟨c,r,j,hc,by rw [List.set_set]⟩
theorem takeD (k:Nat){n:Nat}{ns:List Int}(hns:ns.length<=1000){m:Int}(hm:0<m)(hm2:m<10000000000000000000000000000000000000000000000000000000000000000000000){st:Store}(h:Drw ns n st) :
  ∃d st',0<=d/\d<m/\Onl ns n st st'/\callT T (k+3) z8 [.loc n,.int m] st=.ok (.int d) st':=by
 obtain ⟨a,p,f,ha,h⟩:=h
 obtain ⟨d,a',p',f',h1,h2,h3,h4⟩:=take k n ns hns a p m ha hm hm2 f st h
 exact ⟨d,_,h1,h2,⟨_,_,_,h3,rfl⟩,h4⟩
theorem fresh (k:Nat)(ns:List Int)(h:ns.length<=63)(st:Store):∃v,callT T (k+1) zdU [.scr (ns.map .int)] st=.ok (.loc st.length) (st++[v])/\v=.lst [.lst (ns.map .int),.int 0,.int 0,.bl false]:=by
 have hT:T zdU=some zcl:=rfl
 refine ⟨_,?_,rfl⟩
 rw [callT,hT]
 simp only [zcl,List.length_cons,List.length_nil,if_true,List.map_cons,List.map_nil,Nat.reduceSub,List.replicate,List.cons_append,List.nil_append,xs_cons,xs_nil,x_ret,thenF,ev,evs,R.fl,R.bind,List.getElem?_cons_zero,toR]
 have hc:slcV (.scr (ns.map PV.int)) none (.int 63)=some (.lst (ns.map .int)):=by
  have hk:clampI ns.length 63=ns.length:=by
   show min 63 ns.length=ns.length
   omega
  simp [slcV,optI,slcO,cut,loOf,hiOf,hk]
  try rw [<- List.length_map (f:=PV.int),List.take_length]
 simp [optI,onP,hc,sizeMax]
theorem Drw.refl {ns:List Int}{n:Nat}{st:Store}(h:Drw ns n st):Onl ns n st st:=by
 obtain ⟨a,p,f,ha,h⟩:=h
 exact ⟨a,p,f,ha,zin h⟩
theorem Drw.pos {ns:List Int}{st:Store}(h:Drw ns 0 st):0<st.length:=by
 obtain ⟨a,p,f,ha,h⟩:=h
 rcases Nat.lt_or_ge 0 st.length with z|z
 ·exact z
 ·rw [List.getElem?_eq_none z] at h;cases h
theorem Drw.app {ns:List Int}{st:Store}(h:Drw ns 0 st)(o:Ob):Drw ns 0 (st++[o]):=by
 have hl:=h.pos
 obtain ⟨a,p,f,ha,h⟩:=h
 exact ⟨a,p,f,ha,by rw [List.getElem?_append_left hl];exact h⟩
theorem Drw.put {ns:List Int}{st:Store}(h:Drw ns 0 st){L:Nat}(hL:L≠0)(o:Ob):Drw ns 0 (st.set L o):=by
 obtain ⟨a,p,f,ha,h⟩:=h
 exact ⟨a,p,f,ha,by rw [List.getElem?_set_ne hL];exact h⟩
theorem Onl.get {ns:List Int}{st st':Store}(o:Onl ns 0 st st'){L:Nat}(hL:L≠0):st'[L]?=st[L]?:=by
 obtain ⟨a,p,f,ha,rfl⟩:=o
 rw [List.getElem?_set_ne (Ne.symm hL)]
theorem Onl.len {ns:List Int}{n:Nat}{st st':Store}(o:Onl ns n st st'):st'.length=st.length:=by
 obtain ⟨a,p,f,ha,rfl⟩:=o
 rw [List.length_set]
theorem ziX {c:Cl}{N acc lo:Int}{st:Store}:exs c [some (.int N),some (.int acc),some (.int lo)] st (.cons (.asg (.n 1) (.bin .mul (.cst (.int 2)) (.var 1))) .nil)=.nx [some (.int N),some (.int (2*acc)),some (.int lo)] st:=by
 dsimp? [thenF,nxO,R.bind,R.fl,bindT,binV,binI,CMulB,toR]
 simp
theorem zlf (k n:Nat)(hn:n<1000)(st:Store):callT T (k+1) zcQ [.int n] st=.ok (.int (2 ^ n)) st:=by
 obtain ⟨ρ',st',h,u,e1,e2⟩:=zd6 (call:=callT T k) (t:=.n 2) (b:=.cons (.asg (.n 1) (.bin .mul (.cst (.int 2)) (.var 1))) .nil) (fun i ρ st=>∃u,ρ=[some (.int n),some (.int (2 ^ i)),u]/\st=[]) (rangeL n 0 1) 0 [some (.int n),some (.int 1),none] [] ⟨_,rfl,rfl⟩ (by
  rintro j x ρ st hx ⟨u,rfl,rfl⟩
  have hx:∃i,x=.int i:=by
   have:∀(n:Nat) (a d:Int) (j:Nat) x,(rangeL n a d)[j]?=some x->∃i,x=.int i:=by
    intro n
    induction n with
    |zero=>intro a d j x h;simp [rangeL] at h
    |succ n ih =>
     intro a d j x h
     cases j with
     |zero=>simp [rangeL] at h;exact ⟨a,h.symm⟩
     |succ j=>simp [rangeL] at h;exact ih _ _ _ _ h
   exact this _ _ _ _ _ hx
  obtain ⟨i,rfl⟩:=hx
  exact ⟨_,_,_,rfl,ziX,_,by rw [Int.pow_succ,Int.mul_comm],rfl⟩)
 have hl:(rangeL n 0 1).length=n:=by
  have:∀(n:Nat) (a d:Int),(rangeL n a d).length=n:=by
   intro n
   induction n with
   |zero=>intro a d;rfl
   |succ n ih=>intro a d;simp [rangeL,ih]
  exact this _ _ _
 rw [hl,Nat.zero_add] at e1
 subst e1 e2
 rw [callT,show T zcQ=some zbH from rfl]
 simp_all! [zbH,List.length_cons,List.length_nil,if_true,noLocs,noLoc,Bool.and_self,x_for,thenF,nxO,R.fl,bindT,evi,R.bind,rng1,toL]
 simp only [show (n:Int).natAbs<1000000000 by omega,if_true,Int.toNat_natCast,h]
 simp [noLoc]
local macro_rules | `(tactic| simp! [$xs,*])=>`(tactic| simp only [IC.xs_cons,IC.xs_nil,IC.x_asg,IC.x_ite,IC.x_ret,IC.x_expr,IC.x_for,IC.x_six,IC.x_try,IC.x_raise,IC.evs,IC.evi,IC.ev.eq_1,IC.ev.eq_2,IC.ev.eq_3,IC.ev.eq_4,IC.ev.eq_5,IC.ev.eq_6,IC.ev.eq_7,IC.ev.eq_8,IC.ev.eq_9,IC.ev.eq_10,IC.ev.eq_11,IC.ev.eq_12,IC.ev.eq_13,IC.ev.eq_14,IC.ev.eq_15,IC.ev.eq_16,IC.ev.eq_17,IC.ev.eq_18,IC.ev.eq_19,IC.ev.eq_20,IC.ev.eq_21,IC.ev.eq_22,IC.ev.eq_24,IC.ev.eq_25,IC.ev.eq_26,IC.ev.eq_28, IC.v_comp,List.getElem?_cons_zero,List.getElem?_cons_succ,WK.bd_ok,WK.fl_ok,WK.bd_exc,WK.fl_exc,WK.toR_some,IC.toL,WK.bT_n,WK.nxO_some,WK.th_nx,WK.th_rt,WK.th_exc,List.set_cons_zero,List.set_cons_succ,WK.on_t,WK.t_bl,WK.ono,IC.onBl,cond_true,cond_false,List.length_cons,List.length_nil,Nat.zero_add,Nat.reduceAdd,Nat.reduceSub,Nat.reduceLeDiff,if_true,IC.noLoc,IC.noLocs,WK.noLocs_ints,Bool.and_self,Bool.not_true,Bool.not_false,List.map_cons,List.map_nil,List.replicate,List.cons_append,List.nil_append,List.append_nil,Option.bind_none,Option.bind_some,Option.join_some,WK.b_add,WK.b_sub,WK.b_mul2,WK.b_div2,WK.c_lt,WK.c_le,WK.c_gt,WK.c_ge,WK.c_eq,WK.c_ne,IC.PV.tup,IC.sizeMax,$xs,*])
theorem zfa {st s:Store}{c:Nat}{ρ:IC.Env}:outP st (.exc c ρ s)=.exc c st:=rfl
theorem s_sp:Str.ofString " "=⟨#[32]⟩:=zaQ (by decide +kernel)
theorem s_em:Str.ofString ""=⟨#[]⟩:=zaQ (by decide +kernel)
theorem s_0:Str.ofString "0"=⟨#[48]⟩:=zaQ (by decide +kernel)
theorem s_1:Str.ofString "1"=⟨#[49]⟩:=zaQ (by decide +kernel)
theorem s_01:Str.ofString "01"=⟨#[48,49]⟩:=zaQ (by decide +kernel)
noncomputable def isB (c:Nat):Bool:=c == 48 || c == 49
theorem zjl {c:Nat}:isB c=true ↔ c=48 \/ c=49:=by simp [isB]
noncomputable def val (a:Int)(l:List Nat):Int:=l.foldl (fun (a:Int) (c:Nat)=>2*a+((c:Int) - 48)) a
theorem zhz:∀(l:List Nat) (a:Int),0<=a->l.all isB=true->a*2 ^ l.length<=val a l/\val a l<(a+1)*2 ^ l.length
 | [],a,h,_=>by simp [val];omega
 |c::l,a,h,hb=>by
  simp only [List.all_cons,Bool.and_eq_true] at hb
  have hc:=zjl.1 hb.1
  obtain ⟨h1,h2⟩:=zhz l (2*a+((c:Int) - 48)) (by omega) hb.2
  have e:val a (c::l)=val (2*a+((c:Int) - 48)) l:=rfl
  have hp:(0:Int)<2 ^ l.length:=Int.pow_pos (by omega)
  rw [e,List.length_cons,Int.pow_succ]
  constructor
  ·refine Int.le_trans ?_ h1
   rw [show a*(2 ^ l.length*2)=(2*a)*2 ^ l.length by rw [Int.mul_comm (2 ^ l.length) 2,<- Int.mul_assoc,Int.mul_comm a 2]]
   exact Int.mul_le_mul_of_nonneg_right (by omega) (Int.le_of_lt hp)
  ·refine Int.lt_of_lt_of_le h2 ?_
   rw [show (a+1)*(2 ^ l.length*2)=(2*(a+1))*2 ^ l.length by rw [Int.mul_comm (2 ^ l.length) 2,<- Int.mul_assoc,Int.mul_comm (a+1) 2]]
   exact Int.mul_le_mul_of_nonneg_right (by omega) (Int.le_of_lt hp)
theorem zl5 {l:List Nat}(h:l.all isB=true):0<=val 0 l/\val 0 l<2 ^ l.length:=by
 have:=zhz l 0 (by omega) h
 simpa using this
theorem zfr {c:Nat}(h:c<128):shp (.str ⟨#[c]⟩)=true:=by
 simp [shd];omega
theorem zls {c d:Nat}{s:String}(hs:Str.ofString s=⟨#[d]⟩)(hd:d<128)(h:c<128):cmpV .eq (.str ⟨#[c]⟩) (.str (Str.ofString s))=some (.bl (c == d))/\cmpV .ne (.str ⟨#[c]⟩) (.str (Str.ofString s))=some (.bl (!(c == d))):=by
 rw [hs]
 have e:peq (.str ⟨#[c]⟩) (.str ⟨#[d]⟩)=(c == d):=by
  simp only [peq]
  show decide _=decide _
  simp
 constructor
 ·simp only [cmpV]
  rw [if_pos (by rw [zfr h,zfr hd];rfl),e]
 ·simp only [cmpV]
  rw [if_pos (by rw [zfr h,zfr hd];rfl),e]
theorem zeW (k:Nat){c:Nat}(hc:c<128)(st:Store):callT T (k+1) za7 [.str ⟨#[c]⟩] st=if isB c then .ok (.int ((c:Int) - 48)) st else .exc 1 st:=by
 have hT:T za7=some ⟨1,1,true,f_read_two.body⟩:=rfl
 obtain ⟨z,hz⟩:=zhd [] (vs:=[.str ⟨#[c]⟩,.str " is neither 0 nor 1"]) (fun v hv=>by
  simp only [List.mem_cons,List.not_mem_nil,or_false] at hv
  rcases hv with rfl|rfl
  ·exact zdT (by simp [Str.length])
  ·exact zdT (by decide +kernel)) (by simp)
 obtain ⟨e0,n0⟩:=zls s_0 (by omega) hc
 obtain ⟨e1,n1⟩:=zls s_1 (by omega) hc
 rw [zaB hT rfl rfl rfl]
 dsimp only
 by_cases q0:c=48
 ·subst q0
  have n0:cmpV .ne (.str ⟨#[48]⟩) (.str "0")=some (.bl false):=n0
  have e1:cmpV .eq (.str ⟨#[48]⟩) (.str "1")=some (.bl false):=e1
  simp! [f_read_two,n0,e1,zfp]
  rfl
 ·have b0:(c == 48)=false:=by simpa using q0
  rw [b0] at n0
  by_cases q1:c=49
  ·subst q1
   have n1:cmpV .ne (.str ⟨#[49]⟩) (.str "1")=some (.bl false):=n1
   have e1:cmpV .eq (.str ⟨#[49]⟩) (.str "1")=some (.bl true):=e1
   simp! [f_read_two,n0,n1,e1,zfp]
   rfl
  ·have b1:(c == 49)=false:=by simpa using q1
   rw [b1] at n1
   have hb:isB c=false:=by simp [isB,b0,b1]
   rw [hb]
   simp! [f_read_two,n0,n1,hz,zfa]
   rfl
noncomputable def rwB:Css:=match f_read_word.body with
 | .cons _ (.cons _ (.cons (.for _ _ b) _))=>b
 |_=>.nil
theorem zgY (k:Nat){p0 p1:Option PV}:∀(l:List Nat) (a:Int) (u:Option PV),(∀c∈l,c<128) ->
  (l.all isB=true->∃u',forB (callT T (k+1)) (.n 3) rwB (l.map fun c=>.str ⟨#[c]⟩) [p0,p1,some (.int a),u] []=.nx [p0,p1,some (.int (val a l)),u'] []) /\
  (l.all isB=false->∃ρ,forB (callT T (k+1)) (.n 3) rwB (l.map fun c=>.str ⟨#[c]⟩) [p0,p1,some (.int a),u] []=.exc 1 ρ [])
 | [],a,u,_=>⟨fun _=>⟨u,by rw [List.map_nil,zbD];rfl⟩,fun h=>by simp at h⟩
 |c::l,a,u,h=>by
  have hr:=zeW k (h c (by simp)) []
  have hm:binV .mul (.int 2) (.int a)=some (.int (2*a)):=zjo (by omega)
  obtain ⟨i1,i2⟩:=zgY k (p0:=p0) (p1:=p1) l (2*a+((c:Int) - 48)) (some (.str ⟨#[c]⟩)) fun x hx=>h x (List.mem_cons_of_mem _ hx)
  cases q:isB c with
  |true =>
   rw [q] at hr
   have hr:callT T (k+1) za7 [.str ⟨#[c]⟩] []=.ok (.int ((c:Int) - 48)) []:=hr
   have hb:exs (callT T (k+1)) [p0,p1,some (.int a),some (.str ⟨#[c]⟩)] [] rwB=.nx [p0,p1,some (.int (2*a+((c:Int) - 48))),some (.str ⟨#[c]⟩)] []:=by
    simp! [rwB,f_read_word,hm,hr]
   refine ⟨fun g=>?_,fun g=>?_⟩
   ·obtain ⟨u',e⟩:=i1 (by simpa [q] using g)
    refine ⟨u',?_⟩
    rw [List.map_cons,zao (ρ1:=[p0,p1,some (.int a),some (.str ⟨#[c]⟩)]) rfl,hb]
    exact e
   ·obtain ⟨ρ,e⟩:=i2 (by simpa [q] using g)
    refine ⟨ρ,?_⟩
    rw [List.map_cons,zao (ρ1:=[p0,p1,some (.int a),some (.str ⟨#[c]⟩)]) rfl,hb]
    exact e
  |false =>
   rw [q] at hr
   have hr:callT T (k+1) za7 [.str ⟨#[c]⟩] []=.exc 1 []:=hr
   have hb:exs (callT T (k+1)) [p0,p1,some (.int a),some (.str ⟨#[c]⟩)] [] rwB=.exc 1 [p0,p1,some (.int a),some (.str ⟨#[c]⟩)] []:=by
    simp! [rwB,f_read_word,hm,hr]
   refine ⟨fun g=>by simp [q] at g,fun g=>⟨[p0,p1,some (.int a),some (.str ⟨#[c]⟩)],?_⟩⟩
   rw [List.map_cons,zao (ρ1:=[p0,p1,some (.int a),some (.str ⟨#[c]⟩)]) rfl,hb]
   rfl
theorem zdB {c:Cl}{ρ:IC.Env}{st:Store}{e:Ce}{s:Str}(he:ev c ρ st e=.ok (.str s) st)(hl:s.length<=1000000):evi c ρ st (.chars e)=.ok (s.cps.toList.map fun c=>.str ⟨#[c]⟩) st:=by
 rw [evi,he,bd_ok]
 simp only [charsV,if_pos hl]
 rfl
theorem zhu {c:Cl}{ρ:IC.Env}{st:Store}{t:Tg}{i:Cit}{b:Css}{xs:List PV}(h:evi c ρ st i=.ok xs st):ex c ρ st (.for t i b)=forB c t b xs ρ st:=by
 rw [x_for,h,fl_ok]
noncomputable def pS (l:List Nat):Str:=⟨l.toArray⟩
theorem zcO (l:List Nat):(pS l).length=l.length:=by simp [pS,Str.length]
theorem zfA {l:List Nat}(h:l.length<=1000)(st:Store):bltV .len st [.str (pS l)]=some (.int l.length):=by
 simp only [bltV,lenV]
 rw [if_pos (by rw [zcO];simp only [sizeMax];omega),zcO]
noncomputable def gd (w:Nat)(l:List Nat):Bool:=decide (l.length=w) && l.all isB
theorem zeU (k:Nat){l:List Nat}(hl:l.length<=1000)(h:∀c∈l,c<128)(w:Nat)(hw:w<=1000)(st:Store):callT T (k+2) zbo [.str (pS l),.int w] st=if gd w l then .ok (.int (val 0 l)) st else .exc 1 st:=by
 have hT:T zbo=some ⟨2,4,true,f_read_word.body⟩:=rfl
 have hln:=zfA hl []
 have hne:cmpV .ne (.int (l.length:Int)) (.int w)=some (.bl (!decide (l.length=w))):=by
  rw [c_ne]
  by_cases q:l.length=w
  ·simp [q]
  ·rw [decide_eq_false q,show ((l.length:Int) == w)=false by rw [beq_eq_false_iff_ne];omega]
 rw [zaB hT rfl rfl (by simp [noLocs,noLoc])]
 dsimp only
 by_cases q:l.length=w
 ·rw [decide_eq_true q] at hne
  have hv:ev (callT T (k+1)) [some (.str (pS l)),some (.int w),some (.int 0),none] [] (.var 0)=.ok (.str (pS l)) []:=by rw [ev.eq_2];rfl
  have hf:=zhu (t:=.n 3) (b:=rwB) (zdB hv (by rw [zcO];omega))
  obtain ⟨i1,i2⟩:=zgY k (p0:=some (.str (pS l))) (p1:=some (.int w)) l 0 none h
  have hb:f_read_word.body=(match f_read_word.body with
   | .cons a (.cons b (.cons (.for _ _ _) r))=>.cons a (.cons b (.cons (.for (.n 3) (.chars (.var 0)) rwB) r))
   |x=>x):=rfl
  rw [hb]
  cases g:l.all isB with
  |true =>
   obtain ⟨u,e⟩:=i1 g
   have e:forB (callT T (k+1)) (.n 3) rwB ((pS l).cps.toList.map fun c=>.str ⟨#[c]⟩) [some (.str (pS l)),some (.int w),some (.int 0),none] []=.nx [some (.str (pS l)),some (.int w),some (.int (val 0 l)),u] []:=e
   have hg:gd w l=true:=by simp [gd,q,g]
   rw [hg]
   simp_all! [f_read_word,x_ite,ev.eq_8,ev.eq_19,evs,bd_ok,fl_ok,List.getElem?_cons_succ,toR_some,hln,hne,Bool.not_true,t_bl,on_t,cond_false,th_nx,bT_n,nxO_some,hf,e,th_rt,zfp,if_true]
  |false =>
   obtain ⟨ρ,e⟩:=i2 g
   have e:forB (callT T (k+1)) (.n 3) rwB ((pS l).cps.toList.map fun c=>.str ⟨#[c]⟩) [some (.str (pS l)),some (.int w),some (.int 0),none] []=.exc 1 ρ []:=e
   have hg:gd w l=false:=by simp [gd,g]
   rw [hg]
   simp_all! [f_read_word,x_ite,ev.eq_8,ev.eq_19,evs,bd_ok,fl_ok,List.getElem?_cons_succ,toR_some,hln,hne,Bool.not_true,t_bl,on_t,cond_false,th_nx,bT_n,nxO_some,hf,e,th_exc,zfa,Bool.false_eq_true,if_false]
 ·rw [decide_eq_false q] at hne
  have hg:gd w l=false:=by simp [gd,q]
  rw [hg]
  obtain ⟨z,hz⟩:=zhd [] (vs:=[.str (pS l),.str " is no word of width ",.int w]) (fun v hv=>by
   simp only [List.mem_cons,List.not_mem_nil,or_false] at hv
   rcases hv with rfl|rfl|rfl
   ·exact zdT (by rw [zcO];omega)
   ·exact zdT (by decide +kernel)
   ·exact zjB (Nat.lt_of_lt_of_le (show (w:Int).natAbs<2 ^ 10 by omega) (Nat.pow_le_pow_right (by omega) (by omega)))) (by simp)
  simp! [f_read_word,hln,hne,hz,zfa]
  rfl
theorem zbs (c:Nat):∀l:List Nat,splitL c l≠[]
 | []=>by simp [splitL]
 |x::l=>by
  simp only [splitL]
  split
  ·simp
  ·split <;> simp
theorem zeT (c:Nat):∀(l p:List Nat),p∈splitL c l->p.length<=l.length/\∀x∈p,x∈l
 | [],p,h=>by
  simp only [splitL,List.mem_cons,List.not_mem_nil,or_false] at h
  subst h;simp
 |y::l,p,h=>by
  have ih:=zeT c l
  simp only [splitL] at h
  split at h
  ·rcases List.mem_cons.1 h with rfl|h
   ·simp
   ·obtain ⟨h1,h2⟩:=ih p h
    exact ⟨by simp;omega,fun x hx=>List.mem_cons_of_mem _ (h2 x hx)⟩
  ·split at h
   ·rename_i e
    exact absurd e (zbs c l)
   ·rename_i q qs e
    rcases List.mem_cons.1 h with rfl|h
    ·obtain ⟨h1,h2⟩:=ih q (by rw [e];simp)
     refine ⟨by simp;omega,fun x hx=>?_⟩
     rcases List.mem_cons.1 hx with rfl|hx
     ·simp
     ·exact List.mem_cons_of_mem _ (h2 x hx)
    ·obtain ⟨h1,h2⟩:=ih p (by rw [e];exact List.mem_cons_of_mem _ h)
     exact ⟨by simp;omega,fun x hx=>List.mem_cons_of_mem _ (h2 x hx)⟩
theorem zbV (c:Nat):∀l:List Nat,(splitL c l).length<=l.length+1
 | []=>by simp [splitL]
 |x::l=>by
  have ih:=zbV c l
  simp only [splitL]
  split
  ·simp;omega
  ·split
   ·simp
   ·rename_i e;rw [e] at ih;simp at ih ⊢;omega
def asc (x:Str):Prop:=(∀c∈x.cps.toList,c<128)/\x.cps.toList.length<=900
noncomputable abbrev pcs (x:Str):List (List Nat):=splitL 32 x.cps.toList
theorem zgG {x:Str}(h:asc x){l:List Nat}(hl:l∈pcs x):l.length<=900/\∀c∈l,c<128:=by
 obtain ⟨h1,h2⟩:=zeT 32 _ l hl
 exact ⟨Nat.le_trans h1 h.2,fun c hc=>h.1 c (h2 c hc)⟩
theorem zcJ {x:Str}(h:asc x)(st:Store):mthV .split st (.str x) [.str " "]=.ok (.lst ((pcs x).map fun l=>.str (pS l))) st:=by
 rw [s_sp]
 show splitV st (.str x) (.str ⟨#[32]⟩)=_
 simp only [splitV]
 rw [if_pos (by have:=h.2;simp only [Str.length];simp at this;omega)]
 rfl
noncomputable def wid (ws:List (List Nat)):Nat:=(ws.headD []).length
noncomputable def okT (ws:List (List Nat)):Bool:=decide (4<=wid ws) && (decide (wid ws<=16) && (decide (ws.length<=8) && ws.reverse.all (gd (wid ws))))
noncomputable def ansT (ws:List (List Nat)):PV:=.tp false [.int (wid ws),.tp false (ws.reverse.map fun l=>.int (val 0 l))]
theorem zdu {c:Cl}{ρ0 ρ1:IC.Env}{tg:Tg}{e:Ce}{x y:PV}{st st2:Store}(hb:bindT tg x ρ0=some ρ1)(he:ev c ρ1 st e=.ok y st2):oneB c ρ0 tg (.cst (.bl true)) e x st=.ok (some y) st2:=by
 simp only [oneB,hb,ev.eq_1,bd_ok,t_bl,ono,cond_true,he]
theorem zd8 {c:Cl}{ρ:IC.Env}{st:Store}{f i j:Nat}{a b:PV}(ha:ρ[i]?=some (some a))(hb:ρ[j]?=some (some b)):ev c ρ st (.call f (.cons (.var i) (.cons (.var j) .nil)))=c f [a,b] st:=by
 simp only [ev.eq_18,evs,ev.eq_2,ha,hb,bd_ok]
noncomputable def oneX (c:Cl)(ρ0:IC.Env)(tg:Tg)(e:Ce)(x:PV)(st:Store):R (Option PV) :=
 match bindT tg x ρ0 with
 |none=>.bad
 |some ρ1=>(ev c ρ1 st e).bind fun y st4=>.ok (some y) st4
theorem zmL {c:Cl}{ρ:IC.Env}{st:Store}{sl:List (Option Nat)}{tg:Tg}{it:Cit}{e:Ce}:ev c ρ st (.cmx sl tg it e)=(evi c ρ st it).bind fun xs st1=>if xs.length<=1000000 then lstX (compL (oneX c (sl.map fun o=>o.bind fun j=>(ρ[j]?).join) tg e) xs st1) else .bad:=by rw [ev];rfl
theorem zjE {c:Cl}{ρ0 ρ1:IC.Env}{tg:Tg}{e:Ce}{x y:PV}{st st2:Store}(hb:bindT tg x ρ0=some ρ1)(he:ev c ρ1 st e=.ok y st2):oneX c ρ0 tg e x st=.ok (some y) st2:=by
 simp only [oneX,hb,he,bd_ok]
theorem zib {c:Cl}{ρ0 ρ1:IC.Env}{tg:Tg}{e:Ce}{x:PV}{k:Nat}{st st2:Store}(hb:bindT tg x ρ0=some ρ1)(he:ev c ρ1 st e=.exc k st2):oneX c ρ0 tg e x st=.exc k st2:=by
 simp only [oneX,hb,he,bd_exc]
noncomputable def reE:Ce:=.call zbo (.cons (.var 0) (.cons (.var 1) .nil))
theorem zhS (k:Nat)(w:Nat)(hw:w<=1000):∀ws:List (List Nat),(∀l∈ws,l.length<=900/\∀c∈l,c<128) ->
  (ws.all (gd w)=true->compL (oneX (callT T (k+2)) [none,some (.int w)] (.n 0) reE) (ws.map fun l=>.str (pS l)) []=.ok (ws.map fun l=>.int (val 0 l)) []) /\
  (ws.all (gd w)=false->compL (oneX (callT T (k+2)) [none,some (.int w)] (.n 0) reE) (ws.map fun l=>.str (pS l)) []=.exc 1 [])
 | [],_=>⟨fun _=>by rw [List.map_nil,compL];rfl,fun h=>by simp at h⟩
 |l::ws,h=>by
  obtain ⟨i1,i2⟩:=zhS k w hw ws fun x hx=>h x (List.mem_cons_of_mem _ hx)
  obtain ⟨h1,h2⟩:=h l (by simp)
  have hr:=zeU k (by omega) h2 w hw []
  cases q:gd w l with
  |true =>
   rw [q] at hr
   have one:oneX (callT T (k+2)) [none,some (.int w)] (.n 0) reE (.str (pS l)) []=.ok (some (.int (val 0 l))) []:=zjE (ρ1:=[some (.str (pS l)),some (.int w)]) rfl ((zd8 rfl rfl).trans hr)
   refine ⟨fun g=>?_,fun g=>?_⟩
   ·rw [List.map_cons,compL,one,bd_ok,i1 (by simpa [q] using g),bd_ok]
    rfl
   ·rw [List.map_cons,compL,one,bd_ok,i2 (by simpa [q] using g),bd_exc]
  |false =>
   rw [q] at hr
   have one:oneX (callT T (k+2)) [none,some (.int w)] (.n 0) reE (.str (pS l)) []=.exc 1 []:=zib (ρ1:=[some (.str (pS l)),some (.int w)]) rfl ((zd8 rfl rfl).trans hr)
   refine ⟨fun g=>by simp [q] at g,fun g=>?_⟩
   rw [List.map_cons,compL,one,bd_exc]
theorem ziF {c:Cl}{ρ:IC.Env}{st:Store}{e:Ce}{v:PV}{xs:List PV}(he:ev c ρ st e=.ok v st)(hr:revL v=some xs):evi c ρ st (.revl e)=.ok xs st:=by
 rw [evi,he,bd_ok,hr]
 rfl
theorem zdz {c:Cl}{ρ:IC.Env}{st:Store}{i:Nat}{x s:Str}{v:PV}(hi:ρ[i]?=some (some (.str x)))(h:mthV .split st (.str x) [.str s]=.ok v st):ev c ρ st (.mth .split (.var i) (.cons (.cst (.str s)) .nil))=.ok v st:=by
 have h1:ev c ρ st (.var i)=.ok (.str x) st:=by rw [ev.eq_2,hi]
 have h3:evs c ρ st (.cons (.cst (.str s)) .nil)=.ok [.str s] st:=by simp only [evs,ev.eq_1,bd_ok]
 rw [ev.eq_20,h1,bd_ok,show mthOk .split st (.str x)=some true from rfl,ono,h3,bd_ok,h]
theorem zcL (c:Cl)(ρ:IC.Env)(X:Ce)(l:PV)(st:Store)(h1:ev c ρ st X=.ok l st):evs c ρ st (.cons X .nil)=.ok [l] st:=by
 simp only [evs,h1,bd_ok]
noncomputable def reT:Css:=match f_read.body with
 | .cons _ r=>r
 |x=>x
theorem reS:f_read.body=.cons (.asg (.n 1) (.mth .split (.var 0) (.cons (.cst (.str " ")) .nil))) reT:=rfl
noncomputable def reT2:Css:=match reT with
 | .cons _ (.cons _ r)=>r
 |x=>x
theorem reS2:reT=(match f_read.body with | .cons _ (.cons a (.cons b _))=>.cons a (.cons b reT2)|x=>x):=rfl
theorem reS3:reT2=.cons (.ret (.tup (.cons (.var 2) (.cons (.blt .tuple (.cons (.cmx [none,some 2] (.n 0) (.revl (.var 1)) reE) .nil)) .nil)))) .nil:=rfl
theorem ziz (k:Nat)(st:Store):lstX (.exc k st)=.exc k st:=rfl
theorem zjC (xs:List PV)(st:Store):lstX (.ok xs st)=.ok (.lst xs) st:=rfl
theorem zk0 (k:Nat)(ws:List (List Nat))(hs:∀l∈ws,l.length<=900/\∀c∈l,c<128)(hl:ws.length<=1000)(w:Nat)(hw:w<=1000){p0:Option PV} :
  (ws.reverse.all (gd w)=true->exs (callT T (k+2)) [p0,some (.lst (ws.map fun l=>.str (pS l))),some (.int w)] [] reT2=.rt (.tp false [.int w,.tp false (ws.reverse.map fun l=>.int (val 0 l))]) []) /\
  (ws.reverse.all (gd w)=false->∃ρ,exs (callT T (k+2)) [p0,some (.lst (ws.map fun l=>.str (pS l))),some (.int w)] [] reT2=.exc 1 ρ []):=by
 obtain ⟨i1,i2⟩:=zhS k w hw ws.reverse fun l h=>hs l (List.mem_reverse.1 h)
 have er:(ws.map fun l=>PV.str (pS l)).reverse=ws.reverse.map fun l=>.str (pS l):=by rw [List.map_reverse]
 have hi:evi (callT T (k+2)) [p0,some (.lst (ws.map fun l=>.str (pS l))),some (.int w)] [] (.revl (.var 1))=.ok (ws.reverse.map fun l=>.str (pS l)) []:=ziF (v:=.lst (ws.map fun l=>.str (pS l))) (by rw [ev.eq_2];rfl) (by show some _=_;rw [er])
 have h2:ev (callT T (k+2)) [p0,some (.lst (ws.map fun l=>.str (pS l))),some (.int w)] [] (.var 2)=.ok (.int w) []:=by rw [ev.eq_2];rfl
 have hv:ev (callT T (k+2)) [p0,some (.lst (ws.map fun l=>.str (pS l))),some (.int w)] [] (.cmx [none,some 2] (.n 0) (.revl (.var 1)) reE)=lstX (compL (oneX (callT T (k+2)) [none,some (.int w)] (.n 0) reE) (ws.reverse.map fun l=>.str (pS l)) []):=by
  rw [zmL,hi,bd_ok,if_pos (by simp;omega)]
  rfl
 refine ⟨fun g=>?_,fun g=>?_⟩
 ·rw [i1 g,zjC] at hv
  have ht:ev (callT T (k+2)) [p0,some (.lst (ws.map fun l=>.str (pS l))),some (.int w)] [] (.blt .tuple (.cons (.cmx [none,some 2] (.n 0) (.revl (.var 1)) reE) .nil))=.ok (.tp false (ws.reverse.map fun l=>.int (val 0 l))) []:=by
   rw [ev.eq_19,zcL _ _ _ _ _ hv,bd_ok]
   rfl
  rw [reS3,xs_cons,x_ret,ev.eq_11,evs,h2,bd_ok,zcL _ _ _ _ _ ht,bd_ok,bd_ok,if_pos (by simp [sizeMax]),fl_ok,th_rt]
 ·rw [i2 g,ziz] at hv
  have ht:ev (callT T (k+2)) [p0,some (.lst (ws.map fun l=>.str (pS l))),some (.int w)] [] (.blt .tuple (.cons (.cmx [none,some 2] (.n 0) (.revl (.var 1)) reE) .nil))=.exc 1 []:=by
   rw [ev.eq_19,evs,hv,bd_exc,bd_exc]
  refine ⟨[p0,some (.lst (ws.map fun l=>.str (pS l))),some (.int w)],?_⟩
  rw [reS3,xs_cons,x_ret,ev.eq_11,evs,h2,bd_ok,evs,ht,bd_exc,bd_exc,bd_exc,fl_exc,th_exc]
theorem zkj (k:Nat){x:Str}(h:asc x)(st:Store):callT T (k+3) zey [.str x] st=if okT (pcs x) then .ok (ansT (pcs x)) st else .exc 1 st:=by
 have hT:T zey=some ⟨1,3,true,f_read.body⟩:=rfl
 obtain ⟨d,r,hd⟩:∃d r,pcs x=d::r:=by
  cases q:pcs x with
  |nil=>exact absurd q (zbs 32 _)
  |cons d r=>exact ⟨d,r,rfl⟩
 have hin:=fun l hl=>zgG h (l:=l) hl
 have hn:=zbV 32 x.cps.toList
 have hx9:=h.2
 have hlen:(pcs x).length<=1000:=by show (splitL 32 x.cps.toList).length<=1000;omega
 have hwd:wid (pcs x)=d.length:=by simp [wid,hd]
 have hdl:=(hin d (by rw [hd];simp)).1
 have hx:idxV [] (.lst ((pcs x).map fun l=>.str (pS l))) (.int 0)=some (.str (pS d)):=by
  rw [hd]
  simp only [List.map_cons,idxV,idxI,at?]
  have:ixI (PV.str (pS d)::r.map fun l=>.str (pS l)).length 0=some 0:=by simp [ixI]
  rw [this];rfl
 have hnl:=zfA (show d.length<=1000 by omega) []
 have hn2:bltV .len [] [.lst ((pcs x).map fun l=>.str (pS l))]=some (.int ((pcs x).length:Int)):=by
  simp [bltV,lenV,seqOf]
 have hs:=zdz (c:=callT T (k+2)) (ρ:=[some (.str x),none,none]) (i:=0) rfl (zcJ h [])
 obtain ⟨e1,e2⟩:=zk0 k (pcs x) hin hlen d.length (by omega) (p0:=some (.str x))
 rw [zaB hT rfl rfl (by simp [noLocs,noLoc])]
 dsimp only
 rw [reS]
 show outP st (exs (callT T (k+2)) [some (.str x),none,none] [] _)=_
 rw [xs_cons,x_asg,hs,fl_ok,bT_n,nxO_some,th_nx]
 show outP st (exs (callT T (k+2)) [some (.str x),some (.lst ((pcs x).map fun l=>.str (pS l))),none] [] reT)=_
 rw [reS2]
 generalize pcs x=ws at *
 by_cases c1:4<=d.length
 ·have b1:decide ((4:Int)<=(d.length:Int))=true:=decide_eq_true (by omega)
  by_cases c2:d.length<=16
  ·have b2:decide ((d.length:Int)<=16)=true:=decide_eq_true (by omega)
   by_cases c3:ws.length<=8
   ·have b3:decide ((8:Int)<(ws.length:Int))=false:=decide_eq_false (by omega)
    cases g:ws.reverse.all (gd d.length) with
    |true =>
     have ho:okT ws=true:=by simp only [okT,hwd,g,decide_eq_true c1,decide_eq_true c2,decide_eq_true c3,Bool.and_self]
     rw [ho]
     have e:=e1 g
     simp! [f_read,hx,hnl,zX,z4,zZ,blO,b1,b2,hn2,b3,e]
     have hnn:noLocs (ws.reverse.map fun l=>PV.int (val 0 l))=true:=by
      have:=noLocs_ints (ws.reverse.map fun l=>val 0 l)
      rwa [List.map_map] at this
     simp only [outP,noLoc,noLocs,hnn,Bool.and_self,if_true,ansT,hwd]
    |false =>
     have ho:okT ws=false:=by simp only [okT,hwd,g,Bool.and_false]
     rw [ho]
     obtain ⟨ρ,e⟩:=e2 g
     simp! [f_read,hx,hnl,zX,z4,zZ,blO,b1,b2,hn2,b3,e]
     rfl
   ·have b3:decide ((8:Int)<(ws.length:Int))=true:=decide_eq_true (by omega)
    have ho:okT ws=false:=by simp only [okT,decide_eq_false c3,Bool.false_and,Bool.and_false]
    rw [ho]
    simp! [f_read,hx,hnl,zX,z4,zZ,blO,b1,b2,hn2,b3]
    rfl
  ·have b2:decide ((d.length:Int)<=16)=false:=decide_eq_false (by omega)
   have ho:okT ws=false:=by simp only [okT,hwd,decide_eq_false c2,Bool.false_and,Bool.and_false]
   rw [ho]
   simp! [f_read,hx,hnl,zX,z4,zZ,blO,b1,b2]
   rfl
 ·have b1:decide ((4:Int)<=(d.length:Int))=false:=decide_eq_false (by omega)
  have ho:okT ws=false:=by simp only [okT,hwd,decide_eq_false c1,Bool.false_and]
  rw [ho]
  simp! [f_read,hx,hnl,zX,z4,zZ,blO,b1]
  rfl
theorem zfC {α:Type}(f:α->Bool):∀xs:List α,anyB (xs.map fun x=>.bl (f x))=some (xs.any f)
 | []=>rfl
 |x::xs=>by simp [anyB,zfC f xs]
theorem zjR {α:Type}(f:α->Bool)(xs:List α)(st:Store):bltV .any st [.lst (xs.map fun x=>.bl (f x))]=some (.bl (xs.any f)):=by
 simp [bltV,lstOf,zfC]
theorem zhP {α:Type}(f:α->Bool):∀l:List α,(l.any fun c=>!f c)=!l.all f
 | []=>rfl
 |x::l=>by rw [List.any_cons,List.all_cons,zhP f l,Bool.not_and]
theorem notin01 {c:Nat}(hc:c<128):cmpV .notin (.str ⟨#[c]⟩) (.str "01")=some (.bl (!isB c)):=by
 have:((List.range 128).all fun c=>match cmpV .notin (.str ⟨#[c]⟩) (.str "01") with|some (.bl b)=>b == !isB c|_=>false)=true:=by decide +kernel
 have:=List.all_eq_true.1 this c (List.mem_range.2 hc)
 split at this
 ·rename_i b e
  rw [e,eq_of_beq this]
 ·cases this
theorem idx01 {c:Nat}(h:isB c=true)(st:Store):mthV .sidx st (.str "01") [.str ⟨#[c]⟩]=.ok (.int ((c:Int) - 48)) st:=by
 simp only [mthV,sidxV,if_true]
 rcases zjl.1 h with rfl|rfl
 ·rw [if_pos s_0.symm];rfl
 ·rw [if_neg (by decide +kernel),if_pos s_1.symm];rfl
theorem zmJ {c:Cl}{ρ:IC.Env}{st:Store}{i:Nat}{s:Str}{x:PV}{r:R PV}(hi:ρ[i]?=some (some x))(h:mthV .sidx st (.str s) [x]=r):ev c ρ st (.mth .sidx (.cst (.str s)) (.cons (.var i) .nil))=r:=by
 have h3:evs c ρ st (.cons (.var i) .nil)=.ok [x] st:=zcL _ _ _ _ _ (by rw [ev.eq_2,hi])
 rw [ev.eq_20,ev.eq_1,bd_ok,show mthOk .sidx st (.str s)=some true from rfl,ono,h3,bd_ok,h]
theorem zgz {c:Cl}{ρ:IC.Env}{st:Store}{i:Nat}{a b:Int}{m:Ce}(hi:ρ[i]?=some (some (.int a)))(hm:ev c ρ st m=.ok (.int b) st):ev c ρ st (.bin .add (.bin .mul (.cst (.int 2)) (.var i)) m)=.ok (.int (2*a+b)) st:=by
 have hq:binV .mul (.int 2) (.int a)=some (.int (2*a)):=zjo (by omega)
 simp only [ev.eq_3,ev.eq_1,ev.eq_2,hi,bd_ok,hq,toR_some,hm,b_add]
noncomputable def duB:Css:=match f_qdue.body with
 | .cons _ (.cons _ (.cons _ (.cons _ (.cons (.for _ _ b) _))))=>b
 |x=>x
noncomputable def duW:Css:=match duB with
 | .cons _ (.cons _ (.cons (.for _ _ b) _))=>b
 |x=>x
noncomputable def duA:Css:=match duB with
 | .cons _ (.cons _ (.cons _ r))=>r
 |x=>x
noncomputable def duC:Ce:=.cmp .notin (.var 0) (.cst (.str "01"))
theorem duWS:duW=.cons (.asg (.n 5) (.bin .add (.bin .mul (.cst (.int 2)) (.var 5)) (.mth .sidx (.cst (.str "01")) (.cons (.var 6) .nil)))) .nil:=rfl
theorem duAS:duA=.cons (.expr (.mth .append (.var 3) (.cons (.var 5) .nil))) .nil:=rfl
theorem zfD {c:Cl}{p0 p1 p2 p3 p4:Option PV}{st:Store}:∀(l:List Nat) (a:Int) (u:Option PV),l.all isB=true ->
  ∃u',forB c (.n 6) duW (l.map fun c=>.str ⟨#[c]⟩) [p0,p1,p2,p3,p4,some (.int a),u] st=.nx [p0,p1,p2,p3,p4,some (.int (val a l)),u'] st
 | [],a,u,_=>⟨u,by rw [List.map_nil,zbD];rfl⟩
 |x::l,a,u,h=>by
  simp only [List.all_cons,Bool.and_eq_true] at h
  obtain ⟨u',e⟩:=zfD (c:=c) (p0:=p0) (p1:=p1) (p2:=p2) (p3:=p3) (p4:=p4) (st:=st) l (2*a+((x:Int) - 48)) (some (.str ⟨#[x]⟩)) h.2
  refine ⟨u',?_⟩
  have hb:exs c [p0,p1,p2,p3,p4,some (.int a),some (.str ⟨#[x]⟩)] st duW=.nx [p0,p1,p2,p3,p4,some (.int (2*a+((x:Int) - 48))),some (.str ⟨#[x]⟩)] st:=by
   rw [duWS,xs_cons,x_asg,zgz (a:=a) (b:=(x:Int) - 48) rfl (zmJ rfl (idx01 h.1 st)),fl_ok,bT_n,nxO_some,th_nx,xs_nil]
   rfl
  rw [List.map_cons,zao (ρ1:=[p0,p1,p2,p3,p4,some (.int a),some (.str ⟨#[x]⟩)]) rfl,hb]
  exact e
theorem zlh {c:Cl}{p0 p1 p2 p3 p5 p6:Option PV}{st:Store}{l:List Nat}(hl:l.length<=900)(h:∀c∈l,c<128) :
  ev c [p0,p1,p2,p3,some (.str (pS l)),p5,p6] st (.blt .any (.cons (.comp [none] (.n 0) (.chars (.var 4)) (.cst (.bl true)) duC) .nil))=.ok (.bl (!l.all isB)) st:=by
 have hv:ev c [p0,p1,p2,p3,some (.str (pS l)),p5,p6] st (.var 4)=.ok (.str (pS l)) st:=by rw [ev.eq_2];rfl
 have hc:compB c [none] (.n 0) (.cst (.bl true)) duC (l.map fun c=>.str ⟨#[c]⟩) st=.ok (l.map fun c=>.bl (!isB c)) st:=by
  have:∀l:List Nat,(∀c∈l,c<128)->compB c [none] (.n 0) (.cst (.bl true)) duC (l.map fun c=>.str ⟨#[c]⟩) st=.ok (l.map fun c=>.bl (!isB c)) st:=by
   intro l
   induction l with
   |nil=>exact fun _=>zcN
   |cons x l ih =>
    intro h
    have one:oneB c [none] (.n 0) (.cst (.bl true)) duC (.str ⟨#[x]⟩) st=.ok (some (.bl (!isB x))) st:=zdu (ρ1:=[some (.str ⟨#[x]⟩)]) rfl (by
     rw [duC,ev.eq_8,ev.eq_2]
     show (R.ok (PV.str ⟨#[x]⟩) st).bind _=_
     rw [bd_ok,ev.eq_1,bd_ok,notin01 (h x (by simp)),toR_some])
    rw [List.map_cons,zbZ,one,bd_ok,ih fun y hy=>h y (List.mem_cons_of_mem _ hy),bd_ok]
    rfl
  exact this l h
 have he:ev c [p0,p1,p2,p3,some (.str (pS l)),p5,p6] st (.comp [none] (.n 0) (.chars (.var 4)) (.cst (.bl true)) duC)=.ok (.lst (l.map fun c=>.bl (!isB c))) st:=by
  rw [v_comp,zdB hv (by rw [zcO];omega),bd_ok]
  show lstR (compB c [none] (.n 0) (.cst (.bl true)) duC (l.map fun c=>.str ⟨#[c]⟩) st)=_
  rw [hc,zcM _ (by simp;omega)]
 rw [ev.eq_19,zcL _ _ _ _ _ he,bd_ok,zjR,toR_some]
 rw [zhP]
theorem zlE {c:Cl}{p0 p1 p5 p6:Option PV}{w:Nat}{acc:List PV}{l:List Nat}(hl:l.length<=900)(h:∀c∈l,c<128)(ha:acc.length<1000) :
  (gd w l=true->∃q6,exs c [p0,p1,some (.int w),some (.loc 0),some (.str (pS l)),p5,p6] [.lst acc] duB=.nx [p0,p1,some (.int w),some (.loc 0),some (.str (pS l)),some (.int (val 0 l)),q6] [.lst (acc++[.int (val 0 l)])]) /\
  (gd w l=false->exs c [p0,p1,some (.int w),some (.loc 0),some (.str (pS l)),p5,p6] [.lst acc] duB=.rt .non [.lst acc]):=by
 have hln:=zfA (show l.length<=1000 by omega) [.lst acc]
 have hne:cmpV .ne (.int (l.length:Int)) (.int w)=some (.bl (!decide (l.length=w))):=by
  rw [c_ne]
  by_cases q:l.length=w
  ·simp [q]
  ·rw [decide_eq_false q,show ((l.length:Int) == w)=false by rw [beq_eq_false_iff_ne];omega]
 have hany:=zlh (c:=c) (p0:=p0) (p1:=p1) (p2:=some (.int w)) (p3:=some (.loc 0)) (p5:=p5) (p6:=p6) (st:=[.lst acc]) hl h
 generalize hAE:(Ce.blt .any (.cons (.comp [none] (.n 0) (.chars (.var 4)) (.cst (.bl true)) duC) .nil))=anyE at hany
 have ht:ev c [p0,p1,some (.int w),some (.loc 0),some (.str (pS l)),p5,p6] [.lst acc] (.or (.cmp .ne (.blt .len (.cons (.var 4) .nil)) (.var 2)) anyE)=.ok (.bl (!gd w l)) [.lst acc]:=by
  by_cases q:l.length=w
  ·rw [decide_eq_true q] at hne
   simp! [hln,hne,hany,gd,q,decide_true]
   simp
  ·rw [decide_eq_false q] at hne
   simp! [hln,hne,gd,decide_eq_false q,Bool.false_and]
 have hB:duB=.cons (.ite (.or (.cmp .ne (.blt .len (.cons (.var 4) .nil)) (.var 2)) anyE) (.cons (.ret (.cst .non)) .nil) .nil) (.cons (.asg (.n 5) (.cst (.int 0))) (.cons (.for (.n 6) (.chars (.var 4)) duW) duA)):=by rw [<- hAE];rfl
 refine ⟨fun g=>?_,fun g=>?_⟩
 ·rw [g] at ht
  have gb:l.all isB=true:=by
   simp only [gd,Bool.and_eq_true] at g
   exact g.2
  obtain ⟨u,e⟩:=zfD (c:=c) (p0:=p0) (p1:=p1) (p2:=some (.int w)) (p3:=some (.loc 0)) (p4:=some (.str (pS l))) (st:=[.lst acc]) l 0 p6 gb
  have hv:ev c [p0,p1,some (.int w),some (.loc 0),some (.str (pS l)),some (.int 0),p6] [.lst acc] (.var 4)=.ok (.str (pS l)) [.lst acc]:=by rw [ev.eq_2];rfl
  have hf:=zhu (t:=.n 6) (b:=duW) (zdB hv (by rw [zcO];omega))
  have ho:mthOk .append [.lst acc] (.loc 0)=some true:=rfl
  have hap:mthV .append [.lst acc] (.loc 0) [.int (val 0 l)]=.ok .non [.lst (acc++[.int (val 0 l)])]:=by
   simp only [mthV,appV]
   show (if acc.length<1000000 then _ else _)=_
   rw [if_pos (by omega)]
   rfl
  refine ⟨u,?_⟩
  rw [hB,xs_cons,x_ite,ht,fl_ok,t_bl,on_t,Bool.not_true,cond_false,xs_nil,th_nx,xs_cons,x_asg,ev.eq_1,fl_ok,bT_n,nxO_some,th_nx]
  show exs c [p0,p1,some (.int w),some (.loc 0),some (.str (pS l)),some (.int 0),p6] [.lst acc] (.cons (.for (.n 6) (.chars (.var 4)) duW) duA)=_
  rw [xs_cons,hf]
  have e:forB c (.n 6) duW ((pS l).cps.toList.map fun c=>.str ⟨#[c]⟩) [p0,p1,some (.int w),some (.loc 0),some (.str (pS l)),some (.int 0),p6] [.lst acc]=.nx [p0,p1,some (.int w),some (.loc 0),some (.str (pS l)),some (.int (val 0 l)),u] [.lst acc]:=e
  rw [e,th_nx,duAS]
  simp! [ho,hap]
 ·rw [g] at ht
  rw [hB,xs_cons,x_ite,ht,fl_ok,t_bl,on_t,Bool.not_false,cond_true,xs_cons,x_ret,ev.eq_1,fl_ok,th_rt,th_rt]
theorem zg8 {c:Cl}{p0 p1:Option PV}{w:Nat}:∀(ws:List (List Nat)) (acc:List PV) (p4 p5 p6:Option PV),(∀l∈ws,l.length<=900/\∀c∈l,c<128)->acc.length+ws.length<1000 ->
  (ws.all (gd w)=true->∃q4 q5 q6,forB c (.n 4) duB (ws.map fun l=>.str (pS l)) [p0,p1,some (.int w),some (.loc 0),p4,p5,p6] [.lst acc]=.nx [p0,p1,some (.int w),some (.loc 0),q4,q5,q6] [.lst (acc++ws.map fun l=>.int (val 0 l))]) /\
  (ws.all (gd w)=false->∃s,forB c (.n 4) duB (ws.map fun l=>.str (pS l)) [p0,p1,some (.int w),some (.loc 0),p4,p5,p6] [.lst acc]=.rt .non s)
 | [],acc,p4,p5,p6,h,ha=>⟨fun _=>⟨p4,p5,p6,by rw [List.map_nil,zbD,List.map_nil,List.append_nil]⟩,fun g=>by simp at g⟩
 |l::ws,acc,p4,p5,p6,h,ha=>by
  obtain ⟨h1,h2⟩:=h l (by simp)
  simp only [List.length_cons] at ha
  obtain ⟨o1,o2⟩:=zlE (c:=c) (p0:=p0) (p1:=p1) (p5:=p5) (p6:=p6) (w:=w) (acc:=acc) h1 h2 (by omega)
  rw [List.map_cons,zao (ρ1:=[p0,p1,some (.int w),some (.loc 0),some (.str (pS l)),p5,p6]) rfl]
  cases q:gd w l with
  |true =>
   obtain ⟨q6,e⟩:=o1 q
   obtain ⟨i1,i2⟩:=zg8 (c:=c) (p0:=p0) (p1:=p1) (w:=w) ws (acc++[.int (val 0 l)]) (some (.str (pS l))) (some (.int (val 0 l))) q6 (fun x hx=>h x (List.mem_cons_of_mem _ hx)) (by simp;omega)
   rw [e]
   refine ⟨fun g=>?_,fun g=>?_⟩
   ·obtain ⟨r4,r5,r6,e2⟩:=i1 (by simpa [q] using g)
    refine ⟨r4,r5,r6,?_⟩
    rw [List.append_assoc] at e2
    exact e2
   ·exact i2 (by simpa [q] using g)
  |false =>
   rw [o2 q]
   exact ⟨fun g=>by simp [q] at g,fun g=>⟨[.lst acc],rfl⟩⟩
noncomputable def duT:Css:=match f_qdue.body with
 | .cons _ r=>r
 |x=>x
theorem duS:f_qdue.body=.cons (.asg (.n 1) (.mth .split (.var 0) (.cons (.cst (.str " ")) .nil))) duT:=rfl
noncomputable def duT2:Css:=match duT with
 | .cons _ (.cons _ r)=>r
 |x=>x
theorem duS2:duT=(match f_qdue.body with | .cons _ (.cons a (.cons b _))=>.cons a (.cons b duT2)|x=>x):=rfl
noncomputable def duE:Css:=match duT2 with
 | .cons _ (.cons _ r)=>r
 |x=>x
theorem duS3:duT2=.cons (.asg (.n 3) (.newl .nil)) (.cons (.for (.n 4) (.seq (.blt .rev (.cons (.var 1) .nil))) duB) duE):=rfl
theorem duES:duE=.cons (.ret (.tup (.cons (.var 2) (.cons (.blt .tuple (.cons (.var 3) .nil)) .nil)))) .nil:=rfl
theorem zk5 {c:Cl}(ws:List (List Nat))(hs:∀l∈ws,l.length<=900/\∀c∈l,c<128)(hl:ws.length<1000)(w:Nat){p0:Option PV} :
  (ws.reverse.all (gd w)=true->∃s,exs c [p0,some (.lst (ws.map fun l=>.str (pS l))),some (.int w),none,none,none,none] [] duT2=.rt (.tp false [.int w,.tp false (ws.reverse.map fun l=>.int (val 0 l))]) s) /\
  (ws.reverse.all (gd w)=false->∃s,exs c [p0,some (.lst (ws.map fun l=>.str (pS l))),some (.int w),none,none,none,none] [] duT2=.rt .non s):=by
 obtain ⟨i1,i2⟩:=zg8 (c:=c) (p0:=p0) (p1:=some (.lst (ws.map fun l=>.str (pS l)))) (w:=w) ws.reverse [] none none none (fun l h=>hs l (List.mem_reverse.1 h)) (by simp;omega)
 have er:(ws.map fun l=>PV.str (pS l)).reverse=ws.reverse.map fun l=>.str (pS l):=by rw [List.map_reverse]
 have hrv:∀s,bltV .rev s [.lst (ws.map fun l=>.str (pS l))]=some (.lst (ws.reverse.map fun l=>.str (pS l))):=fun s=>by
  show some (PV.lst (ws.map fun l=>PV.str (pS l)).reverse)=_
  rw [er]
 have hA:exs c [p0,some (.lst (ws.map fun l=>.str (pS l))),some (.int w),none,none,none,none] [] duT2 =
   thenF (forB c (.n 4) duB (ws.reverse.map fun l=>.str (pS l)) [p0,some (.lst (ws.map fun l=>.str (pS l))),some (.int w),some (.loc 0),none,none,none] [.lst []]) fun ρ s=>exs c ρ s duE:=by
  rw [duS3,xs_cons,x_asg]
  have h1:ev c [p0,some (.lst (ws.map fun l=>.str (pS l))),some (.int w),none,none,none,none] [] (.newl .nil)=.ok (.loc 0) [.lst []]:=by
   simp only [ev,evs,R.bind]
   rfl
  rw [h1,fl_ok,bT_n,nxO_some,th_nx]
  show exs c [p0,some (.lst (ws.map fun l=>.str (pS l))),some (.int w),some (.loc 0),none,none,none] [.lst []] _=_
  have h2:evi c [p0,some (.lst (ws.map fun l=>.str (pS l))),some (.int w),some (.loc 0),none,none,none] [.lst []] (.seq (.blt .rev (.cons (.var 1) .nil)))=.ok (ws.reverse.map fun l=>.str (pS l)) [.lst []]:=by
   have hv:ev c [p0,some (.lst (ws.map fun l=>.str (pS l))),some (.int w),some (.loc 0),none,none,none] [.lst []] (.blt .rev (.cons (.var 1) .nil))=.ok (.lst (ws.reverse.map fun l=>.str (pS l))) [.lst []]:=by
    rw [ev.eq_19,zcL _ _ _ (.lst (ws.map fun l=>.str (pS l))) _ (by rw [ev.eq_2];rfl),bd_ok,hrv,toR_some]
   rw [evi,hv,bd_ok]
  rw [xs_cons,zhu h2]
 refine ⟨fun g=>?_,fun g=>?_⟩
 ·obtain ⟨q4,q5,q6,e⟩:=i1 g
  rw [List.nil_append] at e
  refine ⟨[.lst (ws.reverse.map fun l=>.int (val 0 l))],?_⟩
  rw [hA,e,th_nx,duES]
  have htu:bltV .tuple [.lst (ws.reverse.map fun l=>.int (val 0 l))] [.loc 0]=some (.tp false (ws.reverse.map fun l=>.int (val 0 l))):=rfl
  simp! [htu,Nat.zero_le]
 ·obtain ⟨s,e⟩:=i2 g
  exact ⟨s,by rw [hA,e];rfl⟩
theorem zkM (k:Nat){x:Str}(h:asc x)(st:Store):callT T (k+1) zeg [.str x] st=.ok (if okT (pcs x) then ansT (pcs x) else .non) st:=by
 have hT:T zeg=some ⟨1,7,true,f_qdue.body⟩:=rfl
 obtain ⟨d,r,hd⟩:∃d r,pcs x=d::r:=by
  cases q:pcs x with
  |nil=>exact absurd q (zbs 32 _)
  |cons d r=>exact ⟨d,r,rfl⟩
 have hin:=fun l hl=>zgG h (l:=l) hl
 have hn:=zbV 32 x.cps.toList
 have hx9:=h.2
 have hlen:(pcs x).length<1000:=by show (splitL 32 x.cps.toList).length<1000;omega
 have hwd:wid (pcs x)=d.length:=by simp [wid,hd]
 have hdl:=(hin d (by rw [hd];simp)).1
 have hx:idxV [] (.lst ((pcs x).map fun l=>.str (pS l))) (.int 0)=some (.str (pS d)):=by
  rw [hd]
  simp only [List.map_cons,idxV,idxI,at?]
  have:ixI (PV.str (pS d)::r.map fun l=>.str (pS l)).length 0=some 0:=by simp [ixI]
  rw [this];rfl
 have hnl:=zfA (show d.length<=1000 by omega) []
 have hn2:bltV .len [] [.lst ((pcs x).map fun l=>.str (pS l))]=some (.int ((pcs x).length:Int)):=by
  simp [bltV,lenV,seqOf]
 have hs:=zdz (c:=callT T k) (ρ:=[some (.str x),none,none,none,none,none,none]) (i:=0) rfl (zcJ h [])
 obtain ⟨e1,e2⟩:=zk5 (c:=callT T k) (pcs x) hin hlen d.length (p0:=some (.str x))
 rw [zaB hT rfl rfl (by simp [noLocs,noLoc])]
 dsimp only
 rw [duS]
 show outP st (exs (callT T k) [some (.str x),none,none,none,none,none,none] [] _)=_
 rw [xs_cons,x_asg,hs,fl_ok,bT_n,nxO_some,th_nx]
 show outP st (exs (callT T k) [some (.str x),some (.lst ((pcs x).map fun l=>.str (pS l))),none,none,none,none,none] [] duT)=_
 rw [duS2]
 generalize pcs x=ws at *
 by_cases c1:4<=d.length
 ·have b1:decide ((d.length:Int)<4)=false:=decide_eq_false (by omega)
  by_cases c2:d.length<=16
  ·have b2:decide ((16:Int)<(d.length:Int))=false:=decide_eq_false (by omega)
   by_cases c3:ws.length<=8
   ·have b3:decide ((8:Int)<(ws.length:Int))=false:=decide_eq_false (by omega)
    cases g:ws.reverse.all (gd d.length) with
    |true =>
     have ho:okT ws=true:=by simp only [okT,hwd,g,decide_eq_true c1,decide_eq_true c2,decide_eq_true c3,Bool.and_self]
     rw [ho]
     obtain ⟨s,e⟩:=e1 g
     simp! [f_qdue,hx,hnl,b1,b2,hn2,b3,e]
     have hnn:noLocs (ws.reverse.map fun l=>PV.int (val 0 l))=true:=by
      have:=noLocs_ints (ws.reverse.map fun l=>val 0 l)
      rwa [List.map_map] at this
     simp only [outP,noLoc,noLocs,hnn,Bool.and_self,if_true,ansT,hwd]
    |false =>
     have ho:okT ws=false:=by simp only [okT,hwd,g,Bool.and_false]
     rw [ho]
     obtain ⟨s,e⟩:=e2 g
     simp! [f_qdue,hx,hnl,b1,b2,hn2,b3,e]
     rfl
   ·have b3:decide ((8:Int)<(ws.length:Int))=true:=decide_eq_true (by omega)
    have ho:okT ws=false:=by simp only [okT,decide_eq_false c3,Bool.false_and,Bool.and_false]
    rw [ho]
    simp! [f_qdue,hx,hnl,b1,b2,hn2,b3]
    rfl
  ·have b2:decide ((16:Int)<(d.length:Int))=true:=decide_eq_true (by omega)
   have ho:okT ws=false:=by simp only [okT,hwd,decide_eq_false c2,Bool.false_and,Bool.and_false]
   rw [ho]
   simp! [f_qdue,hx,hnl,b1,b2]
   rfl
 ·have b1:decide ((d.length:Int)<4)=true:=decide_eq_true (by omega)
  have ho:okT ws=false:=by simp only [okT,hwd,decide_eq_false c1,Bool.false_and]
  rw [ho]
  simp! [f_qdue,hx,hnl,b1]
  rfl
theorem zkr {k f:Nat}{fn:IC.Fn}{args:List PV}{v:PV}{s:Store}(hT:T f=some fn)(hp:fn.pure=true)(hl:args.length=fn.np)(hn:noLocs args=true)(h:callT T (k+1) f args []=.ok v s)(st:Store):callT T (k+1) f args st=.ok v st:=by
 rw [zaB hT hp hl hn] at h ⊢
 unfold outP at h ⊢
 split at h
 ·rename_i v1 s1 e
  split at h
  ·rename_i q
   rw [if_pos q]
   injection h with h1 h2
   rw [h1]
  ·cases h
 ·rename_i e
  injection h with h1 h2
  rw [<- h1]
 ·cases h
 ·cases h
noncomputable def ons (k:Nat):PV:=.lst ((List.range 14).map fun i=>.bl (k == i))
theorem met0 {k:Nat}(hk:k<14)(x:Str):callT T 2 zhX [.int k,.str x] []=.ok (ons k) []:=by
 match k,hk with
 |0,_=>rfl
 |1,_=>rfl
 |2,_=>rfl
 |3,_=>rfl
 |4,_=>rfl
 |5,_=>rfl
 |6,_=>rfl
 |7,_=>rfl
 |8,_=>rfl
 |9,_=>rfl
 |10,_=>rfl
 |11,_=>rfl
 |12,_=>rfl
 |13,_=>rfl
theorem zmc (j:Nat){k:Nat}(hk:k<14)(x:Str)(st:Store):callT T (j+2) zhX [.int k,.str x] st=.ok (ons k) st:=by
 rw [Nat.add_comm]
 exact zfB (zkr (k:=1) (fn:=zh0) rfl rfl rfl rfl (met0 hk x) st) j
noncomputable def inE:Ce:=.comp [none,some 0] (.n 0) (.range1 (.cst (.int 14))) (.cst (.bl true)) (.cmp .eq (.var 1) (.var 0))
theorem zms {c:Cl}{k:Nat}(hk:k<14)(v:PV)(st:Store):ev c [some (.int k),some v] st inE=.ok (ons k) st:=by
 match k,hk with
 |0,_=>rfl
 |1,_=>rfl
 |2,_=>rfl
 |3,_=>rfl
 |4,_=>rfl
 |5,_=>rfl
 |6,_=>rfl
 |7,_=>rfl
 |8,_=>rfl
 |9,_=>rfl
 |10,_=>rfl
 |11,_=>rfl
 |12,_=>rfl
 |13,_=>rfl
theorem zlK {k:Nat}(hk:k<14):cmpV .eq (ons k) (ons k)=some (.bl true):=by
 match k,hk with
 |0,_=>rfl
 |1,_=>rfl
 |2,_=>rfl
 |3,_=>rfl
 |4,_=>rfl
 |5,_=>rfl
 |6,_=>rfl
 |7,_=>rfl
 |8,_=>rfl
 |9,_=>rfl
 |10,_=>rfl
 |11,_=>rfl
 |12,_=>rfl
 |13,_=>rfl
noncomputable def mtE:Ce:=.cmp .eq (.call zhX (.cons (.var 0) (.cons (.var 1) .nil))) inE
theorem zdo:∀(n:Nat) (a:Int) (x:PV),x∈rangeL n a 1->∃i:Nat,i<n/\x=.int (a+i)
 |0,a,x,h=>by simp [rangeL] at h
 |n+1,a,x,h=>by
  rw [rangeL] at h
  rcases List.mem_cons.1 h with rfl|h
  ·exact ⟨0,by omega,by simp⟩
  ·obtain ⟨i,hi,rfl⟩:=zdo n (a+1) x h
   exact ⟨i+1,by omega,by congr 1;omega⟩
theorem zgs (j:Nat)(x:Str)(st:Store){ρ:IC.Env}(h6:ρ[6]?=some (some (.str x))):ev (callT T (j+2)) ρ st (.blt .all (.cons (.comp [none,some 6] (.n 0) (.range1 (.cst (.int 14))) (.cst (.bl true)) mtE) .nil))=.ok (.bl true) st:=by
 have hr:rng1 (.int 14)=some (rangeL 14 0 1):=rfl
 have hi:evi (callT T (j+2)) ρ st (.range1 (.cst (.int 14)))=.ok (rangeL 14 0 1) st:=by
  rw [evi,ev.eq_1,bd_ok,hr];rfl
 have hc:compB (callT T (j+2)) [none,some (.str x)] (.n 0) (.cst (.bl true)) mtE (rangeL 14 0 1) st=.ok ((rangeL 14 0 1).map fun _=>.bl true) st:=zby _ fun v hv=>by
  obtain ⟨i,hi,rfl⟩:=zdo _ _ _ hv
  rw [Int.zero_add]
  refine zdu (ρ1:=[some (.int i),some (.str x)]) rfl ?_
  rw [mtE,ev.eq_8,zd8 (a:=.int i) (b:=.str x) rfl rfl,zmc j hi,bd_ok,zms hi,bd_ok,zlK hi,toR_some]
 have he:ev (callT T (j+2)) ρ st (.comp [none,some 6] (.n 0) (.range1 (.cst (.int 14))) (.cst (.bl true)) mtE)=.ok (.lst ((rangeL 14 0 1).map fun _=>.bl true)) st:=by
  rw [v_comp,hi,bd_ok]
  have hs:([none,some 6].map fun o=>o.bind fun j=>(ρ[j]?).join)=[none,some (.str x)]:=by simp [h6]
  rw [hs,hc,zcM _ (by decide)]
 have ha:bltV .all st [.lst ((rangeL 14 0 1).map fun _=>.bl true)]=some (.bl true):=rfl
 rw [ev.eq_19,zcL _ _ _ _ _ he,bd_ok,ha,toR_some]
def asN (n:Nat)(x:Str):Prop:=(∀c∈x.cps.toList,c<128)/\x.cps.toList.length<=n
theorem asN.le {n m:Nat}{x:Str}(h:asN n x)(q:n<=m):asN m x:=⟨h.1,Nat.le_trans h.2 q⟩
theorem zeX {n:Nat}{x:Str}(h:asN n x)(hn:n<=1000)(a b:Option Int):∃y,asN n y/\slcO (.str x) a b=some (.str y):=by
 refine ⟨⟨(cut x.cps.toList a b).toArray⟩,⟨fun c hc=>h.1 c (zjZ (by simpa using hc)),?_⟩,?_⟩
 ·have:=zjH x.cps.toList a b
  have:=h.2
  simp only [List.toList_toArray]
  omega
 ·have:=h.2
  simp only [slcO]
  rw [if_pos (by simp only [Str.length,sizeMax,<- Array.length_toList];omega)]
theorem zd9 {n m:Nat}{x y:Str}(h:asN n x)(g:asN m y)(hn:n+m<=1000):asN (n+m) (x++y)/\binV .add (.str x) (.str y)=some (.str (x++y)):=by
 have h2:=h.2
 have g2:=g.2
 have e:(x++y).cps.toList=x.cps.toList++y.cps.toList:=zbr x y
 refine ⟨⟨fun c hc=>?_,?_⟩,?_⟩
 ·rw [e] at hc
  rcases List.mem_append.1 hc with q|q
  ·exact h.1 c q
  ·exact g.1 c q
 ·rw [e,List.length_append];omega
 ·simp only [binV]
  rw [if_pos (by simp only [Str.length,sizeMax,<- Array.length_toList];omega)]
noncomputable def tot (ys:List (List Nat)):Nat:=(ys.map fun y=>y.length+1).sum
theorem zdA (c:Nat):∀ys:List (List Nat),(glue c ys).length<=tot ys/\∀x∈glue c ys,x=c \/ ∃y∈ys,x∈y
 | []=>by simp [glue,tot]
 | [y]=>⟨by simp [glue,tot],fun x hx=>.inr ⟨y,by simp,hx⟩⟩
 |y::z::r=>by
  obtain ⟨h1,h2⟩:=zdA c (z::r)
  refine ⟨?_,fun x hx=>?_⟩
  ·simp only [glue,List.length_append,List.length_cons,tot,List.map_cons,List.sum_cons] at h1 ⊢
   omega
  ·simp only [glue] at hx
   rcases List.mem_append.1 hx with q|q
   ·exact .inr ⟨y,by simp,q⟩
   ·rcases List.mem_cons.1 q with q|q
    ·exact .inl q
    ·rcases h2 x q with q|⟨u,hu,q⟩
     ·exact .inl q
     ·exact .inr ⟨u,List.mem_cons_of_mem _ hu,q⟩
theorem zeF (c:Nat):∀l:List Nat,tot (splitL c l)=l.length+1
 | []=>rfl
 |x::l=>by
  have ih:=zeF c l
  simp only [splitL]
  split
  ·simp only [tot,List.map_cons,List.sum_cons,List.length_nil,List.length_cons] at ih ⊢;omega
  ·split
   ·rename_i e;exact absurd e (zbs c l)
   ·rename_i e
    rw [e] at ih
    simp only [tot,List.map_cons,List.sum_cons,List.length_cons] at ih ⊢;omega
theorem zhv {ys:List (List Nat)}{y:List Nat}(h:y∈ys):y.length+1<=tot ys:=by
 induction ys with
 |nil=>cases h
 |cons z ys ih =>
  simp only [tot,List.map_cons,List.sum_cons] at ih ⊢
  rcases List.mem_cons.1 h with rfl|h
  ·omega
  ·have:=ih h;omega
theorem zgE (ys:List (List Nat)):ys.length<=tot ys:=by
 induction ys with
 |nil=>exact Nat.zero_le _
 |cons z ys ih=>simp only [tot,List.map_cons,List.sum_cons,List.length_cons] at ih ⊢;omega
theorem zgx (ys:List (List Nat))(v:List Nat)(k:Nat):tot (ys.take k++v::ys.drop k)=tot ys+v.length+1:=by
 have e:tot ys=tot (ys.take k++ys.drop k):=by rw [List.take_append_drop]
 rw [e]
 simp only [tot,List.map_append,List.map_cons,List.sum_append,List.sum_cons]
 omega
theorem zdi:∀ys:List (List Nat),strsOf (ys.map fun l=>.str (pS l))=some (ys.map pS)
 | []=>rfl
 |y::ys=>by simp [strsOf,zdi ys]
theorem zhM (c:Nat)(hc:c<128){ys:List (List Nat)}(h:∀l∈ys,∀x∈l,x<128)(ht:tot ys<=900){st:Store}{v:PV}(hv:lstOf st v=some (ys.map fun l=>.str (pS l))) :
  ∃z,asN (tot ys) z/\mthV .join st (.str ⟨#[c]⟩) [v]=.ok (.str z) st:=by
 refine ⟨Str.join ⟨#[c]⟩ (ys.map pS),⟨fun x hx=>?_,?_⟩,?_⟩
 ·rw [zbv,List.map_map] at hx
  have e:((fun (s:Str)=>s.cps.toList) ∘ pS)=id:=funext fun l=>by simp [pS]
  rw [e,List.map_id] at hx
  rcases (zdA c ys).2 x hx with rfl|⟨y,hy,q⟩
  ·exact hc
  ·exact h y hy x q
 ·rw [zbv,List.map_map]
  have e:((fun (s:Str)=>s.cps.toList) ∘ pS)=id:=funext fun l=>by simp [pS]
  rw [e,List.map_id]
  exact (zdA c ys).1
 ·have h1:=zgE ys
  simp only [mthV,joinV,hv,zdi]
  rw [if_pos]
  refine ⟨by simp [Str.length],by simp;omega,List.all_eq_true.2 fun y hy=>?_⟩
  obtain ⟨l,hl,rfl⟩:=List.mem_map.1 hy
  have:=zhv hl
  rw [decide_eq_true_eq,zcO]
  omega
theorem zdL {α:Type}(i:Int)(k:Option Int->R α):onP (optI (.int i)) k=k (some i):=rfl
theorem zdZ {α:Type}(k:Option Int->R α):onP (optI .non) k=k none:=rfl
theorem ze9 (x:PV)(o:Option Int)(i:Int):slcV x o (.int i)=slcO x o (some i):=rfl
theorem zff (x:PV)(o:Option Int):slcV x o .non=slcO x o none:=rfl
theorem zjh {α:Type}(xs:List α){d:Nat}(h:d<xs.length):idxI xs (.int d)=some xs[d]:=by
 simp only [idxI,at?,ixI]
 rw [if_pos (by omega),if_pos (by omega)]
 show xs[(d:Int).toNat]?=_
 rw [Int.toNat_natCast,List.getElem?_eq_getElem h]
noncomputable def sgS:Str:=match f_qsign.body with
 | .cons (.asg _ (.cst (.str s))) _=>s
 |_=>⟨#[]⟩
noncomputable def sgT:Css:=match f_qsign.body with
 | .cons _ r=>r
 |x=>x
theorem sgB:f_qsign.body=.cons (.asg (.n 1) (.cst (.str sgS))) sgT:=rfl
theorem zlZ:(sgS.cps.toList.all fun c=>decide (c<128))=true:=by decide +kernel
theorem zg0:sgS.cps.toList.length=94:=by decide +kernel
theorem zjI {ns:List Int}(hns:ns.length<=1000)(k:Nat){st:Store}(h:Drw ns 0 st):∃c st',c<128/\Onl ns 0 st st'/\callT T (k+4) zhC [.loc 0] st=.ok (.str ⟨#[c]⟩) st':=by
 have hT:T zhC=some ⟨1,2,false,f_qsign.body⟩:=rfl
 obtain ⟨d,s1,d0,d1,o1,e1⟩:=takeD k hns (m:=94) (by omega) (by omega) h
 obtain ⟨d,rfl⟩:=zkx d0
 obtain ⟨t,s2,t0,t1,o2,e2⟩:=takeD k hns (m:=4) (by omega) (by omega) (o1.drw h)
 have hl:d<sgS.cps.toList.length:=by rw [zg0];omega
 have hc:=List.all_eq_true.1 zlZ _ (List.getElem_mem hl)
 rw [decide_eq_true_eq] at hc
 have hsz:sgS.length<=sizeMax:=by
  have:=zg0
  simp only [Str.length,sizeMax,<- Array.length_toList];omega
 have hi:∀s,idxV s (.str sgS) (.int d)=some (.str ⟨#[sgS.cps.toList[d]]⟩):=fun s=>by
  simp only [idxV]
  rw [if_pos hsz,zjh _ hl]
  rfl
 have hn:∀s,bltV .len s [.str sgS]=some (.int 94):=fun s=>by
  simp only [bltV,lenV]
  rw [if_pos hsz]
  simp only [Str.length,<- Array.length_toList,zg0]
  rfl
 generalize sgS.cps.toList[d]=c at *
 have hB:f_qsign.body=.cons (.asg (.n 1) (.cst (.str sgS))) sgT:=sgB
 generalize sgS=S at *
 have hx:∃q,q<128/\idxV s2 (.tp false [.str "0",.str "1",.str " ",.str ⟨#[c]⟩]) (.int t)=some (.str ⟨#[q]⟩):=by
  rw [s_0,s_1,s_sp]
  have:t=0 \/ t=1 \/ t=2 \/ t=3:=by omega
  rcases this with rfl|rfl|rfl|rfl
  ·exact ⟨48,by omega,rfl⟩
  ·exact ⟨49,by omega,rfl⟩
  ·exact ⟨32,by omega,rfl⟩
  ·exact ⟨c,hc,rfl⟩
 obtain ⟨q,hq,hx⟩:=hx
 refine ⟨q,s2,hq,o1.trans o2,?_⟩
 rw [zfu hT rfl rfl]
 dsimp only
 rw [hB]
 simp! [sgT,f_qsign,Nat.zero_le,hn,e1,hi,e2,hx,zeI]
noncomputable def sqT:Css:=match f_qspoilt.body with
 | .cons _ (.cons _ (.cons _ r))=>r
 |x=>x
noncomputable def sqW:Css:=match sqT with
 | .cons _ (.cons _ (.cons _ r))=>r
 |x=>x
noncomputable def sqX:Css:=match sqW with
 | .cons _ r=>r
 |x=>x
noncomputable def sqJ:Css:=match sqX with
 | .cons _ (.cons _ (.cons _ r))=>r
 |x=>x
theorem spWS:sqW=.cons (.asg (.n 5) (.thw (.mth .split (.var 1) (.cons (.cst (.str " ")) .nil)))) sqX:=rfl
theorem spJS:sqJ=.cons (.ret (.mth .join (.cst (.str " ")) (.cons (.var 5) .nil))) .nil:=rfl
theorem spBS:f_qspoilt.body=(match f_qspoilt.body with | .cons a (.cons b (.cons c _))=>.cons a (.cons b (.cons c sqT))|x=>x):=rfl
theorem spTS:sqT=(match sqT with | .cons a (.cons b (.cons c _))=>.cons a (.cons b (.cons c sqW))|x=>x):=rfl
theorem spXS:sqX=(match sqX with | .cons a (.cons b (.cons c _))=>.cons a (.cons b (.cons c sqJ))|x=>x):=rfl
theorem zjr {c:Cl}{ρ:IC.Env}{st:Store}{i:Nat}{v:PV}{s r:Str}(hi:ρ[i]?=some (some v))(h2:mthV .join st (.str s) [v]=.ok (.str r) st):ev c ρ st (.mth .join (.cst (.str s)) (.cons (.var i) .nil))=.ok (.str r) st:=by
 rw [ev.eq_20,ev.eq_1,bd_ok,show mthOk .join st (.str s)=some true from rfl,ono,zcL _ _ _ v _ (by rw [ev.eq_2,hi]),bd_ok,h2]
theorem zfk {c:Cl}{ρ:IC.Env}{st:Store}{L:Nat}{ys:List (List Nat)}(h5:ρ[5]?=some (some (.loc L)))(hL:st[L]?=some (.lst (ys.map fun l=>.str (pS l))))(h:∀l∈ys,∀x∈l,x<128)(ht:tot ys<=900):∃z,asN 900 z/\exs c ρ st sqJ=.rt (.str z) st:=by
 obtain ⟨z,hz,e⟩:=zhM 32 (by omega) h ht (st:=st) (v:=.loc L) (by simp only [lstOf,hL])
 rw [<- s_sp] at e
 refine ⟨z,hz.le ht,?_⟩
 rw [spJS,xs_cons,x_ret,zjr h5 e,fl_ok,th_rt]
theorem zhK {c:Cl}{ρ:IC.Env}{st:Store}{x:Str}(hi:ρ[1]?=some (some (.str x)))(h:asc x):ev c ρ st (.thw (.mth .split (.var 1) (.cons (.cst (.str " ")) .nil)))=.ok (.loc st.length) (st++[.lst ((pcs x).map fun l=>.str (pS l))]):=by
 have e:=zdz (c:=c) (ρ:=ρ) (st:=st) (i:=1) hi (zcJ h st)
 generalize (Ce.mth .split (.var 1) (.cons (.cst (.str " ")) .nil))=E at e ⊢
 rw [ev,e,bd_ok]
 rfl
theorem zhL {st:Store}{L:Nat}{ys:List (List Nat)}(hL:st[L]?=some (.lst (ys.map fun l=>.str (pS l)))){k:Nat}(hk:k<=ys.length)(hl:ys.length<=900)(v:List Nat) :
  mthOk .insert st (.loc L)=some true/\mthV .insert st (.loc L) [.int k,.str (pS v)]=.ok .non (st.set L (.lst ((ys.take k++v::ys.drop k).map fun l=>.str (pS l)))):=by
 constructor
 ·simp only [mthOk,lstOf,hL,Option.map_some]
 ·simp only [mthV,insV,hL]
  rw [if_pos (by simp;omega)]
  simp only [Int.toNat_natCast,List.map_append,List.map_cons,List.map_take,List.map_drop]
theorem zh4 {ns:List Int}(hns:ns.length<=1000)(k:Nat){x:Str}(hx:asN 250 x){st:Store}(h:Drw ns 0 st){way a:Int}(a0:0<=a){p4:Option PV} :
  ∃y st',asN 900 y/\Drw ns 0 st'/\exs (callT T (k+3)) [some (.loc 0),some (.str x),some (.int way),some (.int a),p4,none] st sqW=.rt (.str y) st':=by
 have hx2:=hx.2
 have hasc:asc x:=hx.le (by omega)
 have hL:st.length≠0:=by have:=h.pos;omega
 have h1:Drw ns 0 (st++[.lst ((pcs x).map fun l=>.str (pS l))]):=h.app _
 have g1:(st++[Ob.lst ((pcs x).map fun l=>.str (pS l))])[st.length]?=some (.lst ((pcs x).map fun l=>.str (pS l))):=by simp
 have hts:tot (pcs x)<=251:=by
  have:=zeF 32 x.cps.toList
  show tot (splitL 32 x.cps.toList)<=251
  omega
 have hin:=fun l hl=>(zgG hasc (l:=l) hl).2
 have e0:=zhK (c:=callT T (k+3)) (ρ:=[some (.loc 0),some (.str x),some (.int way),some (.int a),p4,none]) (st:=st) rfl hasc
 have hpn:=zgE (pcs x)
 generalize hws:pcs x=ws at *
 obtain ⟨s1,hs1⟩:∃s1,s1=st++[Ob.lst (ws.map fun l=>.str (pS l))]:=⟨_,rfl⟩
 rw [<- hs1] at h1 g1 e0
 generalize st.length=L at *
 have hlen:∀s,s[L]?=some (Ob.lst (ws.map fun l=>.str (pS l)))->bltV .len s [.loc L]=some (.int ws.length):=fun s q=>by simp [bltV,lenV,seqOf,q]
 have hlen1:=hlen s1 g1
 have m1:=Int.emod_nonneg a (show (ws.length:Int)+1≠0 by omega)
 have m2:=Int.emod_lt_of_pos a (show 0<(ws.length:Int)+1 by omega)
 obtain ⟨b,hb0,hbk⟩:∃b:Nat,b<=ws.length/\a % ((ws.length:Int)+1)=b:=⟨(a % ((ws.length:Int)+1)).toNat,by omega,by omega⟩
 have hmod:binV .mod (.int a) (.int ((ws.length:Int)+1))=some (.int b):=by rw [zk3 (by omega),hbk]
 have pA:exs (callT T (k+3)) [some (.loc 0),some (.str x),some (.int way),some (.int a),p4,none] st sqW=exs (callT T (k+3)) [some (.loc 0),some (.str x),some (.int way),some (.int a),p4,some (.loc L)] s1 sqX:=by
  rw [spWS,xs_cons,x_asg,e0,fl_ok,bT_n,nxO_some,th_nx]
  rfl
 rw [pA,spXS]
 by_cases w3:way=3
 ·subst w3
  obtain ⟨d,s2,d0,d1,o2,e2⟩:=takeD k hns (m:=10) (by omega) (by omega) h1
  have hrep:repV (.str "01") (.int (1+d))=some (.str (pS (List.replicate (1+d).toNat [48,49]).flatten)):=by
   rw [s_01]
   simp only [repV]
   rw [if_pos (by simp [Str.length];omega)]
   rfl
  have hfl:(List.replicate (1+d).toNat [48,49]).flatten.length<=20:=by
   simp [List.length_flatten];omega
  have hfc:∀c∈(List.replicate (1+d).toNat [48,49]).flatten,c<128:=fun c hc=>by
   obtain ⟨l,hl,hc⟩:=List.mem_flatten.1 hc
   rw [List.eq_of_mem_replicate hl] at hc
   simp at hc;omega
  generalize (List.replicate (1+d).toNat [48,49]).flatten=v at *
  have g2:s2[L]?=some (.lst (ws.map fun l=>.str (pS l))):=by rw [o2.get hL];exact g1
  obtain ⟨i1,i2⟩:=zhL g1 hb0 (by omega) v
  obtain ⟨j1,j2⟩:=zhL g2 hb0 (by omega) v
  obtain ⟨s3,hs3⟩:∃s3,s3=s2.set L (.lst ((ws.take b++v::ws.drop b).map fun l=>.str (pS l))):=⟨_,rfl⟩
  rw [<- hs3] at j2
  have h3:Drw ns 0 s3:=by rw [hs3];exact (o2.drw h1).put hL _
  have g3:s3[L]?=some (.lst ((ws.take b++v::ws.drop b).map fun l=>.str (pS l))):=by
   rw [hs3,List.getElem?_set_self]
   rcases Nat.lt_or_ge L s2.length with z|z
   ·exact z
   ·rw [List.getElem?_eq_none z] at g2;cases g2
  obtain ⟨z,hz,ez⟩:=zfk (c:=callT T (k+3)) (ρ:=[some (.loc 0),some (.str x),some (.int 3),some (.int b),p4,some (.loc L)]) rfl g3 (fun l hl c hc=>by
   rcases List.mem_append.1 hl with q|q
   ·exact hin l (List.mem_of_mem_take q) c hc
   ·rcases List.mem_cons.1 q with rfl|q
    ·exact hfc c hc
    ·exact hin l (List.mem_of_mem_drop q) c hc) (by rw [zgx];omega)
  refine ⟨z,s3,hz,h3,?_⟩
  have c3:cmpV .eq (.int 3) (.int 3)=some (.bl true):=rfl
  have c4:cmpV .eq (.int 3) (.int 4)=some (.bl false):=rfl
  have er:ev (callT T (k+3)) [some (.loc 0),some (.str x),some (.int 3),some (.int b),p4,some (.loc L)] s1 (.rep (.cst (.str "01")) (.bin .add (.cst (.int 1)) (.call 6 (.cons (.var 0) (.cons (.cst (.int 10)) .nil)))))=.ok (.str (pS v)) s2:=by
   have e3:ev (callT T (k+3)) [some (.loc 0),some (.str x),some (.int 3),some (.int b),p4,some (.loc L)] s1 (.bin .add (.cst (.int 1)) (.call 6 (.cons (.var 0) (.cons (.cst (.int 10)) .nil))))=.ok (.int (1+d)) s2:=by simp! [e2]
   generalize (Ce.bin .add (.cst (.int 1)) (.call 6 (.cons (.var 0) (.cons (.cst (.int 10)) .nil))))=E at e3 ⊢
   rw [ev,ev.eq_1,bd_ok,e3,bd_ok,hrep,toR_some]
  generalize hRE:(Ce.rep (.cst (.str "01")) (.bin .add (.cst (.int 1)) (.call 6 (.cons (.var 0) (.cons (.cst (.int 10)) .nil)))))=RE at er
  have hQ:sqX=(match sqX with | .cons a (.cons (.ite t (.cons (.expr (.mth m o (.cons i (.cons _ _)))) _) e) (.cons c _))=>.cons a (.cons (.ite t (.cons (.expr (.mth m o (.cons i (.cons RE .nil)))) .nil) e) (.cons c sqJ))|x=>x):=by rw [<- hRE];rfl
  rw [<- spXS,hQ]
  simp! [sqX,sqW,sqT,f_qspoilt,hlen1,hmod,c3,c4,er,i1,j2,ez]
 ·have c3:((way:Int) == 3)=false:=by simp [w3]
  by_cases w4:way=4/\b<ws.length
  ·obtain ⟨rfl,hb1⟩:=w4
   have hix:idxV s1 (.loc L) (.int b)=some (.str (pS ws[b])):=by
    simp only [idxV,g1]
    rw [zjh _ (by simpa using hb1)]
    simp
   obtain ⟨i1,i2⟩:=zhL g1 hb0 (by omega) ws[b]
   have hwb:=zhv (List.getElem_mem hb1)
   obtain ⟨s3,hs3⟩:∃s3,s3=s1.set L (.lst ((ws.take b++ws[b]::ws.drop b).map fun l=>.str (pS l))):=⟨_,rfl⟩
   rw [<- hs3] at i2
   have h3:Drw ns 0 s3:=by rw [hs3];exact h1.put hL _
   have g3:s3[L]?=some (.lst ((ws.take b++ws[b]::ws.drop b).map fun l=>.str (pS l))):=by
    rw [hs3,List.getElem?_set_self]
    rcases Nat.lt_or_ge L s1.length with z|z
    ·exact z
    ·rw [List.getElem?_eq_none z] at g1;cases g1
   obtain ⟨z,hz,ez⟩:=zfk (c:=callT T (k+3)) (ρ:=[some (.loc 0),some (.str x),some (.int 4),some (.int b),p4,some (.loc L)]) rfl g3 (fun l hl c hc=>by
    rcases List.mem_append.1 hl with q|q
    ·exact hin l (List.mem_of_mem_take q) c hc
    ·rcases List.mem_cons.1 q with rfl|q
     ·exact hin _ (List.getElem_mem hb1) c hc
     ·exact hin l (List.mem_of_mem_drop q) c hc) (by rw [zgx];omega)
   refine ⟨z,s3,hz,h3,?_⟩
   have c4:((4:Int) == 4)=true:=rfl
   have c3:((4:Int) == 3)=false:=rfl
   have c5:decide ((b:Int)<(ws.length:Int))=true:=decide_eq_true (by omega)
   simp! [sqX,sqW,sqT,f_qspoilt,hlen1,hmod,c3,c4,c5,blO,hix,i1,i2,ez]
  ·obtain ⟨z,hz,ez⟩:=zfk (c:=callT T (k+3)) (ρ:=[some (.loc 0),some (.str x),some (.int way),some (.int b),p4,some (.loc L)]) rfl g1 hin (by omega)
   refine ⟨z,s1,hz,h1,?_⟩
   by_cases w5:way=4
   ·subst w5
    have c4:((4:Int) == 4)=true:=rfl
    have c3:((4:Int) == 3)=false:=rfl
    have c5:decide ((b:Int)<(ws.length:Int))=false:=decide_eq_false (by have:¬b<ws.length:=fun q=>w4 ⟨rfl,q⟩;omega)
    simp! [sqX,sqW,sqT,f_qspoilt,hlen1,hmod,c3,c4,c5,blO,ez]
   ·have c4:((way:Int) == 4)=false:=by simp [w5]
    simp! [sqX,sqW,sqT,f_qspoilt,hlen1,hmod,c3,c4,blO,ez]
theorem zhj {ns:List Int}(hns:ns.length<=1000)(k:Nat){x:Str}(hx:asN 250 x){st:Store}(h:Drw ns 0 st):∃y st',asN 900 y/\Drw ns 0 st'/\callT T (k+5) zcA [.loc 0,.str x] st=.ok (.str y) st':=by
 have hT:T zcA=some ⟨2,6,false,f_qspoilt.body⟩:=rfl
 have hx2:=hx.2
 have hlen:∀s,bltV .len s [.str x]=some (.int x.cps.toList.length):=fun s=>by
  simp only [bltV,lenV]
  rw [if_pos (by simp only [Str.length,sizeMax,<- Array.length_toList];omega)]
  simp only [Str.length,<- Array.length_toList]
 obtain ⟨way,s1,w0,w1,o1,e1⟩:=takeD (k+1) hns (m:=8) (by omega) (by omega) h
 have h1:=o1.drw h
 obtain ⟨a,s2,a0,a1,o2,e2⟩:=takeD (k+1) hns (m:=(x.cps.toList.length:Int)+1) (by omega) (by omega) h1
 have h2:=o2.drw h1
 obtain ⟨c,s3,c0,o3,e3⟩:=zjI hns k h2
 have h3:=o3.drw h2
 have e1:callT T (k+4) z8 [.loc 0,.int 8] st=.ok (.int way) s1:=e1
 have e2:callT T (k+4) z8 [.loc 0,.int ((x.cps.toList.length:Int)+1)] s1=.ok (.int a) s2:=e2
 have pA:exs (callT T (k+4)) [some (.loc 0),some (.str x),none,none,none,none] st f_qspoilt.body=exs (callT T (k+4)) [some (.loc 0),some (.str x),some (.int way),some (.int a),some (.str ⟨#[c]⟩),none] s3 sqT:=by
  rw [spBS]
  simp! [f_qspoilt,e1,hlen,e2,e3]
 have hsg:asN 1 ⟨#[c]⟩:=⟨fun y hy=>by simp at hy;omega,by simp⟩
 obtain ⟨u1,hu1,q1⟩:=zeX hx (by omega) none (some a)
 obtain ⟨u2,hu2,q2⟩:=zeX hx (by omega) (some a) none
 obtain ⟨u3,hu3,q3⟩:=zeX hx (by omega) (some (a+1)) none
 obtain ⟨v1,r1⟩:=zd9 hu1 hsg (by omega)
 obtain ⟨v2,r2⟩:=zd9 v1 hu2 (by omega)
 obtain ⟨v3,r3⟩:=zd9 v1 hu3 (by omega)
 obtain ⟨v4,r4⟩:=zd9 hu1 hu3 (by omega)
 rw [zfu hT rfl rfl]
 show ∃y st',asN 900 y/\Drw ns 0 st'/\outI (exs (callT T (k+4)) [some (.loc 0),some (.str x),none,none,none,none] st f_qspoilt.body)=.ok (.str y) st'
 rw [pA,spTS]
 by_cases c0:way=0
 ·subst c0
  have b0:((0:Int) == 0)=true:=rfl
  refine ⟨_,s3,v2.le (by omega),h3,?_⟩
  simp! [sqT,f_qspoilt,b0,zdL,zdZ,ze9,zff,q1,q2,r1,r2,zeI]
 have b0:((way:Int) == 0)=false:=by simp [c0]
 by_cases c1:way=1
 ·subst c1
  have b1:((1:Int) == 1)=true:=rfl
  have b0:((1:Int) == 0)=false:=rfl
  refine ⟨_,s3,v4.le (by omega),h3,?_⟩
  simp! [sqT,f_qspoilt,b0,b1,zdL,zdZ,ze9,zff,q1,q3,r4,zeI]
 have b1:((way:Int) == 1)=false:=by simp [c1]
 by_cases c2:way=2
 ·subst c2
  have b2:((2:Int) == 2)=true:=rfl
  have b1:((2:Int) == 1)=false:=rfl
  have b0:((2:Int) == 0)=false:=rfl
  refine ⟨_,s3,v3.le (by omega),h3,?_⟩
  simp! [sqT,f_qspoilt,b0,b1,b2,zdL,zdZ,ze9,zff,q1,q3,r1,r3,zeI]
 have b2:((way:Int) == 2)=false:=by simp [c2]
 obtain ⟨y,s4,hy,h4,e4⟩:=zh4 hns (k+1) hx h3 (way:=way) a0 (p4:=some (.str ⟨#[c]⟩))
 have e4:exs (callT T (k+4)) [some (.loc 0),some (.str x),some (.int way),some (.int a),some (.str ⟨#[c]⟩),none] s3 sqW=.rt (.str y) s4:=e4
 refine ⟨y,s4,hy,h4,?_⟩
 simp! [sqT,f_qspoilt,b0,b1,b2,e4,zeI]
theorem zhY:∀ys:List Str,(Str.join ⟨#[]⟩ ys).cps.toList=(ys.map (·.cps.toList)).flatten
 | []=>rfl
 | [y]=>by simp [Str.join]
 |y::z::r=>by
  simp only [Str.join,List.map_cons,List.flatten_cons]
  rw [zbr,zbr,zhY (z::r)]
  simp
theorem zeH:∀l:List Nat,strsOf (l.map fun c=>.str ⟨#[c]⟩)=some (l.map fun c=>⟨#[c]⟩)
 | []=>rfl
 |y::ys=>by simp [strsOf,zeH ys]
theorem zjO {l:List Nat}(hl:l.length<=1000)(st:Store):mthV .join st (.str "") [.lst (l.map fun c=>.str ⟨#[c]⟩)]=.ok (.str (pS l)) st:=by
 rw [s_em]
 simp only [mthV,joinV,lstOf,zeH]
 rw [if_pos ⟨by simp [Str.length],by simp;omega,List.all_eq_true.2 fun y hy=>by
  obtain ⟨c,_,rfl⟩:=List.mem_map.1 hy
  simp [Str.length]⟩]
 congr 2
 refine zaQ ?_
 rw [zhY,List.map_map]
 show (l.map fun c=>[c]).flatten=_
 induction l with
 |nil=>rfl
 |cons c l ih=>rw [List.map_cons,List.flatten_cons,ih (by simp at hl;omega)];rfl
noncomputable def wdE:Ce:=.idx (.cst (.str "01")) (.call z8 (.cons (.var 1) (.cons (.cst (.int 2)) .nil)))
theorem zhm {ns:List Int}(hns:ns.length<=1000)(k:Nat):∀(xs:List PV) {st:Store},Drw ns 0 st->∃(l:List Nat) (st':Store),l.length=xs.length/\(∀c∈l,c<128)/\Onl ns 0 st st'/\compB (callT T (k+3)) [none,some (.loc 0)] (.n 0) (.cst (.bl true)) wdE xs st=.ok (l.map fun c=>.str ⟨#[c]⟩) st'
 | [],st,h=>⟨[],st,rfl,by simp,h.refl,zcN⟩
 |x::xs,st,h=>by
  obtain ⟨d,s1,d0,d1,o1,e1⟩:=takeD k hns (m:=2) (by omega) (by omega) h
  have hi:∃c,c<128/\idxV s1 (.str "01") (.int d)=some (.str ⟨#[c]⟩):=by
   rw [s_01]
   have:d=0 \/ d=1:=by omega
   rcases this with rfl|rfl
   ·exact ⟨48,by omega,rfl⟩
   ·exact ⟨49,by omega,rfl⟩
  obtain ⟨c,hc,hi⟩:=hi
  obtain ⟨l,s2,hl,hs,o2,e2⟩:=zhm hns k xs (o1.drw h)
  refine ⟨c::l,s2,by simp [hl],fun q hq=>?_,o1.trans o2,?_⟩
  ·rcases List.mem_cons.1 hq with rfl|hq
   ·exact hc
   ·exact hs q hq
  ·have one:oneB (callT T (k+3)) [none,some (.loc 0)] (.n 0) (.cst (.bl true)) wdE x st=.ok (some (.str ⟨#[c]⟩)) s1:=zdu (ρ1:=[some x,some (.loc 0)]) rfl (by
    have e3:ev (callT T (k+3)) [some x,some (.loc 0)] st (.call z8 (.cons (.var 1) (.cons (.cst (.int 2)) .nil)))=.ok (.int d) s1:=by simp! [e1]
    rw [wdE,ev.eq_16,ev.eq_1,bd_ok,e3,bd_ok,hi,toR_some])
   rw [zbZ,one,bd_ok,e2,bd_ok]
   rfl
theorem zfv (k:Nat)(i:Int)(st:Store):callT T (k+1) zcn [.int i] st=.ok (.bl true) st:=by
 have hT:T zcn=some zdX:=rfl
 rw [callT,hT]
 rfl
theorem zem:∀ds:List Int,peqs (ds.map .int) (ds.map .int)=true
 | []=>rfl
 |d::ds=>by simp [peqs,peq,zem ds]
theorem zeQ (n:Nat):∀ds:List Int,shds n (ds.map .int)=true
 | []=>rfl
 |d::ds=>by simp [shds,shd,zeQ n ds]
theorem zeP:∀xs:List PV,(∀x∈xs,x=.bl true)->allB xs=some true
 | [],_=>rfl
 |x::xs,h=>by
  have:=h x List.mem_cons_self
  subst this
  rw [allB,zeP xs fun y hy=>h y (List.mem_cons_of_mem _ hy)]
  rfl
theorem number (k:Nat)(ds:List Int)(w n:Nat)(hw:w<=16)(hn:n<=8)(hl:ds.length=n)(hi:inW (2 ^ w) ds)(st:Store):callT T (k+2) zcH [.tup (ds.map .int),.int w,.int n] st=.ok (.bl true) st:=by
 have hT:T zcH=some zbx:=rfl
 have ht:=zlf k w (by omega) []
 have hlen:bltV .len [] [.tp false (ds.map .int)]=some (.int n):=by rw [<- hl];simp [bltV,lenV,seqOf]
 have c1:compB (callT T (k+1)) [none] (.n 0) (.cst (.bl true)) (.call zcn (.cons (.var 0) .nil)) (ds.map .int) []=.ok ((ds.map PV.int).map fun _=>.bl true) []:=by
  refine zby _ fun p hp=>?_
  obtain ⟨d,_,rfl⟩:=List.mem_map.1 hp
  have:=zfv k d []
  simp! [oneB,this]
 have c2:compB (callT T (k+1)) [none,some (.int w)] (.n 0) (.cst (.bl true)) (.chain .le .lt (.cst (.int 0)) (.var 0) (.call zcQ (.cons (.var 1) .nil))) (ds.map .int) []=.ok ((ds.map PV.int).map fun _=>.bl true) []:=by
  refine zby _ fun p hp=>?_
  obtain ⟨d,hd,rfl⟩:=List.mem_map.1 hp
  obtain ⟨d0,d1⟩:=hi d hd
  simp! [oneB,ht,blO,decide_eq_true d0,decide_eq_true d1]
 have ha:∀st:Store,bltV .all st [.lst ((ds.map PV.int).map fun _=>.bl true)]=some (.bl true):=fun st=>by
  simp only [bltV,lstOf,Option.bind_some]
  rw [zeP _ fun x hx=>by simp at hx;exact hx.2.symm]
  rfl
 have hnn:((n:Int) == n)=true:=by simp
 have hz:(ds.map PV.int).length<=1000000:=by simp;omega
 rw [callT,hT]
 simp! [zbx,hlen,isiV,isTy,isBl,c1,hnn]
 rw [zcM _ (by simp;omega)]
 simp! [ha,c2]
 rw [zcM _ (by simp;omega)]
 simp! [ha]
theorem zlm (ws:List (List Nat)):cmpV .eq (ansT ws) (ansT ws)=some (.bl true):=by
 have e:(ws.reverse.map fun l=>PV.int (val 0 l))=(ws.reverse.map (val 0)).map .int:=by rw [List.map_map];rfl
 simp only [ansT,e]
 generalize ws.reverse.map (val 0)=ds
 simp [cmpV,shd,shds,zeQ,peq,peqs,zem]
noncomputable def lwB:Css:=match f_law.body with
 | .cons _ (.cons _ (.cons _ (.cons _ (.cons (.for _ _ b) _))))=>b
 |x=>x
noncomputable def lwA:Css:=match f_law.body with
 | .cons _ (.cons _ (.cons _ (.cons _ (.cons _ r))))=>r
 |x=>x
noncomputable def lwT:Css:=match lwA with
 | .cons _ r=>r
 |x=>x
noncomputable def lwU:Css:=match lwT with
 | .cons _ (.cons _ (.cons _ (.cons _ r)))=>r
 |x=>x
noncomputable def lwV:Css:=match lwU with
 | .cons _ r=>r
 |x=>x
theorem lwBS:lwB=.cons (.expr (.mth .append (.var 4) (.cons (.mth .join (.cst (.str "")) (.cons (.comp [none,some 1] (.n 0) (.range1 (.var 2)) (.cst (.bl true)) wdE) .nil)) .nil))) .nil:=rfl
theorem lwAS:lwA=.cons (.asg (.n 6) (.call 12 (.cons (.var 1) (.cons (.mth .join (.cst (.str " ")) (.cons (.var 4) .nil)) .nil)))) lwT:=rfl
theorem lwTS:lwT=(match lwT with | .cons a (.cons b (.cons c (.cons d _)))=>.cons a (.cons b (.cons c (.cons d lwU)))|x=>x):=rfl
theorem lwUS:lwU=.cons (.ite (.not (.blt .all (.cons (.comp [none,some 6] (.n 0) (.range1 (.cst (.int 14))) (.cst (.bl true)) mtE) .nil))) (.cons .nope .nil) .nil) lwV:=rfl
theorem zme {c:Cl}{ρ:IC.Env}{st st':Store}{X:Ce}{l:PV}{s r:Str}(h1:ev c ρ st X=.ok l st')(h2:mthV .join st' (.str s) [l]=.ok (.str r) st'):ev c ρ st (.mth .join (.cst (.str s)) (.cons X .nil))=.ok (.str r) st':=by
 have h3:evs c ρ st (.cons X .nil)=.ok [l] st':=by simp only [evs,h1,bd_ok]
 rw [ev.eq_20,ev.eq_1,bd_ok,show mthOk .join st (.str s)=some true from rfl,ono,h3,bd_ok,h2]
theorem zl1 {c:Cl}{ρ:IC.Env}{st st' st2:Store}{X:Ce}{v:PV}{i L:Nat}{xs:List PV}(hi:ρ[i]?=some (some (.loc L)))(hL:st[L]?=some (.lst xs))(h1:ev c ρ st X=.ok v st')(h2:mthV .append st' (.loc L) [v]=.ok .non st2):ev c ρ st (.mth .append (.var i) (.cons X .nil))=.ok .non st2:=by
 have h3:evs c ρ st (.cons X .nil)=.ok [v] st':=by simp only [evs,h1,bd_ok]
 have h4:mthOk .append st (.loc L)=some true:=by simp only [mthOk,lstOf,hL,Option.map_some]
 rw [ev.eq_20,ev.eq_2,hi]
 show (R.ok (PV.loc L) st).bind _=_
 rw [bd_ok,h4,ono,h3,bd_ok,h2]
theorem zhA:∀(n:Nat) (a:Int),(rangeL n a 1).length=n
 |0,a=>rfl
 |n+1,a=>by rw [rangeL,List.length_cons,zhA n]
theorem zka {ns:List Int}(hns:ns.length<=1000){L w:Nat}(hL:L≠0)(hw:w<=18){p0 p3:Option PV}{r:List (Option PV)}{ys:List (List Nat)}(hy:ys.length<=100){st:Store}(h:Drw ns 0 st)(g:st[L]?=some (.lst (ys.map fun l=>.str (pS l)))) :
  ∃(l:List Nat) (st':Store),l.length=w/\(∀c∈l,c<128)/\Drw ns 0 st'/\st'[L]?=some (.lst ((ys++[l]).map fun l=>.str (pS l)))/\exs (callT T 11) (p0::some (.loc 0)::some (.int w)::p3::some (.loc L)::r) st lwB=.nx (p0::some (.loc 0)::some (.int w)::p3::some (.loc L)::r) st':=by
 obtain ⟨l,s1,hl,hc,o1,e1⟩:=zhm hns 8 (rangeL w 0 1) h
 rw [zhA] at hl
 have hr:rng1 (.int (w:Int))=some (rangeL w 0 1):=zfW w (by omega)
 have hi:evi (callT T 11) (p0::some (.loc 0)::some (.int w)::p3::some (.loc L)::r) st (.range1 (.var 2))=.ok (rangeL w 0 1) st:=by
  rw [evi,ev.eq_2]
  show (R.ok (PV.int w) st).bind _=_
  rw [bd_ok,hr];rfl
 have he:ev (callT T 11) (p0::some (.loc 0)::some (.int w)::p3::some (.loc L)::r) st (.comp [none,some 1] (.n 0) (.range1 (.var 2)) (.cst (.bl true)) wdE)=.ok (.lst (l.map fun c=>.str ⟨#[c]⟩)) s1:=by
  rw [v_comp,hi,bd_ok]
  show lstR (compB (callT T 11) [none,some (.loc 0)] (.n 0) (.cst (.bl true)) wdE (rangeL w 0 1) st)=_
  rw [e1,zcM _ (by simp;omega)]
 have hj:=zme he (zjO (show l.length<=1000 by omega) s1)
 have g1:s1[L]?=some (.lst (ys.map fun l=>.str (pS l))):=by rw [o1.get hL];exact g
 have ha:mthV .append s1 (.loc L) [.str (pS l)]=.ok .non (s1.set L (.lst ((ys++[l]).map fun l=>.str (pS l)))):=by
  simp only [mthV,appV,g1]
  rw [if_pos (by simp;omega)]
  simp
 refine ⟨l,s1.set L (.lst ((ys++[l]).map fun l=>.str (pS l))),hl,hc,(o1.drw h).put hL _,?_,?_⟩
 ·rw [List.getElem?_set_self]
  rcases Nat.lt_or_ge L s1.length with z|z
  ·exact z
  ·rw [List.getElem?_eq_none z] at g1;cases g1
 ·rw [lwBS,xs_cons,x_expr,zl1 rfl g hj ha,fl_ok,th_nx,xs_nil]
theorem zfI {ns:List Int}(hns:ns.length<=1000){L w:Nat}(hL:L≠0)(hw:w<=18){p0 p3:Option PV}{r:List (Option PV)}:∀(N:Nat) (a:Int) (p5:Option PV) (ys:List (List Nat)) (st:Store),ys.length+N<=100->(∀l∈ys,l.length=w/\∀c∈l,c<128)->Drw ns 0 st->st[L]?=some (.lst (ys.map fun l=>.str (pS l))) ->
  ∃(zs:List (List Nat)) (st':Store) (v5:Option PV),zs.length=ys.length+N/\(∀l∈zs,l.length=w/\∀c∈l,c<128)/\Drw ns 0 st'/\st'[L]?=some (.lst (zs.map fun l=>.str (pS l)))/\forB (callT T 11) (.n 5) lwB (rangeL N a 1) (p0::some (.loc 0)::some (.int w)::p3::some (.loc L)::p5::r) st=.nx (p0::some (.loc 0)::some (.int w)::p3::some (.loc L)::v5::r) st'
 |0,a,p5,ys,st,hn,hy,h,g=>⟨ys,st,p5,rfl,hy,h,g,by rw [rangeL,zbD]⟩
 |N+1,a,p5,ys,st,hn,hy,h,g=>by
  obtain ⟨l,s1,hl,hc,h1,g1,e1⟩:=zka hns hL hw (p0:=p0) (p3:=p3) (r:=some (.int a)::r) (ys:=ys) (by omega) h g
  obtain ⟨zs,s2,v5,hz,hzy,h2,g2,e2⟩:=zfI hns hL hw (p0:=p0) (p3:=p3) (r:=r) N (a+1) (some (.int a)) (ys++[l]) s1 (by simp;omega) (fun q hq=>by
   rcases List.mem_append.1 hq with q' | q'
   ·exact hy q q'
   ·simp at q';subst q';exact ⟨hl,hc⟩) h1 g1
  refine ⟨zs,s2,v5,by rw [hz];simp;omega,hzy,h2,g2,?_⟩
  rw [rangeL,zao (ρ1:=p0::some (.loc 0)::some (.int w)::p3::some (.loc L)::some (.int a)::r) rfl,e1]
  exact e2
theorem zlJ {ys:List (List Nat)}{w:Nat}(h:∀l∈ys,l.length=w/\∀c∈l,c<128):tot ys<=ys.length*(w+1):=by
 induction ys with
 |nil=>simp [tot]
 |cons y ys ih =>
  have h1:=(h y (by simp)).1
  have h2:=ih fun l hl=>h l (List.mem_cons_of_mem _ hl)
  simp only [tot,List.map_cons,List.sum_cons,List.length_cons,Nat.add_mul,Nat.one_mul] at h2 ⊢
  omega
theorem zkn {x:Str}(hx:asc x){p0 p1 p2 p3 p4 p5:Option PV}{st:Store}:exs (callT T 11) [p0,p1,p2,p3,p4,p5,some (.str x),none,none,none,none] st lwT=.rt (.bl true) st:=by
 have hd:callT T 11 zeg [.str x] st=.ok (if okT (pcs x) then ansT (pcs x) else .non) st:=zkM 10 hx st
 have hr:callT T 11 zey [.str x] st=if okT (pcs x) then .ok (ansT (pcs x)) st else .exc 1 st:=zkj 8 hx st
 cases ho:okT (pcs x) with
 |true =>
  rw [ho] at hd hr
  have hd:callT T 11 zeg [.str x] st=.ok (ansT (pcs x)) st:=hd
  have hr:callT T 11 zey [.str x] st=.ok (ansT (pcs x)) st:=hr
  have pA:exs (callT T 11) [p0,p1,p2,p3,p4,p5,some (.str x),none,none,none,none] st lwT=exs (callT T 11) [p0,p1,p2,p3,p4,p5,some (.str x),some (ansT (pcs x)),some (ansT (pcs x)),some (.bl false),none] st lwU:=by
   rw [lwTS]
   simp! [lwT,lwA,f_law,hd,hr,tryF]
  have hm:=zgs 9 x st (ρ:=[p0,p1,p2,p3,p4,p5,some (.str x),some (ansT (pcs x)),some (ansT (pcs x)),some (.bl false),none]) rfl
  have hm2:ev (callT T 11) [p0,p1,p2,p3,p4,p5,some (.str x),some (ansT (pcs x)),some (ansT (pcs x)),some (.bl false),none] st (.not (.blt .all (.cons (.comp [none,some 6] (.n 0) (.range1 (.cst (.int 14))) (.cst (.bl true)) mtE) .nil)))=.ok (.bl false) st:=by
   generalize (Ce.blt .all (.cons (.comp [none,some 6] (.n 0) (.range1 (.cst (.int 14))) (.cst (.bl true)) mtE) .nil))=E at hm ⊢
   have hm:ev (callT T 11) _ st E=.ok (.bl true) st:=hm
   simp! [hm]
  rw [pA,lwUS,xs_cons,x_ite,hm2,fl_ok,t_bl,on_t,cond_false,xs_nil,th_nx]
  simp only [okT,Bool.and_eq_true,decide_eq_true_eq] at ho
  obtain ⟨w1,w2,w3,w4⟩:=ho
  have heq:=zlm (pcs x)
  have hnum:=number 9 ((pcs x).reverse.map (val 0)) (wid (pcs x)) ((pcs x).reverse.map (val 0)).length w2 (by simp;omega) rfl (fun d hd=>by
   obtain ⟨l,hl,rfl⟩:=List.mem_map.1 hd
   have hg:=List.all_eq_true.1 w4 l hl
   simp only [gd,Bool.and_eq_true,decide_eq_true_eq] at hg
   have:=zl5 hg.2
   rw [hg.1] at this
   exact this) st
  have e:((pcs x).reverse.map (val 0)).map PV.int=(pcs x).reverse.map fun l=>.int (val 0 l):=by rw [List.map_map];rfl
  rw [e] at hnum
  have hnum:callT T 11 zcH [.tp false ((pcs x).reverse.map fun l=>.int (val 0 l)),.int (wid (pcs x)),.int ((pcs x).reverse.map (val 0)).length] st=.ok (.bl true) st:=hnum
  have hwh:∀i,callT T 11 zcn [.int i] st=.ok (.bl true) st:=fun i=>zfv 10 i st
  have hlen:bltV .len st [.tp false ((pcs x).reverse.map fun l=>.int (val 0 l))]=some (.int ((pcs x).reverse.map (val 0)).length):=by simp [bltV,lenV,seqOf]
  simp only [ansT] at heq ⊢
  generalize ((pcs x).reverse.map (val 0)).length=n at *
  generalize (pcs x).reverse.map (fun l=>PV.int (val 0 l))=vs at *
  generalize wid (pcs x)=w at *
  have hl2:bltV .len st [.tp false [.int w,.tp false vs]]=some (.int 2):=rfl
  have i0:idxV st (.tp false [.int w,.tp false vs]) (.int 0)=some (.int w):=rfl
  have i1:idxV st (.tp false [.int w,.tp false vs]) (.int 1)=some (.tp false vs):=rfl
  have c1:cmpV .is (.tp false [.int w,.tp false vs]) .non=some (.bl false):=rfl
  have c2:cmpV .ne (.int 2) (.int 2)=some (.bl false):=rfl
  have c3:cmpV .ne (.int w) (.int w)=some (.bl false):=by rw [c_ne];simp
  simp! [lwV,lwU,lwT,lwA,f_law,c1,isiV,isTy,isBl,hl2,c2,i0,hwh,c3,i1,hlen,hnum,heq,bne_self_eq_false]
 |false =>
  rw [ho] at hd hr
  have hd:callT T 11 zeg [.str x] st=.ok .non st:=hd
  have hr:callT T 11 zey [.str x] st=.exc 1 st:=hr
  have q0:[0,1,2,3,4,5,6,7,8,9,10,11,12,13].contains 1=true:=rfl
  have q1:isxV [0,1,2,3,4,5,6,7,8,9,10,11,12,13] (.exn 1) [.cls 1]=some (.bl true):=rfl
  have q2:isxV [0,1,2,3,4,5,6,7,8,9,10,11,12,13] (.exn 1) [.val]=some (.bl true):=rfl
  have q3:isxV [0,1,2,3,4,5,6,7,8,9,10,11,12,13] (.exn 1) [.cls 0,.cls 2,.cls 3,.cls 4,.cls 5,.cls 6,.cls 7]=some (.bl false):=rfl
  have q4:isxV [0,1,2,3,4,5,6,7,8,9,10,11,12,13] (.exn 1) [.cls 8,.cls 9,.cls 10,.cls 11,.cls 12,.cls 13]=some (.bl false):=rfl
  have pA:exs (callT T 11) [p0,p1,p2,p3,p4,p5,some (.str x),none,none,none,none] st lwT=exs (callT T 11) [p0,p1,p2,p3,p4,p5,some (.str x),some .non,some .non,some (.bl true),none] st lwU:=by
   rw [lwTS]
   simp! [lwT,lwA,f_law,hd,hr,tryF,q0,q1,q2,q3,q4,endF]
  have hm:=zgs 9 x st (ρ:=[p0,p1,p2,p3,p4,p5,some (.str x),some .non,some .non,some (.bl true),none]) rfl
  have hm2:ev (callT T 11) [p0,p1,p2,p3,p4,p5,some (.str x),some .non,some .non,some (.bl true),none] st (.not (.blt .all (.cons (.comp [none,some 6] (.n 0) (.range1 (.cst (.int 14))) (.cst (.bl true)) mtE) .nil)))=.ok (.bl false) st:=by
   generalize (Ce.blt .all (.cons (.comp [none,some 6] (.n 0) (.range1 (.cst (.int 14))) (.cst (.bl true)) mtE) .nil))=E at hm ⊢
   have hm:ev (callT T 11) _ st E=.ok (.bl true) st:=hm
   simp! [hm]
  rw [pA,lwUS,xs_cons,x_ite,hm2,fl_ok,t_bl,on_t,cond_false,xs_nil,th_nx]
  have c1:cmpV .is .non .non=some (.bl true):=rfl
  simp! [lwV,lwU,lwT,lwA,f_law,c1]
theorem ziR (ns:List Int)(hn:ns.length<=63):callT T 12 zgw [.scr (ns.map .int)] []=.ok (.bl true) []:=by
 obtain ⟨o,e1,ho⟩:=fresh 10 ns hn []
 have h0:Drw ns 0 [o]:=⟨0,0,false,by omega,by rw [ho];rfl⟩
 have hns:ns.length<=1000:=by omega
 have hT:T zgw=some ⟨1,11,true,f_law.body⟩:=rfl
 have e1:callT T 11 zdU [.scr (ns.map .int)] []=.ok (.loc 0) [o]:=e1
 obtain ⟨d1,s1,a1,b1,o1,f1⟩:=takeD 8 hns (m:=13) (by omega) (by omega) h0
 have h1:=o1.drw h0
 obtain ⟨d2,s2,a2,b2,o2,f2⟩:=takeD 8 hns (m:=17) (by omega) (by omega) h1
 have h2:=o2.drw h1
 obtain ⟨d3,s3,a3,b3,o3,f3⟩:=takeD 8 hns (m:=2) (by omega) (by omega) h2
 have h3:=o3.drw h2
 obtain ⟨d4,s4,a4,b4,o4,f4⟩:=takeD 8 hns (m:=8) (by omega) (by omega) h3
 have h4:=o4.drw h3
 obtain ⟨d5,s5,a5,b5,o5,f5⟩:=takeD 8 hns (m:=11) (by omega) (by omega) h4
 have h5:=o5.drw h4
 obtain ⟨d6,s6,a6,b6,o6,f6⟩:=takeD 8 hns (m:=2) (by omega) (by omega) h5
 have h6:=o6.drw h5
 have f1:callT T 11 z8 [.loc 0,.int 13] [o]=.ok (.int d1) s1:=f1
 have f2:callT T 11 z8 [.loc 0,.int 17] s1=.ok (.int d2) s2:=f2
 have f3:callT T 11 z8 [.loc 0,.int 2] s2=.ok (.int d3) s3:=f3
 have f4:callT T 11 z8 [.loc 0,.int 8] s3=.ok (.int d4) s4:=f4
 have f5:callT T 11 z8 [.loc 0,.int 11] s4=.ok (.int d5) s5:=f5
 have f6:callT T 11 z8 [.loc 0,.int 2] s5=.ok (.int d6) s6:=f6
 obtain ⟨w,hw,ew⟩:∃w:Nat,w<=18/\idxV s3 (.tp false [.int (4+d1),.int (2+d2)]) (.int d3)=some (.int w):=by
  have:d3=0 \/ d3=1:=by omega
  rcases this with rfl|rfl
  ·exact ⟨(4+d1).toNat,by omega,by rw [Int.toNat_of_nonneg (by omega)];rfl⟩
  ·exact ⟨(2+d2).toNat,by omega,by rw [Int.toNat_of_nonneg (by omega)];rfl⟩
 obtain ⟨m,hm,em⟩:∃m:Nat,m<=10/\idxV s6 (.tp false [.int (1+d4),.int d5]) (.int d6)=some (.int m):=by
  have:d6=0 \/ d6=1:=by omega
  rcases this with rfl|rfl
  ·exact ⟨(1+d4).toNat,by omega,by rw [Int.toNat_of_nonneg (by omega)];rfl⟩
  ·exact ⟨d5.toNat,by omega,by rw [Int.toNat_of_nonneg (by omega)];rfl⟩
 have hL:s6.length≠0:=by have:=h6.pos;omega
 have h7:Drw ns 0 (s6++[.lst []]):=h6.app _
 have g7:(s6++[Ob.lst []])[s6.length]?=some (.lst (([]:List (List Nat)).map fun l=>.str (pS l))):=by simp
 obtain ⟨zs,s8,v5,hz,hzy,h8,g8,e8⟩:=zfI hns hL hw (p0:=some (.scr (ns.map .int))) (p3:=some (.int m)) (r:=[none,none,none,none,none]) m 0 none [] (s6++[.lst []]) (by simp;omega) (by simp) h7 g7
 have htot:=zlJ hzy
 have hzl:zs.length<=10:=by rw [hz];simp;omega
 have htt:tot zs<=190:=Nat.le_trans htot (Nat.le_trans (Nat.mul_le_mul hzl (show w+1<=19 by omega)) (by omega))
 obtain ⟨t,ht,et⟩:=zhM 32 (by omega) (fun l hl=>(hzy l hl).2) (show tot zs<=900 by omega) (st:=s8) (v:=.loc s6.length) (by simp only [lstOf,g8])
 rw [<- s_sp] at et
 obtain ⟨y,s9,hy,h9,e9⟩:=zhj hns 6 (ht.le (show tot zs<=250 by omega)) h8
 have e9:callT T 11 zcA [.loc 0,.str t] s8=.ok (.str y) s9:=e9
 have hend:=zkn (x:=y) hy (p0:=some (.scr (ns.map .int))) (p1:=some (.loc 0)) (p2:=some (.int w)) (p3:=some (.int m)) (p4:=some (.loc s6.length)) (p5:=v5) (st:=s9)
 have hA:exs (callT T 11) [some (.scr (ns.map .int)),some (.loc 0),some (.int w),some (.int m),some (.loc s6.length),v5,none,none,none,none,none] s8 lwA=.rt (.bl true) s9:=by
  have ej:=zjr (c:=callT T 11) (ρ:=[some (.scr (ns.map .int)),some (.loc 0),some (.int w),some (.int m),some (.loc s6.length),v5,none,none,none,none,none]) (i:=4) rfl et
  have ec:ev (callT T 11) [some (.scr (ns.map .int)),some (.loc 0),some (.int w),some (.int m),some (.loc s6.length),v5,none,none,none,none,none] s8 (.call 12 (.cons (.var 1) (.cons (.mth .join (.cst (.str " ")) (.cons (.var 4) .nil)) .nil)))=.ok (.str y) s9:=by
   generalize (Ce.mth .join (.cst (.str " ")) (.cons (.var 4) .nil))=E at ej ⊢
   simp! [ej,e9]
  rw [lwAS,xs_cons,x_asg,ec,fl_ok,bT_n,nxO_some,th_nx]
  exact hend
 have hb:f_law.body=(match f_law.body with
  | .cons a (.cons b (.cons c (.cons d (.cons (.for t i _) _))))=>.cons a (.cons b (.cons c (.cons d (.cons (.for t i lwB) lwA))))
  |_=>.nil):=rfl
 have hr:rng1 (.int (m:Int))=some (rangeL m 0 1):=zfW m (by omega)
 have hn0:ev (callT T 11) [some (.scr (ns.map .int)),some (.loc 0),some (.int w),some (.int m),none,none,none,none,none,none,none] s6 (.newl .nil)=.ok (.loc s6.length) (s6++[.lst []]):=by
  simp only [ev,evs,R.bind]
  rfl
 rw [zaB hT rfl rfl (by simp [noLocs,noLoc,noLocs_ints])]
 dsimp only
 rw [hb]
 simp! [f_law,Nat.zero_le,e1,f1,f2,f3,ew,f4,f5,f6,em,hr,e8,hA,zmn]
end WK
namespace WK
open PySem L2 IC
section
variable {P:Program}{w:World}{K:PySem.W.Frag}{mg:Str->Option Value}{base:Heap}{cl:Nat->Addr}{fa:Nat->Addr}{fdd:Nat->FuncData}
theorem zW (Z:Facts K mg cl fa fdd):∀k,Fns P w K mg base cl fa fdd k
 |0=>fun i ps _=>zjX rfl
 |k+1=>fun i ps h=>match i,h with
  |0,h=>by cases h;exact zj2 Z (zW Z k)
  |1,h=>by cases h;exact zez Z (zW Z k)
  |2,h=>by cases h;exact ze2 Z (zW Z k)
  |3,h=>by cases h;exact zhH Z (zW Z k)
  |4,h=>by cases h;exact zgJ Z (zW Z k)
  |5,h=>by cases h;exact ziV Z (zW Z k)
  |6,h=>by cases h;exact zis Z (zW Z k)
  |7,h=>by cases h;exact zgd Z (zW Z k)
  |8,h=>by cases h;exact zgK Z (zW Z k)
  |9,h=>by cases h;exact zf1 Z (zW Z k)
  |10,h=>by cases h;exact zjA Z (zW Z k)
  |11,h=>by cases h;exact zit Z (zW Z k)
  |12,h=>by cases h;exact zf3 Z (zW Z k)
  |13,h=>by cases h;exact zgc Z (zW Z k)
  |14,h=>by cases h;exact zkw Z (zW Z k)
  |15,h=>by cases h;exact zk2 Z (zW Z k)
  |i+16,h=>by cases h
end
set_option maxHeartbeats 0 in
noncomputable abbrev FN (x:Str)(s:Stmt)(d kV dc pm:Value)(an:Option Addr)(cd ct:Value):=PySem.W.fnOf x x (defArgs s) (defBody s) (defScope s) d kV dc pm an cd ct
noncomputable abbrev lN (K:PySem.W.Frag)(f:Addr)(x:Str)(s:Stmt)(d oc:Value)(od:Option Addr)(kV dc pm:Value)(an:Option Addr)(cd ct:Value)(sl:Array (Option Value)) := K.lookup f=some ⟨oc,od,.func (FN x s d kV dc pm an cd ct),sl⟩
noncomputable abbrev aN (K:PySem.W.Frag)(x:Str)(f:Addr):=PySem.W.nsIn K mainGlobals x=some (some (.ref f))
noncomputable abbrev cN (K:PySem.W.Frag)(c:Value)(x:Str):=PySem.W.codeIn K c x=true
noncomputable abbrev pN (K:PySem.W.Frag)(f:Addr):=PySem.W.keepIn K (.ref f)=true
theorem kl0 {α:Type}(l:List α)(h:l.length=0):l=[] := List.eq_nil_of_length_eq_zero h
theorem kl1 {α:Type}(l:List α)(h:l.length=1):∃a,l=[a] := match l,h with | [a],_ => ⟨a,rfl⟩
theorem kl2 {α:Type}(l:List α)(h:l.length=2):∃a b,l=[a,b] := match l,h with | [a,b],_ => ⟨a,b,rfl⟩
theorem kl3 {α:Type}(l:List α)(h:l.length=3):∃a b c,l=[a,b,c] := match l,h with | [a,b,c],_ => ⟨a,b,c,rfl⟩
theorem kl5 {α:Type}(l:List α)(h:l.length=5):∃a b c d e,l=[a,b,c,d,e] := match l,h with | [a,b,c,d,e],_ => ⟨a,b,c,d,e,rfl⟩
theorem kl6 {α:Type}(l:List α)(h:l.length=6):∃a b c d e f,l=[a,b,c,d,e,f] := match l,h with | [a,b,c,d,e,f],_ => ⟨a,b,c,d,e,f,rfl⟩
theorem kl7 {α:Type}(l:List α)(h:l.length=7):∃a b c d e f g,l=[a,b,c,d,e,f,g] := match l,h with | [a,b,c,d,e,f,g],_ => ⟨a,b,c,d,e,f,g,rfl⟩
theorem kl8 {α:Type}(l:List α)(h:l.length=8):∃a b c d e f g k,l=[a,b,c,d,e,f,g,k] := match l,h with | [a,b,c,d,e,f,g,k],_ => ⟨a,b,c,d,e,f,g,k,rfl⟩
theorem kl4 {α:Type}(l:List α)(h:l.length=4):∃a b c d,l=[a,b,c,d] := match l,h with | [a,b,c,d],_ => ⟨a,b,c,d,rfl⟩
theorem all_mk {l:PySem.W.OpenLaw}{w:World}{K:PySem.W.Frag}{h:Heap}{mg:Str->Option Value}{fx:Addr}(X:K.In h)(G:h.Ns mainGlobals mg)(hfa:mg "law"=some (.ref fx))(a0:aN K "read" f0)(l0:lN K f0 "read" zav .none oc0 od0 kV0 dc0 pm0 an0 cd0 ct0 sl0)(c0:cN K cd0 "read")(p0:pN K f0)(a1:aN K "read_word" f1)(l1:lN K f1 "read_word" zN .none oc1 od1 kV1 dc1 pm1 an1 cd1 ct1 sl1)(c1:cN K cd1 "read_word")(p1:pN K f1)(a2:aN K "read_two" f2)(l2:lN K f2 "read_two" z9 .none oc2 od2 kV2 dc2 pm2 an2 cd2 ct2 sl2)(c2:cN K cd2 "read_two")(p2:pN K f2)(a3:aN K "_law_fresh" f3)(l3:lN K f3 "_law_fresh" za4 .none oc3 od3 kV3 dc3 pm3 an3 cd3 ct3 sl3)(c3:cN K cd3 "_law_fresh")(p3:pN K f3)(a4:aN K "_law_mixed" f4)(l4:lN K f4 "_law_mixed" zaG .none oc4 od4 kV4 dc4 pm4 an4 cd4 ct4 sl4)(c4:cN K cd4 "_law_mixed")(p4:pN K f4)(a5:aN K "_law_fill" f5)(l5:lN K f5 "_law_fill" zaY .none oc5 od5 kV5 dc5 pm5 an5 cd5 ct5 sl5)(c5:cN K cd5 "_law_fill")(p5:pN K f5)(a6:aN K "_law_take" f6)(l6:lN K f6 "_law_take" zbh .none oc6 od6 kV6 dc6 pm6 an6 cd6 ct6 sl6)(c6:cN K cd6 "_law_take")(p6:pN K f6)(a7:aN K "_law_two_to" f7)(l7:lN K f7 "_law_two_to" zas .none oc7 od7 kV7 dc7 pm7 an7 cd7 ct7 sl7)(c7:cN K cd7 "_law_two_to")(p7:pN K f7)(a8:aN K "_law_whole" f8)(l8:lN K f8 "_law_whole" zah .none oc8 od8 kV8 dc8 pm8 an8 cd8 ct8 sl8)(c8:cN K cd8 "_law_whole")(p8:pN K f8)(a9:aN K "_law_number" f9)(l9:lN K f9 "_law_number" zQ .none oc9 od9 kV9 dc9 pm9 an9 cd9 ct9 sl9)(c9:cN K cd9 "_law_number")(p9:pN K f9)(a10:aN K "_law_due" f10)(l10:lN K f10 "_law_due" zbd .none oc10 od10 kV10 dc10 pm10 an10 cd10 ct10 sl10)(c10:cN K cd10 "_law_due")(p10:pN K f10)(a11:aN K "_law_sign" f11)(l11:lN K f11 "_law_sign" zaU .none oc11 od11 kV11 dc11 pm11 an11 cd11 ct11 sl11)(c11:cN K cd11 "_law_sign")(p11:pN K f11)(a12:aN K "_law_spoilt" f12)(l12:lN K f12 "_law_spoilt" z7 .none oc12 od12 kV12 dc12 pm12 an12 cd12 ct12 sl12)(c12:cN K cd12 "_law_spoilt")(p12:pN K f12)(a13:aN K "_law_raised" f13)(l13:lN K f13 "_law_raised" zz .none oc13 od13 kV13 dc13 pm13 an13 cd13 ct13 sl13)(c13:cN K cd13 "_law_raised")(p13:pN K f13)(a14:aN K "_law_met" f14)(l14:lN K f14 "_law_met" zU .none oc14 od14 kV14 dc14 pm14 an14 cd14 ct14 sl14)(c14:cN K cd14 "_law_met")(p14:pN K f14)(a15:aN K "law" f15)(l15:lN K f15 "law" zS .none oc15 od15 kV15 dc15 pm15 an15 cd15 ct15 sl15)(c15:cN K cd15 "law")(p15:pN K f15)(z_ValueError:PySem.W.nsIn K mainGlobals "ValueError"=some none)(z_all:PySem.W.nsIn K mainGlobals "all"=some none)(z_any:PySem.W.nsIn K mainGlobals "any"=some none)(z_bool:PySem.W.nsIn K mainGlobals "bool"=some none)(z_enumerate:PySem.W.nsIn K mainGlobals "enumerate"=some none)(z_int:PySem.W.nsIn K mainGlobals "int"=some none)(z_isinstance:PySem.W.nsIn K mainGlobals "isinstance"=some none)(z_len:PySem.W.nsIn K mainGlobals "len"=some none)(z_range:PySem.W.nsIn K mainGlobals "range"=some none)(z_reversed:PySem.W.nsIn K mainGlobals "reversed"=some none)(z_tuple:PySem.W.nsIn K mainGlobals "tuple"=some none)(k_bool_n:PySem.W.kitOne K (.type "NoneType") (.type "bool")=some false)(k_bool_b:PySem.W.kitOne K (.type "bool") (.type "bool")=some true)(k_bool_i:PySem.W.kitOne K (.type "int") (.type "bool")=some false)(k_bool_s:PySem.W.kitOne K (.type "str") (.type "bool")=some false)(k_bool_p:PySem.W.kitOne K (.type "tuple") (.type "bool")=some false)(k_bool_l:PySem.W.kitOne K (.type "list") (.type "bool")=some false)(k_int_n:PySem.W.kitOne K (.type "NoneType") (.type "int")=some false)(k_int_b:PySem.W.kitOne K (.type "bool") (.type "int")=some true)(k_int_i:PySem.W.kitOne K (.type "int") (.type "int")=some true)(k_int_s:PySem.W.kitOne K (.type "str") (.type "int")=some false)(k_int_p:PySem.W.kitOne K (.type "tuple") (.type "int")=some false)(k_int_l:PySem.W.kitOne K (.type "list") (.type "int")=some false)(k_tuple_n:PySem.W.kitOne K (.type "NoneType") (.type "tuple")=some false)(k_tuple_b:PySem.W.kitOne K (.type "bool") (.type "tuple")=some false)(k_tuple_i:PySem.W.kitOne K (.type "int") (.type "tuple")=some false)(k_tuple_s:PySem.W.kitOne K (.type "str") (.type "tuple")=some false)(k_tuple_p:PySem.W.kitOne K (.type "tuple") (.type "tuple")=some true)(k_tuple_l:PySem.W.kitOne K (.type "list") (.type "tuple")=some false)(n_0:aN K "NoFit" q0)(n_1:aN K "NoText" q1)(n_2:aN K "NoCell" q2)(n_3:aN K "NoWord" q3)(n_4:aN K "NoRow" q4)(n_5:aN K "NoTelling" q5)(n_6:aN K "NoDeed" q6)(n_7:aN K "NoQuotient" q7)(n_8:aN K "TooMany" q8)(n_9:aN K "NoLine" q9)(n_10:aN K "NoName" q10)(n_11:aN K "NoWidth" q11)(n_12:aN K "NoPair" q12)(n_13:aN K "NoUndo" q13)(n_14:aN K "WordError" q14)(e_0:PySem.W.excIn K q0 [.type "ValueError",.type "Exception",.type "BaseException",.type "object"] "ValueError.__new__"=true)(t_0:PySem.W.exmOne K (.ref q0) (.ref q14)=some true)(xa_0:PySem.W.findIn K (.ref q0) "__getattribute__"=some (some (.builtin "BaseException.__getattribute__")))(xh_0:PySem.W.findIn K (.ref q0) "__getattr__"=some none)(xc_0:PySem.W.findIn K (.ref q0) "__class__"=some (some (.builtin "object.__class__")))(xs_0:PySem.W.subIn K (.ref q0) (.type "BaseException")=some true)(xo_0:PySem.W.mroIn K q0 (.type "object")=some true)(xd_0:PySem.W.isClsIn K q0=true)(i_0_0:PySem.W.kitOne K (.ref q0) (.ref q0)=some true)(i_0_1:PySem.W.kitOne K (.ref q0) (.ref q1)=some false)(i_0_2:PySem.W.kitOne K (.ref q0) (.ref q2)=some false)(i_0_3:PySem.W.kitOne K (.ref q0) (.ref q3)=some false)(i_0_4:PySem.W.kitOne K (.ref q0) (.ref q4)=some false)(i_0_5:PySem.W.kitOne K (.ref q0) (.ref q5)=some false)(i_0_6:PySem.W.kitOne K (.ref q0) (.ref q6)=some false)(i_0_7:PySem.W.kitOne K (.ref q0) (.ref q7)=some false)(i_0_8:PySem.W.kitOne K (.ref q0) (.ref q8)=some false)(i_0_9:PySem.W.kitOne K (.ref q0) (.ref q9)=some false)(i_0_10:PySem.W.kitOne K (.ref q0) (.ref q10)=some false)(i_0_11:PySem.W.kitOne K (.ref q0) (.ref q11)=some false)(i_0_12:PySem.W.kitOne K (.ref q0) (.ref q12)=some false)(i_0_13:PySem.W.kitOne K (.ref q0) (.ref q13)=some false)(i_0_v:PySem.W.kitOne K (.ref q0) (.type "ValueError")=some true)(e_1:PySem.W.excIn K q1 [.type "ValueError",.type "Exception",.type "BaseException",.type "object"] "ValueError.__new__"=true)(t_1:PySem.W.exmOne K (.ref q1) (.ref q14)=some true)(xa_1:PySem.W.findIn K (.ref q1) "__getattribute__"=some (some (.builtin "BaseException.__getattribute__")))(xh_1:PySem.W.findIn K (.ref q1) "__getattr__"=some none)(xc_1:PySem.W.findIn K (.ref q1) "__class__"=some (some (.builtin "object.__class__")))(xs_1:PySem.W.subIn K (.ref q1) (.type "BaseException")=some true)(xo_1:PySem.W.mroIn K q1 (.type "object")=some true)(xd_1:PySem.W.isClsIn K q1=true)(i_1_0:PySem.W.kitOne K (.ref q1) (.ref q0)=some false)(i_1_1:PySem.W.kitOne K (.ref q1) (.ref q1)=some true)(i_1_2:PySem.W.kitOne K (.ref q1) (.ref q2)=some false)(i_1_3:PySem.W.kitOne K (.ref q1) (.ref q3)=some false)(i_1_4:PySem.W.kitOne K (.ref q1) (.ref q4)=some false)(i_1_5:PySem.W.kitOne K (.ref q1) (.ref q5)=some false)(i_1_6:PySem.W.kitOne K (.ref q1) (.ref q6)=some false)(i_1_7:PySem.W.kitOne K (.ref q1) (.ref q7)=some false)(i_1_8:PySem.W.kitOne K (.ref q1) (.ref q8)=some false)(i_1_9:PySem.W.kitOne K (.ref q1) (.ref q9)=some false)(i_1_10:PySem.W.kitOne K (.ref q1) (.ref q10)=some false)(i_1_11:PySem.W.kitOne K (.ref q1) (.ref q11)=some false)(i_1_12:PySem.W.kitOne K (.ref q1) (.ref q12)=some false)(i_1_13:PySem.W.kitOne K (.ref q1) (.ref q13)=some false)(i_1_v:PySem.W.kitOne K (.ref q1) (.type "ValueError")=some true)(e_2:PySem.W.excIn K q2 [.type "ValueError",.type "Exception",.type "BaseException",.type "object"] "ValueError.__new__"=true)(t_2:PySem.W.exmOne K (.ref q2) (.ref q14)=some true)(xa_2:PySem.W.findIn K (.ref q2) "__getattribute__"=some (some (.builtin "BaseException.__getattribute__")))(xh_2:PySem.W.findIn K (.ref q2) "__getattr__"=some none)(xc_2:PySem.W.findIn K (.ref q2) "__class__"=some (some (.builtin "object.__class__")))(xs_2:PySem.W.subIn K (.ref q2) (.type "BaseException")=some true)(xo_2:PySem.W.mroIn K q2 (.type "object")=some true)(xd_2:PySem.W.isClsIn K q2=true)(i_2_0:PySem.W.kitOne K (.ref q2) (.ref q0)=some false)(i_2_1:PySem.W.kitOne K (.ref q2) (.ref q1)=some false)(i_2_2:PySem.W.kitOne K (.ref q2) (.ref q2)=some true)(i_2_3:PySem.W.kitOne K (.ref q2) (.ref q3)=some false)(i_2_4:PySem.W.kitOne K (.ref q2) (.ref q4)=some false)(i_2_5:PySem.W.kitOne K (.ref q2) (.ref q5)=some false)(i_2_6:PySem.W.kitOne K (.ref q2) (.ref q6)=some false)(i_2_7:PySem.W.kitOne K (.ref q2) (.ref q7)=some false)(i_2_8:PySem.W.kitOne K (.ref q2) (.ref q8)=some false)(i_2_9:PySem.W.kitOne K (.ref q2) (.ref q9)=some false)(i_2_10:PySem.W.kitOne K (.ref q2) (.ref q10)=some false)(i_2_11:PySem.W.kitOne K (.ref q2) (.ref q11)=some false)(i_2_12:PySem.W.kitOne K (.ref q2) (.ref q12)=some false)(i_2_13:PySem.W.kitOne K (.ref q2) (.ref q13)=some false)(i_2_v:PySem.W.kitOne K (.ref q2) (.type "ValueError")=some true)(e_3:PySem.W.excIn K q3 [.type "ValueError",.type "Exception",.type "BaseException",.type "object"] "ValueError.__new__"=true)(t_3:PySem.W.exmOne K (.ref q3) (.ref q14)=some true)(xa_3:PySem.W.findIn K (.ref q3) "__getattribute__"=some (some (.builtin "BaseException.__getattribute__")))(xh_3:PySem.W.findIn K (.ref q3) "__getattr__"=some none)(xc_3:PySem.W.findIn K (.ref q3) "__class__"=some (some (.builtin "object.__class__")))(xs_3:PySem.W.subIn K (.ref q3) (.type "BaseException")=some true)(xo_3:PySem.W.mroIn K q3 (.type "object")=some true)(xd_3:PySem.W.isClsIn K q3=true)(i_3_0:PySem.W.kitOne K (.ref q3) (.ref q0)=some false)(i_3_1:PySem.W.kitOne K (.ref q3) (.ref q1)=some false)(i_3_2:PySem.W.kitOne K (.ref q3) (.ref q2)=some false)(i_3_3:PySem.W.kitOne K (.ref q3) (.ref q3)=some true)(i_3_4:PySem.W.kitOne K (.ref q3) (.ref q4)=some false)(i_3_5:PySem.W.kitOne K (.ref q3) (.ref q5)=some false)(i_3_6:PySem.W.kitOne K (.ref q3) (.ref q6)=some false)(i_3_7:PySem.W.kitOne K (.ref q3) (.ref q7)=some false)(i_3_8:PySem.W.kitOne K (.ref q3) (.ref q8)=some false)(i_3_9:PySem.W.kitOne K (.ref q3) (.ref q9)=some false)(i_3_10:PySem.W.kitOne K (.ref q3) (.ref q10)=some false)(i_3_11:PySem.W.kitOne K (.ref q3) (.ref q11)=some false)(i_3_12:PySem.W.kitOne K (.ref q3) (.ref q12)=some false)(i_3_13:PySem.W.kitOne K (.ref q3) (.ref q13)=some false)(i_3_v:PySem.W.kitOne K (.ref q3) (.type "ValueError")=some true)(e_4:PySem.W.excIn K q4 [.type "ValueError",.type "Exception",.type "BaseException",.type "object"] "ValueError.__new__"=true)(t_4:PySem.W.exmOne K (.ref q4) (.ref q14)=some true)(xa_4:PySem.W.findIn K (.ref q4) "__getattribute__"=some (some (.builtin "BaseException.__getattribute__")))(xh_4:PySem.W.findIn K (.ref q4) "__getattr__"=some none)(xc_4:PySem.W.findIn K (.ref q4) "__class__"=some (some (.builtin "object.__class__")))(xs_4:PySem.W.subIn K (.ref q4) (.type "BaseException")=some true)(xo_4:PySem.W.mroIn K q4 (.type "object")=some true)(xd_4:PySem.W.isClsIn K q4=true)(i_4_0:PySem.W.kitOne K (.ref q4) (.ref q0)=some false)(i_4_1:PySem.W.kitOne K (.ref q4) (.ref q1)=some false)(i_4_2:PySem.W.kitOne K (.ref q4) (.ref q2)=some false)(i_4_3:PySem.W.kitOne K (.ref q4) (.ref q3)=some false)(i_4_4:PySem.W.kitOne K (.ref q4) (.ref q4)=some true)(i_4_5:PySem.W.kitOne K (.ref q4) (.ref q5)=some false)(i_4_6:PySem.W.kitOne K (.ref q4) (.ref q6)=some false)(i_4_7:PySem.W.kitOne K (.ref q4) (.ref q7)=some false)(i_4_8:PySem.W.kitOne K (.ref q4) (.ref q8)=some false)(i_4_9:PySem.W.kitOne K (.ref q4) (.ref q9)=some false)(i_4_10:PySem.W.kitOne K (.ref q4) (.ref q10)=some false)(i_4_11:PySem.W.kitOne K (.ref q4) (.ref q11)=some false)(i_4_12:PySem.W.kitOne K (.ref q4) (.ref q12)=some false)(i_4_13:PySem.W.kitOne K (.ref q4) (.ref q13)=some false)(i_4_v:PySem.W.kitOne K (.ref q4) (.type "ValueError")=some true)(e_5:PySem.W.excIn K q5 [.type "ValueError",.type "Exception",.type "BaseException",.type "object"] "ValueError.__new__"=true)(t_5:PySem.W.exmOne K (.ref q5) (.ref q14)=some true)(xa_5:PySem.W.findIn K (.ref q5) "__getattribute__"=some (some (.builtin "BaseException.__getattribute__")))(xh_5:PySem.W.findIn K (.ref q5) "__getattr__"=some none)(xc_5:PySem.W.findIn K (.ref q5) "__class__"=some (some (.builtin "object.__class__")))(xs_5:PySem.W.subIn K (.ref q5) (.type "BaseException")=some true)(xo_5:PySem.W.mroIn K q5 (.type "object")=some true)(xd_5:PySem.W.isClsIn K q5=true)(i_5_0:PySem.W.kitOne K (.ref q5) (.ref q0)=some false)(i_5_1:PySem.W.kitOne K (.ref q5) (.ref q1)=some false)(i_5_2:PySem.W.kitOne K (.ref q5) (.ref q2)=some false)(i_5_3:PySem.W.kitOne K (.ref q5) (.ref q3)=some false)(i_5_4:PySem.W.kitOne K (.ref q5) (.ref q4)=some false)(i_5_5:PySem.W.kitOne K (.ref q5) (.ref q5)=some true)(i_5_6:PySem.W.kitOne K (.ref q5) (.ref q6)=some false)(i_5_7:PySem.W.kitOne K (.ref q5) (.ref q7)=some false)(i_5_8:PySem.W.kitOne K (.ref q5) (.ref q8)=some false)(i_5_9:PySem.W.kitOne K (.ref q5) (.ref q9)=some false)(i_5_10:PySem.W.kitOne K (.ref q5) (.ref q10)=some false)(i_5_11:PySem.W.kitOne K (.ref q5) (.ref q11)=some false)(i_5_12:PySem.W.kitOne K (.ref q5) (.ref q12)=some false)(i_5_13:PySem.W.kitOne K (.ref q5) (.ref q13)=some false)(i_5_v:PySem.W.kitOne K (.ref q5) (.type "ValueError")=some true)(e_6:PySem.W.excIn K q6 [.type "ValueError",.type "Exception",.type "BaseException",.type "object"] "ValueError.__new__"=true)(t_6:PySem.W.exmOne K (.ref q6) (.ref q14)=some true)(xa_6:PySem.W.findIn K (.ref q6) "__getattribute__"=some (some (.builtin "BaseException.__getattribute__")))(xh_6:PySem.W.findIn K (.ref q6) "__getattr__"=some none)(xc_6:PySem.W.findIn K (.ref q6) "__class__"=some (some (.builtin "object.__class__")))(xs_6:PySem.W.subIn K (.ref q6) (.type "BaseException")=some true)(xo_6:PySem.W.mroIn K q6 (.type "object")=some true)(xd_6:PySem.W.isClsIn K q6=true)(i_6_0:PySem.W.kitOne K (.ref q6) (.ref q0)=some false)(i_6_1:PySem.W.kitOne K (.ref q6) (.ref q1)=some false)(i_6_2:PySem.W.kitOne K (.ref q6) (.ref q2)=some false)(i_6_3:PySem.W.kitOne K (.ref q6) (.ref q3)=some false)(i_6_4:PySem.W.kitOne K (.ref q6) (.ref q4)=some false)(i_6_5:PySem.W.kitOne K (.ref q6) (.ref q5)=some false)(i_6_6:PySem.W.kitOne K (.ref q6) (.ref q6)=some true)(i_6_7:PySem.W.kitOne K (.ref q6) (.ref q7)=some false)(i_6_8:PySem.W.kitOne K (.ref q6) (.ref q8)=some false)(i_6_9:PySem.W.kitOne K (.ref q6) (.ref q9)=some false)(i_6_10:PySem.W.kitOne K (.ref q6) (.ref q10)=some false)(i_6_11:PySem.W.kitOne K (.ref q6) (.ref q11)=some false)(i_6_12:PySem.W.kitOne K (.ref q6) (.ref q12)=some false)(i_6_13:PySem.W.kitOne K (.ref q6) (.ref q13)=some false)(i_6_v:PySem.W.kitOne K (.ref q6) (.type "ValueError")=some true)(e_7:PySem.W.excIn K q7 [.type "ValueError",.type "Exception",.type "BaseException",.type "object"] "ValueError.__new__"=true)(t_7:PySem.W.exmOne K (.ref q7) (.ref q14)=some true)(xa_7:PySem.W.findIn K (.ref q7) "__getattribute__"=some (some (.builtin "BaseException.__getattribute__")))(xh_7:PySem.W.findIn K (.ref q7) "__getattr__"=some none)(xc_7:PySem.W.findIn K (.ref q7) "__class__"=some (some (.builtin "object.__class__")))(xs_7:PySem.W.subIn K (.ref q7) (.type "BaseException")=some true)(xo_7:PySem.W.mroIn K q7 (.type "object")=some true)(xd_7:PySem.W.isClsIn K q7=true)(i_7_0:PySem.W.kitOne K (.ref q7) (.ref q0)=some false)(i_7_1:PySem.W.kitOne K (.ref q7) (.ref q1)=some false)(i_7_2:PySem.W.kitOne K (.ref q7) (.ref q2)=some false)(i_7_3:PySem.W.kitOne K (.ref q7) (.ref q3)=some false)(i_7_4:PySem.W.kitOne K (.ref q7) (.ref q4)=some false)(i_7_5:PySem.W.kitOne K (.ref q7) (.ref q5)=some false)(i_7_6:PySem.W.kitOne K (.ref q7) (.ref q6)=some false)(i_7_7:PySem.W.kitOne K (.ref q7) (.ref q7)=some true)(i_7_8:PySem.W.kitOne K (.ref q7) (.ref q8)=some false)(i_7_9:PySem.W.kitOne K (.ref q7) (.ref q9)=some false)(i_7_10:PySem.W.kitOne K (.ref q7) (.ref q10)=some false)(i_7_11:PySem.W.kitOne K (.ref q7) (.ref q11)=some false)(i_7_12:PySem.W.kitOne K (.ref q7) (.ref q12)=some false)(i_7_13:PySem.W.kitOne K (.ref q7) (.ref q13)=some false)(i_7_v:PySem.W.kitOne K (.ref q7) (.type "ValueError")=some true)(e_8:PySem.W.excIn K q8 [.type "ValueError",.type "Exception",.type "BaseException",.type "object"] "ValueError.__new__"=true)(t_8:PySem.W.exmOne K (.ref q8) (.ref q14)=some true)(xa_8:PySem.W.findIn K (.ref q8) "__getattribute__"=some (some (.builtin "BaseException.__getattribute__")))(xh_8:PySem.W.findIn K (.ref q8) "__getattr__"=some none)(xc_8:PySem.W.findIn K (.ref q8) "__class__"=some (some (.builtin "object.__class__")))(xs_8:PySem.W.subIn K (.ref q8) (.type "BaseException")=some true)(xo_8:PySem.W.mroIn K q8 (.type "object")=some true)(xd_8:PySem.W.isClsIn K q8=true)(i_8_0:PySem.W.kitOne K (.ref q8) (.ref q0)=some false)(i_8_1:PySem.W.kitOne K (.ref q8) (.ref q1)=some false)(i_8_2:PySem.W.kitOne K (.ref q8) (.ref q2)=some false)(i_8_3:PySem.W.kitOne K (.ref q8) (.ref q3)=some false)(i_8_4:PySem.W.kitOne K (.ref q8) (.ref q4)=some false)(i_8_5:PySem.W.kitOne K (.ref q8) (.ref q5)=some false)(i_8_6:PySem.W.kitOne K (.ref q8) (.ref q6)=some false)(i_8_7:PySem.W.kitOne K (.ref q8) (.ref q7)=some false)(i_8_8:PySem.W.kitOne K (.ref q8) (.ref q8)=some true)(i_8_9:PySem.W.kitOne K (.ref q8) (.ref q9)=some false)(i_8_10:PySem.W.kitOne K (.ref q8) (.ref q10)=some false)(i_8_11:PySem.W.kitOne K (.ref q8) (.ref q11)=some false)(i_8_12:PySem.W.kitOne K (.ref q8) (.ref q12)=some false)(i_8_13:PySem.W.kitOne K (.ref q8) (.ref q13)=some false)(i_8_v:PySem.W.kitOne K (.ref q8) (.type "ValueError")=some true)(e_9:PySem.W.excIn K q9 [.type "ValueError",.type "Exception",.type "BaseException",.type "object"] "ValueError.__new__"=true)(t_9:PySem.W.exmOne K (.ref q9) (.ref q14)=some true)(xa_9:PySem.W.findIn K (.ref q9) "__getattribute__"=some (some (.builtin "BaseException.__getattribute__")))(xh_9:PySem.W.findIn K (.ref q9) "__getattr__"=some none)(xc_9:PySem.W.findIn K (.ref q9) "__class__"=some (some (.builtin "object.__class__")))(xs_9:PySem.W.subIn K (.ref q9) (.type "BaseException")=some true)(xo_9:PySem.W.mroIn K q9 (.type "object")=some true)(xd_9:PySem.W.isClsIn K q9=true)(i_9_0:PySem.W.kitOne K (.ref q9) (.ref q0)=some false)(i_9_1:PySem.W.kitOne K (.ref q9) (.ref q1)=some false)(i_9_2:PySem.W.kitOne K (.ref q9) (.ref q2)=some false)(i_9_3:PySem.W.kitOne K (.ref q9) (.ref q3)=some false)(i_9_4:PySem.W.kitOne K (.ref q9) (.ref q4)=some false)(i_9_5:PySem.W.kitOne K (.ref q9) (.ref q5)=some false)(i_9_6:PySem.W.kitOne K (.ref q9) (.ref q6)=some false)(i_9_7:PySem.W.kitOne K (.ref q9) (.ref q7)=some false)(i_9_8:PySem.W.kitOne K (.ref q9) (.ref q8)=some false)(i_9_9:PySem.W.kitOne K (.ref q9) (.ref q9)=some true)(i_9_10:PySem.W.kitOne K (.ref q9) (.ref q10)=some false)(i_9_11:PySem.W.kitOne K (.ref q9) (.ref q11)=some false)(i_9_12:PySem.W.kitOne K (.ref q9) (.ref q12)=some false)(i_9_13:PySem.W.kitOne K (.ref q9) (.ref q13)=some false)(i_9_v:PySem.W.kitOne K (.ref q9) (.type "ValueError")=some true)(e_10:PySem.W.excIn K q10 [.type "ValueError",.type "Exception",.type "BaseException",.type "object"] "ValueError.__new__"=true)(t_10:PySem.W.exmOne K (.ref q10) (.ref q14)=some true)(xa_10:PySem.W.findIn K (.ref q10) "__getattribute__"=some (some (.builtin "BaseException.__getattribute__")))(xh_10:PySem.W.findIn K (.ref q10) "__getattr__"=some none)(xc_10:PySem.W.findIn K (.ref q10) "__class__"=some (some (.builtin "object.__class__")))(xs_10:PySem.W.subIn K (.ref q10) (.type "BaseException")=some true)(xo_10:PySem.W.mroIn K q10 (.type "object")=some true)(xd_10:PySem.W.isClsIn K q10=true)(i_10_0:PySem.W.kitOne K (.ref q10) (.ref q0)=some false)(i_10_1:PySem.W.kitOne K (.ref q10) (.ref q1)=some false)(i_10_2:PySem.W.kitOne K (.ref q10) (.ref q2)=some false)(i_10_3:PySem.W.kitOne K (.ref q10) (.ref q3)=some false)(i_10_4:PySem.W.kitOne K (.ref q10) (.ref q4)=some false)(i_10_5:PySem.W.kitOne K (.ref q10) (.ref q5)=some false)(i_10_6:PySem.W.kitOne K (.ref q10) (.ref q6)=some false)(i_10_7:PySem.W.kitOne K (.ref q10) (.ref q7)=some false)(i_10_8:PySem.W.kitOne K (.ref q10) (.ref q8)=some false)(i_10_9:PySem.W.kitOne K (.ref q10) (.ref q9)=some false)(i_10_10:PySem.W.kitOne K (.ref q10) (.ref q10)=some true)(i_10_11:PySem.W.kitOne K (.ref q10) (.ref q11)=some false)(i_10_12:PySem.W.kitOne K (.ref q10) (.ref q12)=some false)(i_10_13:PySem.W.kitOne K (.ref q10) (.ref q13)=some false)(i_10_v:PySem.W.kitOne K (.ref q10) (.type "ValueError")=some true)(e_11:PySem.W.excIn K q11 [.type "ValueError",.type "Exception",.type "BaseException",.type "object"] "ValueError.__new__"=true)(t_11:PySem.W.exmOne K (.ref q11) (.ref q14)=some true)(xa_11:PySem.W.findIn K (.ref q11) "__getattribute__"=some (some (.builtin "BaseException.__getattribute__")))(xh_11:PySem.W.findIn K (.ref q11) "__getattr__"=some none)(xc_11:PySem.W.findIn K (.ref q11) "__class__"=some (some (.builtin "object.__class__")))(xs_11:PySem.W.subIn K (.ref q11) (.type "BaseException")=some true)(xo_11:PySem.W.mroIn K q11 (.type "object")=some true)(xd_11:PySem.W.isClsIn K q11=true)(i_11_0:PySem.W.kitOne K (.ref q11) (.ref q0)=some false)(i_11_1:PySem.W.kitOne K (.ref q11) (.ref q1)=some false)(i_11_2:PySem.W.kitOne K (.ref q11) (.ref q2)=some false)(i_11_3:PySem.W.kitOne K (.ref q11) (.ref q3)=some false)(i_11_4:PySem.W.kitOne K (.ref q11) (.ref q4)=some false)(i_11_5:PySem.W.kitOne K (.ref q11) (.ref q5)=some false)(i_11_6:PySem.W.kitOne K (.ref q11) (.ref q6)=some false)(i_11_7:PySem.W.kitOne K (.ref q11) (.ref q7)=some false)(i_11_8:PySem.W.kitOne K (.ref q11) (.ref q8)=some false)(i_11_9:PySem.W.kitOne K (.ref q11) (.ref q9)=some false)(i_11_10:PySem.W.kitOne K (.ref q11) (.ref q10)=some false)(i_11_11:PySem.W.kitOne K (.ref q11) (.ref q11)=some true)(i_11_12:PySem.W.kitOne K (.ref q11) (.ref q12)=some false)(i_11_13:PySem.W.kitOne K (.ref q11) (.ref q13)=some false)(i_11_v:PySem.W.kitOne K (.ref q11) (.type "ValueError")=some true)(e_12:PySem.W.excIn K q12 [.type "ValueError",.type "Exception",.type "BaseException",.type "object"] "ValueError.__new__"=true)(t_12:PySem.W.exmOne K (.ref q12) (.ref q14)=some true)(xa_12:PySem.W.findIn K (.ref q12) "__getattribute__"=some (some (.builtin "BaseException.__getattribute__")))(xh_12:PySem.W.findIn K (.ref q12) "__getattr__"=some none)(xc_12:PySem.W.findIn K (.ref q12) "__class__"=some (some (.builtin "object.__class__")))(xs_12:PySem.W.subIn K (.ref q12) (.type "BaseException")=some true)(xo_12:PySem.W.mroIn K q12 (.type "object")=some true)(xd_12:PySem.W.isClsIn K q12=true)(i_12_0:PySem.W.kitOne K (.ref q12) (.ref q0)=some false)(i_12_1:PySem.W.kitOne K (.ref q12) (.ref q1)=some false)(i_12_2:PySem.W.kitOne K (.ref q12) (.ref q2)=some false)(i_12_3:PySem.W.kitOne K (.ref q12) (.ref q3)=some false)(i_12_4:PySem.W.kitOne K (.ref q12) (.ref q4)=some false)(i_12_5:PySem.W.kitOne K (.ref q12) (.ref q5)=some false)(i_12_6:PySem.W.kitOne K (.ref q12) (.ref q6)=some false)(i_12_7:PySem.W.kitOne K (.ref q12) (.ref q7)=some false)(i_12_8:PySem.W.kitOne K (.ref q12) (.ref q8)=some false)(i_12_9:PySem.W.kitOne K (.ref q12) (.ref q9)=some false)(i_12_10:PySem.W.kitOne K (.ref q12) (.ref q10)=some false)(i_12_11:PySem.W.kitOne K (.ref q12) (.ref q11)=some false)(i_12_12:PySem.W.kitOne K (.ref q12) (.ref q12)=some true)(i_12_13:PySem.W.kitOne K (.ref q12) (.ref q13)=some false)(i_12_v:PySem.W.kitOne K (.ref q12) (.type "ValueError")=some true)(e_13:PySem.W.excIn K q13 [.type "ValueError",.type "Exception",.type "BaseException",.type "object"] "ValueError.__new__"=true)(t_13:PySem.W.exmOne K (.ref q13) (.ref q14)=some true)(xa_13:PySem.W.findIn K (.ref q13) "__getattribute__"=some (some (.builtin "BaseException.__getattribute__")))(xh_13:PySem.W.findIn K (.ref q13) "__getattr__"=some none)(xc_13:PySem.W.findIn K (.ref q13) "__class__"=some (some (.builtin "object.__class__")))(xs_13:PySem.W.subIn K (.ref q13) (.type "BaseException")=some true)(xo_13:PySem.W.mroIn K q13 (.type "object")=some true)(xd_13:PySem.W.isClsIn K q13=true)(i_13_0:PySem.W.kitOne K (.ref q13) (.ref q0)=some false)(i_13_1:PySem.W.kitOne K (.ref q13) (.ref q1)=some false)(i_13_2:PySem.W.kitOne K (.ref q13) (.ref q2)=some false)(i_13_3:PySem.W.kitOne K (.ref q13) (.ref q3)=some false)(i_13_4:PySem.W.kitOne K (.ref q13) (.ref q4)=some false)(i_13_5:PySem.W.kitOne K (.ref q13) (.ref q5)=some false)(i_13_6:PySem.W.kitOne K (.ref q13) (.ref q6)=some false)(i_13_7:PySem.W.kitOne K (.ref q13) (.ref q7)=some false)(i_13_8:PySem.W.kitOne K (.ref q13) (.ref q8)=some false)(i_13_9:PySem.W.kitOne K (.ref q13) (.ref q9)=some false)(i_13_10:PySem.W.kitOne K (.ref q13) (.ref q10)=some false)(i_13_11:PySem.W.kitOne K (.ref q13) (.ref q11)=some false)(i_13_12:PySem.W.kitOne K (.ref q13) (.ref q12)=some false)(i_13_13:PySem.W.kitOne K (.ref q13) (.ref q13)=some true)(i_13_v:PySem.W.kitOne K (.ref q13) (.type "ValueError")=some true)(g_LEAST_WIDTH_a:PySem.W.nsIn K mainGlobals "LEAST_WIDTH"=some (some (.int 4 g_LEAST_WIDTH_t)))(g_MOST_WIDTH_a:PySem.W.nsIn K mainGlobals "MOST_WIDTH"=some (some (.int 16 g_MOST_WIDTH_t)))(g_MOST_WORDS_a:PySem.W.nsIn K mainGlobals "MOST_WORDS"=some (some (.int 8 g_MOST_WORDS_t)))
   :∃fd:FuncData,(∀(s:Shared) (v:Value),BindsTo s fd ⟨[v],[]⟩ [("_law_script",v)])/\∀base:Heap,K.In base->base.Ns mainGlobals mg->FnOk l.prog w K mg base (CX1 l.prog w) 12 fx fd ["_law_script"] (spX K (callT T 12) zgw):=by
 have e:=Value.ref.inj (Option.some.inj (hfa.symm.trans (PySem.W.mg_of X G a15)))
 subst e
 have Z:Facts K mg (fun i=>([q0,q1,q2,q3,q4,q5,q6,q7,q8,q9,q10,q11,q12,q13,q14]:List Addr).getD i 0) (fun i=>([f0,f1,f2,f3,f4,f5,f6,f7,f8,f9,f10,f11,f12,f13,f14,fx]:List Addr).getD i 0) (fun i=>match i with
  |0=>(FN "read" zav .none kV0 dc0 pm0 an0 cd0 ct0)
  |1=>(FN "read_word" zN .none kV1 dc1 pm1 an1 cd1 ct1)
  |2=>(FN "read_two" z9 .none kV2 dc2 pm2 an2 cd2 ct2)
  |3=>(FN "_law_fresh" za4 .none kV3 dc3 pm3 an3 cd3 ct3)
  |4=>(FN "_law_mixed" zaG .none kV4 dc4 pm4 an4 cd4 ct4)
  |5=>(FN "_law_fill" zaY .none kV5 dc5 pm5 an5 cd5 ct5)
  |6=>(FN "_law_take" zbh .none kV6 dc6 pm6 an6 cd6 ct6)
  |7=>(FN "_law_two_to" zas .none kV7 dc7 pm7 an7 cd7 ct7)
  |8=>(FN "_law_whole" zah .none kV8 dc8 pm8 an8 cd8 ct8)
  |9=>(FN "_law_number" zQ .none kV9 dc9 pm9 an9 cd9 ct9)
  |10=>(FN "_law_due" zbd .none kV10 dc10 pm10 an10 cd10 ct10)
  |11=>(FN "_law_sign" zaU .none kV11 dc11 pm11 an11 cd11 ct11)
  |12=>(FN "_law_spoilt" z7 .none kV12 dc12 pm12 an12 cd12 ct12)
  |13=>(FN "_law_raised" zz .none kV13 dc13 pm13 an13 cd13 ct13)
  |14=>(FN "_law_met" zU .none kV14 dc14 pm14 an14 cd14 ct14)
  |15=>(FN "law" zS .none kV15 dc15 pm15 an15 cd15 ct15)
  |_=>(FN "law" zS .none kV15 dc15 pm15 an15 cd15 ct15)):={
  F0:=zbb (st:=zav) (ps:=["text"]) X G a0 l0 c0 p0 fun _ _ _ _ _ _ us hl=>by obtain ⟨a,rfl⟩ := kl1 us hl;exact rfl
  F1:=zbb (st:=zN) (ps:=["text","w"]) X G a1 l1 c1 p1 fun _ _ _ _ _ _ us hl=>by obtain ⟨a,b,rfl⟩ := kl2 us hl;exact rfl
  F2:=zbb (st:=z9) (ps:=["sign"]) X G a2 l2 c2 p2 fun _ _ _ _ _ _ us hl=>by obtain ⟨a,rfl⟩ := kl1 us hl;exact rfl
  F3:=zbb (st:=za4) (ps:=["_law_script"]) X G a3 l3 c3 p3 fun _ _ _ _ _ _ us hl=>by obtain ⟨a,rfl⟩ := kl1 us hl;exact rfl
  F4:=zbb (st:=zaG) (ps:=["_law_seed"]) X G a4 l4 c4 p4 fun _ _ _ _ _ _ us hl=>by obtain ⟨a,rfl⟩ := kl1 us hl;exact rfl
  F5:=zbb (st:=zaY) (ps:=["_law_state"]) X G a5 l5 c5 p5 fun _ _ _ _ _ _ us hl=>by obtain ⟨a,rfl⟩ := kl1 us hl;exact rfl
  F6:=zbb (st:=zbh) (ps:=["_law_state","_law_many"]) X G a6 l6 c6 p6 fun _ _ _ _ _ _ us hl=>by obtain ⟨a,b,rfl⟩ := kl2 us hl;exact rfl
  F7:=zbb (st:=zas) (ps:=["_law_many"]) X G a7 l7 c7 p7 fun _ _ _ _ _ _ us hl=>by obtain ⟨a,rfl⟩ := kl1 us hl;exact rfl
  F8:=zbb (st:=zah) (ps:=["_law_thing"]) X G a8 l8 c8 p8 fun _ _ _ _ _ _ us hl=>by obtain ⟨a,rfl⟩ := kl1 us hl;exact rfl
  F9:=zbb (st:=zQ) (ps:=["_law_thing","_law_w","_law_n"]) X G a9 l9 c9 p9 fun _ _ _ _ _ _ us hl=>by obtain ⟨a,b,c,rfl⟩ := kl3 us hl;exact rfl
  F10:=zbb (st:=zbd) (ps:=["_law_text"]) X G a10 l10 c10 p10 fun _ _ _ _ _ _ us hl=>by obtain ⟨a,rfl⟩ := kl1 us hl;exact rfl
  F11:=zbb (st:=zaU) (ps:=["_law_state"]) X G a11 l11 c11 p11 fun _ _ _ _ _ _ us hl=>by obtain ⟨a,rfl⟩ := kl1 us hl;exact rfl
  F12:=zbb (st:=z7) (ps:=["_law_state","_law_text"]) X G a12 l12 c12 p12 fun _ _ _ _ _ _ us hl=>by obtain ⟨a,b,rfl⟩ := kl2 us hl;exact rfl
  F13:=zbb (st:=zz) (ps:=["_law_which","_law_text"]) X G a13 l13 c13 p13 fun _ _ _ _ _ _ us hl=>by obtain ⟨a,b,rfl⟩ := kl2 us hl;exact rfl
  F14:=zbb (st:=zU) (ps:=["_law_which","_law_text"]) X G a14 l14 c14 p14 fun _ _ _ _ _ _ us hl=>by obtain ⟨a,b,rfl⟩ := kl2 us hl;exact rfl
  F15:=zbb (st:=zS) (ps:=["_law_script"]) X G a15 l15 c15 p15 fun _ _ _ _ _ _ us hl=>by obtain ⟨a,rfl⟩ := kl1 us hl;exact rfl
  z_ValueError:=PySem.W.mg_none_of X G z_ValueError
  z_all:=PySem.W.mg_none_of X G z_all
  z_any:=PySem.W.mg_none_of X G z_any
  z_bool:=PySem.W.mg_none_of X G z_bool
  z_enumerate:=PySem.W.mg_none_of X G z_enumerate
  z_int:=PySem.W.mg_none_of X G z_int
  z_isinstance:=PySem.W.mg_none_of X G z_isinstance
  z_len:=PySem.W.mg_none_of X G z_len
  z_range:=PySem.W.mg_none_of X G z_range
  z_reversed:=PySem.W.mg_none_of X G z_reversed
  z_tuple:=PySem.W.mg_none_of X G z_tuple
  k_bool:=⟨k_bool_n,k_bool_b,k_bool_i,k_bool_s,k_bool_p,k_bool_l⟩
  k_int:=⟨k_int_n,k_int_b,k_int_i,k_int_s,k_int_p,k_int_l⟩
  k_tuple:=⟨k_tuple_n,k_tuple_b,k_tuple_i,k_tuple_s,k_tuple_p,k_tuple_l⟩
  c_LEAST_WIDTH:=⟨_,PySem.W.mg_of X G g_LEAST_WIDTH_a⟩
  c_MOST_WIDTH:=⟨_,PySem.W.mg_of X G g_MOST_WIDTH_a⟩
  c_MOST_WORDS:=⟨_,PySem.W.mg_of X G g_MOST_WORDS_a⟩
  n_0:=PySem.W.mg_of X G n_0
  n_1:=PySem.W.mg_of X G n_1
  n_2:=PySem.W.mg_of X G n_2
  n_3:=PySem.W.mg_of X G n_3
  n_4:=PySem.W.mg_of X G n_4
  n_5:=PySem.W.mg_of X G n_5
  n_6:=PySem.W.mg_of X G n_6
  n_7:=PySem.W.mg_of X G n_7
  n_8:=PySem.W.mg_of X G n_8
  n_9:=PySem.W.mg_of X G n_9
  n_10:=PySem.W.mg_of X G n_10
  n_11:=PySem.W.mg_of X G n_11
  n_12:=PySem.W.mg_of X G n_12
  n_13:=PySem.W.mg_of X G n_13
  n_14:=PySem.W.mg_of X G n_14
  r_0:=⟨PySem.W.mg_of X G n_0,e_0⟩
  t_0:=t_0
  x_0:=⟨xa_0,xh_0,xc_0,xs_0,xo_0,zT xd_0⟩
  i_0_0:=i_0_0
  i_0_1:=i_0_1
  i_0_2:=i_0_2
  i_0_3:=i_0_3
  i_0_4:=i_0_4
  i_0_5:=i_0_5
  i_0_6:=i_0_6
  i_0_7:=i_0_7
  i_0_8:=i_0_8
  i_0_9:=i_0_9
  i_0_10:=i_0_10
  i_0_11:=i_0_11
  i_0_12:=i_0_12
  i_0_13:=i_0_13
  i_0_v:=i_0_v
  r_1:=⟨PySem.W.mg_of X G n_1,e_1⟩
  t_1:=t_1
  x_1:=⟨xa_1,xh_1,xc_1,xs_1,xo_1,zT xd_1⟩
  i_1_0:=i_1_0
  i_1_1:=i_1_1
  i_1_2:=i_1_2
  i_1_3:=i_1_3
  i_1_4:=i_1_4
  i_1_5:=i_1_5
  i_1_6:=i_1_6
  i_1_7:=i_1_7
  i_1_8:=i_1_8
  i_1_9:=i_1_9
  i_1_10:=i_1_10
  i_1_11:=i_1_11
  i_1_12:=i_1_12
  i_1_13:=i_1_13
  i_1_v:=i_1_v
  r_2:=⟨PySem.W.mg_of X G n_2,e_2⟩
  t_2:=t_2
  x_2:=⟨xa_2,xh_2,xc_2,xs_2,xo_2,zT xd_2⟩
  i_2_0:=i_2_0
  i_2_1:=i_2_1
  i_2_2:=i_2_2
  i_2_3:=i_2_3
  i_2_4:=i_2_4
  i_2_5:=i_2_5
  i_2_6:=i_2_6
  i_2_7:=i_2_7
  i_2_8:=i_2_8
  i_2_9:=i_2_9
  i_2_10:=i_2_10
  i_2_11:=i_2_11
  i_2_12:=i_2_12
  i_2_13:=i_2_13
  i_2_v:=i_2_v
  r_3:=⟨PySem.W.mg_of X G n_3,e_3⟩
  t_3:=t_3
  x_3:=⟨xa_3,xh_3,xc_3,xs_3,xo_3,zT xd_3⟩
  i_3_0:=i_3_0
  i_3_1:=i_3_1
  i_3_2:=i_3_2
  i_3_3:=i_3_3
  i_3_4:=i_3_4
  i_3_5:=i_3_5
  i_3_6:=i_3_6
  i_3_7:=i_3_7
  i_3_8:=i_3_8
  i_3_9:=i_3_9
  i_3_10:=i_3_10
  i_3_11:=i_3_11
  i_3_12:=i_3_12
  i_3_13:=i_3_13
  i_3_v:=i_3_v
  r_4:=⟨PySem.W.mg_of X G n_4,e_4⟩
  t_4:=t_4
  x_4:=⟨xa_4,xh_4,xc_4,xs_4,xo_4,zT xd_4⟩
  i_4_0:=i_4_0
  i_4_1:=i_4_1
  i_4_2:=i_4_2
  i_4_3:=i_4_3
  i_4_4:=i_4_4
  i_4_5:=i_4_5
  i_4_6:=i_4_6
  i_4_7:=i_4_7
  i_4_8:=i_4_8
  i_4_9:=i_4_9
  i_4_10:=i_4_10
  i_4_11:=i_4_11
  i_4_12:=i_4_12
  i_4_13:=i_4_13
  i_4_v:=i_4_v
  r_5:=⟨PySem.W.mg_of X G n_5,e_5⟩
  t_5:=t_5
  x_5:=⟨xa_5,xh_5,xc_5,xs_5,xo_5,zT xd_5⟩
  i_5_0:=i_5_0
  i_5_1:=i_5_1
  i_5_2:=i_5_2
  i_5_3:=i_5_3
  i_5_4:=i_5_4
  i_5_5:=i_5_5
  i_5_6:=i_5_6
  i_5_7:=i_5_7
  i_5_8:=i_5_8
  i_5_9:=i_5_9
  i_5_10:=i_5_10
  i_5_11:=i_5_11
  i_5_12:=i_5_12
  i_5_13:=i_5_13
  i_5_v:=i_5_v
  r_6:=⟨PySem.W.mg_of X G n_6,e_6⟩
  t_6:=t_6
  x_6:=⟨xa_6,xh_6,xc_6,xs_6,xo_6,zT xd_6⟩
  i_6_0:=i_6_0
  i_6_1:=i_6_1
  i_6_2:=i_6_2
  i_6_3:=i_6_3
  i_6_4:=i_6_4
  i_6_5:=i_6_5
  i_6_6:=i_6_6
  i_6_7:=i_6_7
  i_6_8:=i_6_8
  i_6_9:=i_6_9
  i_6_10:=i_6_10
  i_6_11:=i_6_11
  i_6_12:=i_6_12
  i_6_13:=i_6_13
  i_6_v:=i_6_v
  r_7:=⟨PySem.W.mg_of X G n_7,e_7⟩
  t_7:=t_7
  x_7:=⟨xa_7,xh_7,xc_7,xs_7,xo_7,zT xd_7⟩
  i_7_0:=i_7_0
  i_7_1:=i_7_1
  i_7_2:=i_7_2
  i_7_3:=i_7_3
  i_7_4:=i_7_4
  i_7_5:=i_7_5
  i_7_6:=i_7_6
  i_7_7:=i_7_7
  i_7_8:=i_7_8
  i_7_9:=i_7_9
  i_7_10:=i_7_10
  i_7_11:=i_7_11
  i_7_12:=i_7_12
  i_7_13:=i_7_13
  i_7_v:=i_7_v
  r_8:=⟨PySem.W.mg_of X G n_8,e_8⟩
  t_8:=t_8
  x_8:=⟨xa_8,xh_8,xc_8,xs_8,xo_8,zT xd_8⟩
  i_8_0:=i_8_0
  i_8_1:=i_8_1
  i_8_2:=i_8_2
  i_8_3:=i_8_3
  i_8_4:=i_8_4
  i_8_5:=i_8_5
  i_8_6:=i_8_6
  i_8_7:=i_8_7
  i_8_8:=i_8_8
  i_8_9:=i_8_9
  i_8_10:=i_8_10
  i_8_11:=i_8_11
  i_8_12:=i_8_12
  i_8_13:=i_8_13
  i_8_v:=i_8_v
  r_9:=⟨PySem.W.mg_of X G n_9,e_9⟩
  t_9:=t_9
  x_9:=⟨xa_9,xh_9,xc_9,xs_9,xo_9,zT xd_9⟩
  i_9_0:=i_9_0
  i_9_1:=i_9_1
  i_9_2:=i_9_2
  i_9_3:=i_9_3
  i_9_4:=i_9_4
  i_9_5:=i_9_5
  i_9_6:=i_9_6
  i_9_7:=i_9_7
  i_9_8:=i_9_8
  i_9_9:=i_9_9
  i_9_10:=i_9_10
  i_9_11:=i_9_11
  i_9_12:=i_9_12
  i_9_13:=i_9_13
  i_9_v:=i_9_v
  r_10:=⟨PySem.W.mg_of X G n_10,e_10⟩
  t_10:=t_10
  x_10:=⟨xa_10,xh_10,xc_10,xs_10,xo_10,zT xd_10⟩
  i_10_0:=i_10_0
  i_10_1:=i_10_1
  i_10_2:=i_10_2
  i_10_3:=i_10_3
  i_10_4:=i_10_4
  i_10_5:=i_10_5
  i_10_6:=i_10_6
  i_10_7:=i_10_7
  i_10_8:=i_10_8
  i_10_9:=i_10_9
  i_10_10:=i_10_10
  i_10_11:=i_10_11
  i_10_12:=i_10_12
  i_10_13:=i_10_13
  i_10_v:=i_10_v
  r_11:=⟨PySem.W.mg_of X G n_11,e_11⟩
  t_11:=t_11
  x_11:=⟨xa_11,xh_11,xc_11,xs_11,xo_11,zT xd_11⟩
  i_11_0:=i_11_0
  i_11_1:=i_11_1
  i_11_2:=i_11_2
  i_11_3:=i_11_3
  i_11_4:=i_11_4
  i_11_5:=i_11_5
  i_11_6:=i_11_6
  i_11_7:=i_11_7
  i_11_8:=i_11_8
  i_11_9:=i_11_9
  i_11_10:=i_11_10
  i_11_11:=i_11_11
  i_11_12:=i_11_12
  i_11_13:=i_11_13
  i_11_v:=i_11_v
  r_12:=⟨PySem.W.mg_of X G n_12,e_12⟩
  t_12:=t_12
  x_12:=⟨xa_12,xh_12,xc_12,xs_12,xo_12,zT xd_12⟩
  i_12_0:=i_12_0
  i_12_1:=i_12_1
  i_12_2:=i_12_2
  i_12_3:=i_12_3
  i_12_4:=i_12_4
  i_12_5:=i_12_5
  i_12_6:=i_12_6
  i_12_7:=i_12_7
  i_12_8:=i_12_8
  i_12_9:=i_12_9
  i_12_10:=i_12_10
  i_12_11:=i_12_11
  i_12_12:=i_12_12
  i_12_13:=i_12_13
  i_12_v:=i_12_v
  r_13:=⟨PySem.W.mg_of X G n_13,e_13⟩
  t_13:=t_13
  x_13:=⟨xa_13,xh_13,xc_13,xs_13,xo_13,zT xd_13⟩
  i_13_0:=i_13_0
  i_13_1:=i_13_1
  i_13_2:=i_13_2
  i_13_3:=i_13_3
  i_13_4:=i_13_4
  i_13_5:=i_13_5
  i_13_6:=i_13_6
  i_13_7:=i_13_7
  i_13_8:=i_13_8
  i_13_9:=i_13_9
  i_13_10:=i_13_10
  i_13_11:=i_13_11
  i_13_12:=i_13_12
  i_13_13:=i_13_13
  i_13_v:=i_13_v
 }
 exact ⟨_,fun s v=>.of_eq rfl,fun base XB _=>(zW Z 12 15 _ rfl).imp fun _ _ _ _ h=>h _⟩
theorem walk {l:PySem.W.OpenLaw}{q:Program}{loose:List Str}{XP:(Str->Option Value)->Heap->Prop}{YP:World->Heap->Prop}{d:DefRec}{K:Params->PySem.W.Frag}(hn:l.most=some 63)(hdf:d.params.defaults=[])
  (hY:∀(w:World) (h:Heap),YP w h->(K w.params).In h)
  (F:∀(w:World) (mg:Str->Option Value) (fa:Addr) (h:Heap),(K w.params).In h->h.Ns mainGlobals mg->mg d.name=some (.ref fa) ->
   ∃fd:FuncData,(∀(s:Shared) (u:Value),BindsTo s fd ⟨[u],[]⟩ [("_law_script",u)])/\∀base:Heap,(K w.params).In base->base.Ns mainGlobals mg->FnOk l.prog w (K w.params) mg base (CX1 l.prog w) 12 fa fd ["_law_script"] (spX (K w.params) (callT T 12) zgw)) :
  PySem.W.WalkO q loose XP YP l.row.toRowW d [] (fun f vs=>PySem.call f vs) :=
 L2.walk_of (n:=63) (k:=12) (x:="_law_script") (CX:=fun w=>CX1 l.prog w) (sp:=fun w=>spX (K w.params) (callT T 12) zgw) hn (by decide) hdf ⟨rfl,by decide,by decide⟩ hY F (fun w H a ns hl _ hS=>zgZ ziR hl hS) fun _ _ _ _ _ z=>zl9 z
end WK
open PySem PySem.W PyProof.Rows
namespace PySem.W.Fast
def tw16851444485767347410:=Nat
def tw17482971207369397847:=Nat
def tw1513038161829323471:=Nat
def tw17503042512966029351:=Nat
def tw15446904857284187881:=Nat
def tw4763486648632495877:=Nat
def tw7148991843207557930:=Nat
def tw5400236500863168556:=Nat
def tw10478610749197675880:=Nat
def tw11980618244088876158:=Nat
def tw13439711857987836676:=Nat
def tw460545281110471545:=Nat
def tw3157431863831170294:=Nat
def tw14550009800942562432:=Nat
def tw8049364271116068339:=Nat
def tw2697054271274298769:=Nat
def tw17925148900532953577:=Nat
def tw16082112878871598944:=Nat
def tw10675337080837678340:=Nat
def tw745843238520978659:=Nat
def tw3114596651230159626:=Nat
def tw12245729431248013255:=Nat
def tw814775409683294075:=Nat
def tw12488636712675202727:=Nat
def tw7557161215445269402:=Nat
def tw8565731902577373018:=Nat
def tw3416916822243629393:=Nat
def tw14381625361091886087:=Nat
def tw10500069691543603670:=Nat
def tw8148414677170929670:=Nat
def tw16179884160018029495:=Nat
def tw748115637685034680:=Nat
def tw14583883949737783108:=Nat
def tw13550872391113050386:=Nat
def tw4844865933590434595:=Nat
def tw10292516292930115959:=Nat
def tw3885461827105557201:=Nat
def tw11155268508214311756:=Nat
def tw1978766769436458273:=Nat
def tw4844060202773417388:=Nat
def tw6292262415593725032:=Nat
def tw1254253567935426753:=Nat
def tw18186662253076316230:=Nat
def tw1160627933209986121:=Nat
def tw14718179075563199399:=Nat
def tw4075041546984548497:=Nat
def tw18234210279904809923:=Nat
def tw7491143450375767816:=Nat
def tw9840700071034743151:=Nat
def tw14165230300803261535:=Nat
def tw12377060660369572634:=Nat
def tw2139861959273679376:=Nat
def tw1785564229354656860:=Nat
def tw13363309882320534064:=Nat
def tw5842862645108317216:=Nat
def tw555965233426977739:=Nat
def tw14138511257392459619:=Nat
def tw12037862663700724232:=Nat
def tw17849219311313735200:=Nat
def tw9761204871962851741:=Nat
def tw11102376579728375440:=Nat
def tw198832824827014145:=Nat
def tw8991979341144978681:=Nat
def tw4896745390644780276:=Nat
def tw7480583589160873619:=Nat
def tw6903829679999038257:=Nat
def tw12237507954885861829:=Nat
def tw5756337118055478713:=Nat
def tw16664307427858802457:=Nat
def tw6157493458311589479:=Nat
def tw1667933650304110768:=Nat
def tw3896872087825436120:=Nat
def tw14314907591987752553:=Nat
def tw1155049690940752144:=Nat
def tw10004294604605056599:=Nat
def tw10591114181225256407:=Nat
def tw1730815520548787190:=Nat
def tw17050213041756721863:=Nat
def tw17608711500234376206:=Nat
def tw14777931346906999324:=Nat
def tw1372472910772886751:=Nat
def tw231459073829182079:=Nat
def tw8104281834580620203:=Nat
def tw14615375221699706135:=Nat
def tw6274280420255713380:=Nat
def tw5906705731572970167:=Nat
def tw6911136621714700570:=Nat
def tw13312766199047468099:=Nat
def tw805062781443966742:=Nat
def tw5157053715736947095:=Nat
def tw14791280370198341457:=Nat
def tw2495104639256071758:=Nat
def tw2037402508734995811:=Nat
def tw1687499483648785873:=Nat
def tw2857620611224908422:=Nat
def tw5856070699857247895:=Nat
def tw11985699539421604338:=Nat
def tw8594099460227408370:=Nat
def tw16894163099129687149:=Nat
def tw624530319447293394:=Nat
def tw717372069932655632:=Nat
def tw11367398458620340791:=Nat
def tw17293740218381137658:=Nat
def tw1664176494036283463:=Nat
def tw8900096723140501655:=Nat
def tw7095750437626211030:=Nat
def tw13794773865065333336:=Nat
def tw5113694602424756945:=Nat
def tw16629936955358704158:=Nat
def tw6595405007404117356:=Nat
def tw5163901806542208987:=Nat
def tw1021588304747180377:=Nat
def tw11261173543949327836:=Nat
def tw6974733053808964742:=Nat
def tw12438169603537379357:=Nat
def tw9690226629252605756:=Nat
def tw14691217950231664791:=Nat
def tw2079901012472821426:=Nat
def tw3833983134806349065:=Nat
def tw90412321036810904:=Nat
def tw7878841575448603001:=Nat
def tw2620566716474828527:=Nat
def tw4999524791277147633:=Nat
def tw1915478020162396561:=Nat
def tw11959708545618343766:=Nat
def tw13829821139346204102:=Nat
def tw16097762382626487785:=Nat
def tw7992852124701873885:=Nat
def tw10368063183855356293:=Nat
def tw2456143891927709721:=Nat
def tw7333969631842836901:=Nat
def tw3408276467238207286:=Nat
def tw14306132265116301470:=Nat
def tw15317653263727297743:=Nat
def tw10824410527927871474:=Nat
def tw301157098551163681:=Nat
def tw43238619807531712:=Nat
def tw7983143361715900247:=Nat
def tw14486547803817746328:=Nat
def tw840575982374326418:=Nat
def tw9375735644216803333:=Nat
def tw1686892252297071703:=Nat
def tw9384109259563898733:=Nat
def tw4455020411244893399:=Nat
def tw3608203769031076088:=Nat
def tw2921787583746584078:=Nat
def tw17537720946573203499:=Nat
def tw18297980011652043509:=Nat
def tw16377830760169426456:=Nat
def tw16942838630536158238:=Nat
def tw1635829230668846952:=Nat
def tw9198413442346744918:=Nat
def tw5538129070759774698:=Nat
def tw10125898709830920782:=Nat
def tw8292796094233075489:=Nat
def tw756136896114712072:=Nat
def tw10605774474398125458:=Nat
def tw5133765769458453947:=Nat
def tw11708583917708788650:=Nat
def tw18075925297162891499:=Nat
def tw2392289954396333992:=Nat
def tw5604844672691122402:=Nat
def tw3155081820575128383:=Nat
def tw1848847671004932961:=Nat
def tw14321703808925278534:=Nat
def tw16806596309697141740:=Nat
def tw497833070819458851:=Nat
def tw3305429971453868322:=Nat
def tw3837068092686070419:=Nat
def tw16379517665517072605:=Nat
def tw13441609472593451099:=Nat
def tw15648768439884304822:=Nat
def tw5949047062450742762:=Nat
def tw10756092454098181350:=Nat
def tw16649738647235023436:=Nat
def tw14356198736080750163:=Nat
def tw4417969221828512736:=Nat
def tw12579695446887322842:=Nat
def tw8780052189377601022:=Nat
def tw12975224821577012953:=Nat
def tw14759686691384079632:=Nat
def tw4352585578954381368:=Nat
def tw9809887460911423372:=Nat
def tw8403729129106527547:=Nat
def tw2769300145398250351:=Nat
def tw568218767522682152:=Nat
def tw2796213526277949644:=Nat
def tw8024086942833121047:=Nat
def tw5199615665412607244:=Nat
def tw12072912446114499859:=Nat
def tw710888931752761035:=Nat
def tw7058999388795170388:=Nat
def tw3538794462952157762:=Nat
def tw15688842865235359197:=Nat
def tw14296504593119468993:=Nat
def tw11368600404705095305:=Nat
def tw18403348101243976650:=Nat
def tw15532336701863192948:=Nat
def tw8454210976856209580:=Nat
def tw2340077438624153020:=Nat
def tw8398381222385580313:=Nat
end PySem.W.Fast
set_option maxRecDepth 100000 in
set_option maxHeartbeats 0 in
theorem PySem.Challenge.cw_widewords_k05_texts_refused_holds : PySem.Challenge.rw_widewords_k05_texts_refused.Holds := by
 w_on;o_law;k_head;(case hw=>w_witness2)
 k_fill
 refine WK.walk (l:=PySem.Challenge.rw_widewords_k05_texts_refused) rfl rfl (fun w h Y=>PySem.W.kIn_of Y) ?F
 case F =>
  intro w mg fa h KX G hmg
  refine' WK.all_mk KX G hmg ?a0 ?l0 ?c0 ?p0 ?a1 ?l1 ?c1 ?p1 ?a2 ?l2 ?c2 ?p2 ?a3 ?l3 ?c3 ?p3 ?a4 ?l4 ?c4 ?p4 ?a5 ?l5 ?c5 ?p5 ?a6 ?l6 ?c6 ?p6 ?a7 ?l7 ?c7 ?p7 ?a8 ?l8 ?c8 ?p8 ?a9 ?l9 ?c9 ?p9 ?a10 ?l10 ?c10 ?p10 ?a11 ?l11 ?c11 ?p11 ?a12 ?l12 ?c12 ?p12 ?a13 ?l13 ?c13 ?p13 ?a14 ?l14 ?c14 ?p14 ?a15 ?l15 ?c15 ?p15 ?z_ValueError ?z_all ?z_any ?z_bool ?z_enumerate ?z_int ?z_isinstance ?z_len ?z_range ?z_reversed ?z_tuple ?k_bool_n ?k_bool_b ?k_bool_i ?k_bool_s ?k_bool_p ?k_bool_l ?k_int_n ?k_int_b ?k_int_i ?k_int_s ?k_int_p ?k_int_l ?k_tuple_n ?k_tuple_b ?k_tuple_i ?k_tuple_s ?k_tuple_p ?k_tuple_l ?n_0 ?n_1 ?n_2 ?n_3 ?n_4 ?n_5 ?n_6 ?n_7 ?n_8 ?n_9 ?n_10 ?n_11 ?n_12 ?n_13 ?n_14 ?e_0 ?t_0 ?xa_0 ?xh_0 ?xc_0 ?xs_0 ?xo_0 ?xd_0 ?i_0_0 ?i_0_1 ?i_0_2 ?i_0_3 ?i_0_4 ?i_0_5 ?i_0_6 ?i_0_7 ?i_0_8 ?i_0_9 ?i_0_10 ?i_0_11 ?i_0_12 ?i_0_13 ?i_0_v ?e_1 ?t_1 ?xa_1 ?xh_1 ?xc_1 ?xs_1 ?xo_1 ?xd_1 ?i_1_0 ?i_1_1 ?i_1_2 ?i_1_3 ?i_1_4 ?i_1_5 ?i_1_6 ?i_1_7 ?i_1_8 ?i_1_9 ?i_1_10 ?i_1_11 ?i_1_12 ?i_1_13 ?i_1_v ?e_2 ?t_2 ?xa_2 ?xh_2 ?xc_2 ?xs_2 ?xo_2 ?xd_2 ?i_2_0 ?i_2_1 ?i_2_2 ?i_2_3 ?i_2_4 ?i_2_5 ?i_2_6 ?i_2_7 ?i_2_8 ?i_2_9 ?i_2_10 ?i_2_11 ?i_2_12 ?i_2_13 ?i_2_v ?e_3 ?t_3 ?xa_3 ?xh_3 ?xc_3 ?xs_3 ?xo_3 ?xd_3 ?i_3_0 ?i_3_1 ?i_3_2 ?i_3_3 ?i_3_4 ?i_3_5 ?i_3_6 ?i_3_7 ?i_3_8 ?i_3_9 ?i_3_10 ?i_3_11 ?i_3_12 ?i_3_13 ?i_3_v ?e_4 ?t_4 ?xa_4 ?xh_4 ?xc_4 ?xs_4 ?xo_4 ?xd_4 ?i_4_0 ?i_4_1 ?i_4_2 ?i_4_3 ?i_4_4 ?i_4_5 ?i_4_6 ?i_4_7 ?i_4_8 ?i_4_9 ?i_4_10 ?i_4_11 ?i_4_12 ?i_4_13 ?i_4_v ?e_5 ?t_5 ?xa_5 ?xh_5 ?xc_5 ?xs_5 ?xo_5 ?xd_5 ?i_5_0 ?i_5_1 ?i_5_2 ?i_5_3 ?i_5_4 ?i_5_5 ?i_5_6 ?i_5_7 ?i_5_8 ?i_5_9 ?i_5_10 ?i_5_11 ?i_5_12 ?i_5_13 ?i_5_v ?e_6 ?t_6 ?xa_6 ?xh_6 ?xc_6 ?xs_6 ?xo_6 ?xd_6 ?i_6_0 ?i_6_1 ?i_6_2 ?i_6_3 ?i_6_4 ?i_6_5 ?i_6_6 ?i_6_7 ?i_6_8 ?i_6_9 ?i_6_10 ?i_6_11 ?i_6_12 ?i_6_13 ?i_6_v ?e_7 ?t_7 ?xa_7 ?xh_7 ?xc_7 ?xs_7 ?xo_7 ?xd_7 ?i_7_0 ?i_7_1 ?i_7_2 ?i_7_3 ?i_7_4 ?i_7_5 ?i_7_6 ?i_7_7 ?i_7_8 ?i_7_9 ?i_7_10 ?i_7_11 ?i_7_12 ?i_7_13 ?i_7_v ?e_8 ?t_8 ?xa_8 ?xh_8 ?xc_8 ?xs_8 ?xo_8 ?xd_8 ?i_8_0 ?i_8_1 ?i_8_2 ?i_8_3 ?i_8_4 ?i_8_5 ?i_8_6 ?i_8_7 ?i_8_8 ?i_8_9 ?i_8_10 ?i_8_11 ?i_8_12 ?i_8_13 ?i_8_v ?e_9 ?t_9 ?xa_9 ?xh_9 ?xc_9 ?xs_9 ?xo_9 ?xd_9 ?i_9_0 ?i_9_1 ?i_9_2 ?i_9_3 ?i_9_4 ?i_9_5 ?i_9_6 ?i_9_7 ?i_9_8 ?i_9_9 ?i_9_10 ?i_9_11 ?i_9_12 ?i_9_13 ?i_9_v ?e_10 ?t_10 ?xa_10 ?xh_10 ?xc_10 ?xs_10 ?xo_10 ?xd_10 ?i_10_0 ?i_10_1 ?i_10_2 ?i_10_3 ?i_10_4 ?i_10_5 ?i_10_6 ?i_10_7 ?i_10_8 ?i_10_9 ?i_10_10 ?i_10_11 ?i_10_12 ?i_10_13 ?i_10_v ?e_11 ?t_11 ?xa_11 ?xh_11 ?xc_11 ?xs_11 ?xo_11 ?xd_11 ?i_11_0 ?i_11_1 ?i_11_2 ?i_11_3 ?i_11_4 ?i_11_5 ?i_11_6 ?i_11_7 ?i_11_8 ?i_11_9 ?i_11_10 ?i_11_11 ?i_11_12 ?i_11_13 ?i_11_v ?e_12 ?t_12 ?xa_12 ?xh_12 ?xc_12 ?xs_12 ?xo_12 ?xd_12 ?i_12_0 ?i_12_1 ?i_12_2 ?i_12_3 ?i_12_4 ?i_12_5 ?i_12_6 ?i_12_7 ?i_12_8 ?i_12_9 ?i_12_10 ?i_12_11 ?i_12_12 ?i_12_13 ?i_12_v ?e_13 ?t_13 ?xa_13 ?xh_13 ?xc_13 ?xs_13 ?xo_13 ?xd_13 ?i_13_0 ?i_13_1 ?i_13_2 ?i_13_3 ?i_13_4 ?i_13_5 ?i_13_6 ?i_13_7 ?i_13_8 ?i_13_9 ?i_13_10 ?i_13_11 ?i_13_12 ?i_13_13 ?i_13_v ?g_LEAST_WIDTH_a ?g_MOST_WIDTH_a ?g_MOST_WORDS_a
  all_goals try delta WK.aN WK.cN WK.pN WK.lN
  (case a0|l0|c0|p0|a1|l1|c1|p1|a2|l2|c2|p2|a3|l3|c3|p3|a4|l4|c4|p4|a5|l5|c5|p5|a6|l6|c6|p6|a7|l7|c7|p7|a8|l8|c8|p8|a9|l9|c9|p9|a10|l10|c10|p10|a11|l11|c11|p11|a12|l12|c12|p12|a13|l13|c13|p13|a14|l14|c14|p14|a15|l15|c15|p15|z_ValueError|z_all|z_any|z_bool|z_enumerate|z_int|z_isinstance|z_len|z_range|z_reversed|z_tuple=>k_is);(case k_bool_n|k_bool_b|k_bool_i|k_bool_s|k_bool_p|k_bool_l|k_int_n|k_int_b|k_int_i|k_int_s|k_int_p|k_int_l|k_tuple_n|k_tuple_b|k_tuple_i|k_tuple_s|k_tuple_p|k_tuple_l=>kit_is);(case n_0|n_1|n_2|n_3|n_4|n_5|n_6|n_7|n_8|n_9|n_10|n_11|n_12|n_13|n_14=>k_is);(case e_0=>k_exc);(case t_0=>kts_exm);(case xa_0|xh_0|xc_0|xs_0|xo_0|xd_0=>k_is);(case i_0_0|i_0_1|i_0_2|i_0_3|i_0_4|i_0_5|i_0_6|i_0_7|i_0_8|i_0_9|i_0_10|i_0_11|i_0_12|i_0_13|i_0_v=>kit_is);(case e_1=>k_exc);(case t_1=>kts_exm);(case xa_1|xh_1|xc_1|xs_1|xo_1|xd_1=>k_is);(case i_1_0|i_1_1|i_1_2|i_1_3|i_1_4|i_1_5|i_1_6|i_1_7|i_1_8|i_1_9|i_1_10|i_1_11|i_1_12|i_1_13|i_1_v=>kit_is);(case e_2=>k_exc);(case t_2=>kts_exm);(case xa_2|xh_2|xc_2|xs_2|xo_2|xd_2=>k_is);(case i_2_0|i_2_1|i_2_2|i_2_3|i_2_4|i_2_5|i_2_6|i_2_7|i_2_8|i_2_9|i_2_10|i_2_11|i_2_12|i_2_13|i_2_v=>kit_is);(case e_3=>k_exc);(case t_3=>kts_exm);(case xa_3|xh_3|xc_3|xs_3|xo_3|xd_3=>k_is);(case i_3_0|i_3_1|i_3_2|i_3_3|i_3_4|i_3_5|i_3_6|i_3_7|i_3_8|i_3_9|i_3_10|i_3_11|i_3_12|i_3_13|i_3_v=>kit_is)
  (case e_4=>k_exc);(case t_4=>kts_exm);(case xa_4|xh_4|xc_4|xs_4|xo_4|xd_4=>k_is);(case i_4_0|i_4_1|i_4_2|i_4_3|i_4_4|i_4_5|i_4_6|i_4_7|i_4_8|i_4_9|i_4_10|i_4_11|i_4_12|i_4_13|i_4_v=>kit_is);(case e_5=>k_exc)
  (case t_5=>kts_exm);(case xa_5|xh_5|xc_5|xs_5|xo_5|xd_5=>k_is);(case i_5_0|i_5_1|i_5_2|i_5_3|i_5_4|i_5_5|i_5_6|i_5_7|i_5_8|i_5_9|i_5_10|i_5_11|i_5_12|i_5_13|i_5_v=>kit_is);(case e_6=>k_exc);(case t_6=>kts_exm)
  (case xa_6|xh_6|xc_6|xs_6|xo_6|xd_6=>k_is);(case i_6_0|i_6_1|i_6_2|i_6_3|i_6_4|i_6_5|i_6_6|i_6_7|i_6_8|i_6_9|i_6_10|i_6_11|i_6_12|i_6_13|i_6_v=>kit_is);(case e_7=>k_exc);(case t_7=>kts_exm);(case xa_7|xh_7|xc_7|xs_7|xo_7|xd_7=>k_is);(case i_7_0|i_7_1|i_7_2|i_7_3|i_7_4|i_7_5|i_7_6|i_7_7|i_7_8|i_7_9|i_7_10|i_7_11|i_7_12|i_7_13|i_7_v=>kit_is);(case e_8=>k_exc);(case t_8=>kts_exm);(case xa_8|xh_8|xc_8|xs_8|xo_8|xd_8=>k_is);(case i_8_0|i_8_1|i_8_2|i_8_3|i_8_4|i_8_5|i_8_6|i_8_7|i_8_8|i_8_9|i_8_10|i_8_11|i_8_12|i_8_13|i_8_v=>kit_is);(case e_9=>k_exc);(case t_9=>kts_exm);(case xa_9|xh_9|xc_9|xs_9|xo_9|xd_9=>k_is);(case i_9_0|i_9_1|i_9_2|i_9_3|i_9_4|i_9_5|i_9_6|i_9_7|i_9_8|i_9_9|i_9_10|i_9_11|i_9_12|i_9_13|i_9_v=>kit_is);(case e_10=>k_exc);(case t_10=>kts_exm);(case xa_10|xh_10|xc_10|xs_10|xo_10|xd_10=>k_is);(case i_10_0|i_10_1|i_10_2|i_10_3|i_10_4|i_10_5|i_10_6|i_10_7|i_10_8|i_10_9|i_10_10|i_10_11|i_10_12|i_10_13|i_10_v=>kit_is);(case e_11=>k_exc);(case t_11=>kts_exm);(case xa_11|xh_11|xc_11|xs_11|xo_11|xd_11=>k_is);(case i_11_0|i_11_1|i_11_2|i_11_3|i_11_4|i_11_5|i_11_6|i_11_7|i_11_8|i_11_9|i_11_10|i_11_11|i_11_12|i_11_13|i_11_v=>kit_is)
  (case e_12=>k_exc);(case t_12=>kts_exm);(case xa_12|xh_12|xc_12|xs_12|xo_12|xd_12=>k_is);(case i_12_0|i_12_1|i_12_2|i_12_3|i_12_4|i_12_5|i_12_6|i_12_7|i_12_8|i_12_9|i_12_10|i_12_11|i_12_12|i_12_13|i_12_v=>kit_is);(case e_13=>k_exc)
  (case t_13=>kts_exm);(case xa_13|xh_13|xc_13|xs_13|xo_13|xd_13=>k_is);(case i_13_0|i_13_1|i_13_2|i_13_3|i_13_4|i_13_5|i_13_6|i_13_7|i_13_8|i_13_9|i_13_10|i_13_11|i_13_12|i_13_13|i_13_v=>kit_is);(case g_LEAST_WIDTH_a|g_MOST_WIDTH_a|g_MOST_WORDS_a=>k_is)
