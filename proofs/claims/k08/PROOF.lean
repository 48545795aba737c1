import PyProof.Rows.All
import Wide.All
import OpenK.AllK
import Wide.FinOn
import Lean
import PyProof.EqAt
import PyProof.EqKinds
import PyProof.TupleCall
import KE.LcSums
import PyProof.ZipIter
import PyProof.AutoSeq1
import KE.KTryMore
import PyProof.Rows.CountFlat
import PyProof.Rows.SeqMore2
import PySem.Builtin.Int.W1All
import PyProof.FString5
import PyProof.StrLawsIn
import PyProof.StrBlockI
import PyProof.Rows.Range3
import KE.KEqDict
import PyProof.Rows.RowBridgeK
import KE.KxWritten
import PyProof.ListMulRoad
import PyProof.Rows.ListMulCarried
import PySem.Challenge.RW_widewords_k08_machine_refuses
import PyProof.FitsInt
import PyProof.Fits
import PyProof.StrLaws
set_option Elab.async false
set_option linter.all false
set_option maxRecDepth 100000
set_option maxHeartbeats 0
namespace L2
open PySem PySem.Spec PyProof.Rows
abbrev Key:=Sum Int Str
def ybM:Key->Value->Bool
 | .inl k,v=>Value.isInt k v
 | .inr x,v=>Value.isStrOf x v
def yfC (w:World):Key->Int
 | .inl k=>hashInt k
 | .inr x=>hashStr w x
theorem zaV:∀{k:Key} {v:Value},ybM k v=true->(∃i t,k=Sum.inl i/\v=Value.int i t) \/ (∃x t,k=Sum.inr x/\v=Value.str x t)
 | .inl i,v,h=>by
  obtain ⟨t,e⟩:=Value.isInt_shape (k:=i) (v:=v) h
  exact .inl ⟨i,t,rfl,e⟩
 | .inr x,v,h=>by
  obtain ⟨t,e⟩:=Value.isStrOf_shape (x:=x) (v:=v) h
  exact .inr ⟨x,t,rfl,e⟩
theorem zlv (i:Int)(t:Tok):ybM (.inl i) (.int i t)=true:=by simp [ybM,Value.isInt]
theorem zj9 (x:Str)(t:Tok):ybM (.inr x) (.str x t)=true:=by simp [ybM,Value.isStrOf]
theorem zot (a b:Int):decide ((Sum.inl a:Key)=Sum.inl b)=(a == b):=by
 by_cases e:a=b
 ·subst e;simp
 ·have h:¬(Sum.inl a:Key)=Sum.inl b:=fun q=>e (Sum.inl.inj q)
  rw [decide_eq_false h]
  exact (beq_eq_false_iff_ne.mpr e).symm
theorem zoG (a b:Str):decide ((Sum.inr a:Key)=Sum.inr b)=decide (a=b):=by
 by_cases e:a=b
 ·subst e;simp
 ·have h:¬(Sum.inr a:Key)=Sum.inr b:=fun q=>e (Sum.inr.inj q)
  rw [decide_eq_false h,decide_eq_false e]
theorem zon (a:Int)(b:Str):decide ((Sum.inl a:Key)=Sum.inr b)=false:=decide_eq_false (fun q=>nomatch q)
theorem zo2 (a:Str)(b:Int):decide ((Sum.inr a:Key)=Sum.inl b)=false:=decide_eq_false (fun q=>nomatch q)
def yH (prog:Program)(w:World):PySem.KeyKind prog w Key where
 is:=ybM
 hash:=yfC w
 inj:=fun v a b ha hb=>by
  rcases zaV ha with ⟨i,t,rfl,rfl⟩|⟨x,t,rfl,rfl⟩
  ·rcases zaV hb with ⟨j,u,rfl,e⟩|⟨y,u,rfl,e⟩
   ·injection e with e1 _;rw [e1]
   ·exact nomatch e
  ·rcases zaV hb with ⟨j,u,rfl,e⟩|⟨y,u,rfl,e⟩
   ·exact nomatch e
   ·injection e with e1 _;rw [e1]
 byValue:=fun k v h=>by
  rcases zaV h with ⟨i,t,rfl,rfl⟩|⟨x,t,rfl,rfl⟩ <;> rfl
 pyHash:=fun hv h=>by
  rcases zaV hv with ⟨i,t,rfl,rfl⟩|⟨x,t,rfl,rfl⟩
  ·exact wpAny_pyHash_int h
  ·exact wpAny_pyHash_str h
 eqBool:=fun hu hv h=>by
  rcases zaV hu with ⟨i,t,rfl,rfl⟩|⟨x,t,rfl,rfl⟩
  ·rcases zaV hv with ⟨j,u,rfl,rfl⟩|⟨y,u,rfl,rfl⟩
   ·rw [zot] at h;exact wpAny_eqBool_int h
   ·rw [zon] at h;exact SeqAt.EqAt.int_str i t y u _ _ _ _ h
  ·rcases zaV hv with ⟨j,u,rfl,rfl⟩|⟨y,u,rfl,rfl⟩
   ·rw [zo2] at h;exact SeqAt.EqAt.str_int x t j u _ _ _ _ h
   ·rw [zoG] at h;exact wpAny_eqBool_str h
 «strs»:=fun k x t v h=>by
  rcases zaV h with ⟨i,u,rfl,e⟩|⟨y,u,rfl,e⟩
  ·exact nomatch e
  ·injection e with e1 _
   subst e1
   cases v <;> rfl
theorem zhY (prog:Program)(w:World)(i:Int)(t:Tok):(yH prog w).is (.inl i) (.int i t)=true:=zlv i t
theorem zic (prog:Program)(w:World)(x:Str)(t:Tok):(yH prog w).is (.inr x) (.str x t)=true:=zj9 x t
inductive V where
 | non|bl (b:Bool)|int (i:Int)|str (x:Str)|byt (b:Array UInt8)|flt (b:UInt64)|ref (a:Addr)|ty (n:String)
 deriving DecidableEq
def RelV:V->Value->Prop
 | .non,u=>u=Value.none
 | .bl b,u=>u=Value.bool b
 | .int i,u=>∃t,u=Value.int i t
 | .str x,u=>∃t,u=Value.str x t
 | .byt b,u=>∃t,u=Value.bytes b t
 | .flt b,u=>∃t,u=Value.float b t
 | .ref a,u=>u=Value.ref a
 | .ty n,u=>u=Value.type n
abbrev Vals:List V->List Value->Prop:=Paired RelV
theorem Vals.length {xs:List V}{us:List Value}(r:Vals xs us):xs.length=us.length:=Paired.length r
theorem Vals.get:∀{xs:List V} {us:List Value} {i:Nat} {x:V},Vals xs us->xs[i]?=some x->∃u,us[i]?=some u/\RelV x u
 |_,_,_,_,.nil,e=>by simp at e
 |_,_,0,_,.cons r _,e=>by simp at e;subst e;exact ⟨_,rfl,r⟩
 |_,_,i+1,x,.cons _ t,e=>by
  obtain ⟨u,h1,h2⟩:=Vals.get (i:=i) (x:=x) t (by simpa using e)
  exact ⟨u,by simpa using h1,h2⟩
theorem Vals.set {x:V}{u:Value}(r:RelV x u):∀{xs:List V} {us:List Value} (i:Nat),Vals xs us->Vals (xs.set i x) (us.set i u)
 |_,_,_,.nil=>.nil
 |_,_,0,.cons _ t=>.cons r t
 |_,_,i+1,.cons q t=>.cons q (Vals.set r i t)
theorem Vals.append:∀{xs ys:List V} {us ws:List Value},Vals xs us->Vals ys ws->Vals (xs++ys) (us++ws)
 |_,_,_,_,.nil,s=>s
 |_,_,_,_,.cons r t,s=>.cons r (Vals.append t s)
theorem Vals.take:∀{xs:List V} {us:List Value} (n:Nat),Vals xs us->Vals (xs.take n) (us.take n)
 |_,_,0,_=>.nil
 |_,_,_+1,.nil=>.nil
 |_,_,n+1,.cons r t=>.cons r (Vals.take n t)
theorem Vals.drop:∀{xs:List V} {us:List Value} (n:Nat),Vals xs us->Vals (xs.drop n) (us.drop n)
 |_,_,0,r=>r
 |_,_,_+1,.nil=>.nil
 |_,_,n+1,.cons _ t=>Vals.drop n t
theorem Vals.none_of:∀{xs:List V} {us:List Value} {i:Nat},Vals xs us->xs[i]?=none->us[i]?=none:=fun {xs us i} r e=>by
 have h1:=r.length
 have h2:xs.length<=i:=List.getElem?_eq_none_iff.mp e
 exact List.getElem?_eq_none_iff.mpr (by omega)
def ybb:Option V->Option Value->Prop
 |some v,some u=>RelV v u
 |none,none=>True
 |_,_=>False
def KV {κ:Type}:List (κ×V)->List (κ×Value)->Prop:=Paired fun (p:κ×V) (q:κ×Value)=>p.1=q.1/\RelV p.2 q.2
def kV:Key->V
 | .inl i=>.int i
 | .inr x=>.str x
inductive HO where
 | lst (xs:List V)
 | tup (xs:List V)
 | dK (kvs:List (Key×V))|dT (kvs:List (List Key×V))
 | set (S:Int->Bool) (n:Nat)
 | ins (C dx:Addr) (fs:List (Str×V))
 | own (x:Addr)
 | xd (fs:List (Str×V))
 | met (f x:Addr)
 | rng (lo hi:Int)
 | frz (o:Obj) (u:HO)
 | tbl (ps:Array Value)
 | ext (φ:Heap->Prop)
abbrev Hp:=Addr->Option HO
def upd (H:Hp)(a:Addr)(o:HO):Hp:=fun b=>if b=a then some o else H b
theorem zU {H:Hp}{a:Addr}{o:HO}:upd H a o a=some o:=by unfold upd;rw [if_pos rfl]
theorem zH {H:Hp}{a b:Addr}{o:HO}(h:b≠a):upd H a o b=H b:=by unfold upd;rw [if_neg h]
theorem znT {H:Hp}{a:Addr}{o u:HO}:upd (upd H a o) a u=upd H a u:=by
 funext b;unfold upd;split <;> rfl
theorem zpt {H:Hp}{a b:Addr}{o u:HO}(h:H a=some o)(h':H b=some u)(d:o≠u):a≠b:=by
 intro e;subst e;rw [h] at h';exact d (Option.some.inj h')
theorem zO {H:Hp}{a b:Addr}{o:HO}(h:H a=some o)(h':H b=none):a≠b:=by
 intro e;subst e;rw [h] at h';cases h'
section
variable (P:Program)(w:World)
def yI (H:Hp)(h:Heap)(a:Addr):HO->Prop
 | .lst xs=>xs.length<=sizeLine/\∃(its:List Value) (n:Nat),Vals xs its/\h.get? a=some { cls:=.type "list",data:=.seq its.toArray n }
 | .tup xs=>xs.length<=sizeLine/\∃its:List Value,Vals xs its/\IsTup h a its.toArray
 | .dK kvs=>kvs.length<=sizeLine/\(a == sysModules)=false/\∃vs,KV kvs vs/\h.DictOf (yH P w) a vs
 | .dT kvs=>kvs.length<=sizeLine/\(a == sysModules)=false/\∃xs:List (List Key×Addr×Value),
   Paired (fun (p:List Key×V) (q:List Key×Addr×Value)=>p.1=q.1/\H q.2.1=some (.tup (p.1.map kV))/\RelV p.2 q.2.2) kvs xs /\
   ∃o es ep,h.get? a=some o/\o.ExactDict/\o.data=.dict es ep/\es.toList=xs.map (entryOfKey (tupleKind (yH P w)))/\(xs.map (·.1)).Nodup
 | .set S n=>h.SetOf (intKind P w) a S n
 | .ins C dx fs=>H dx=some (.own a)/\fs.length<=1000/\dx≠a/\h.get? a=some (PySem.W.instObj C dx) /\
   ∃mA,h.Ns1 dx mA/\(∀f,ybb (fs.lookup f) (mA f))/\PySem.Within mA (fs.map (·.1))
 | .own _=>∃o,h.get? a=some o
 | .xd fs=>∃mA,h.Ns1 a mA/\∀f,ybb (fs.lookup f) (mA f)
 | .rng lo hi=>∃t u v,h.get? a=some { cls:=.type "range",data:=.fields #[.int lo t,.int hi u,.int 1 v] }
 | .frz o u=>h.get? a=some o/\yI H h a u
 | .tbl ps=>h.get? a=some { cls:=.none,data:=.fields ps }
 | .met f x=>h.get? a=some (PySem.W.methodObj (.ref f) (.ref x))
 | .ext φ=>φ h/\(∃o,h.get? a=some o)/\∀h1 h2:Heap,φ h1->(∀o,h1.get? a=some o->h2.get? a=some o)->φ h2
def HOk (H:Hp)(h:Heap):Prop:=∀a o,H a=some o->yI P w H h a o
end
section
variable {P:Program}{w:World}{H H':Hp}{h h':Heap}{a:Addr}{o:HO}
theorem yI.lt (x:yI P w H h a o):a<h.objs.size:=by
 cases o with
 |lst xs=>obtain ⟨_,_,_,_,e⟩:=x;exact Heap.lt_size e
 |tup xs=>obtain ⟨_,_,_,p⟩:=x;exact p.lt
 |dK kvs=>obtain ⟨_,_,_,_,o,_,_,e,_⟩:=x;exact Heap.lt_size e
 |dT kvs=>obtain ⟨_,_,_,_,o,_,_,e,_⟩:=x;exact Heap.lt_size e
 |set S n=>obtain ⟨o,_,_,_,e,_⟩:=x;exact Heap.lt_size e
 |ins C dx fs=>obtain ⟨_,_,_,e,_⟩:=x;exact Heap.lt_size e
 |own y=>obtain ⟨_,e⟩:=x;exact Heap.lt_size e
 |xd fs=>obtain ⟨_,⟨_,_,_,e,_⟩,_⟩:=x;exact Heap.lt_size e
 |rng lo hi=>obtain ⟨_,_,_,e⟩:=x;exact Heap.lt_size e
 |frz ob u=>obtain ⟨e,_⟩:=x;exact Heap.lt_size e
 |tbl ps=>exact Heap.lt_size (show h.get? a=some _ from x)
 |met f y=>exact Heap.lt_size (show h.get? a=some _ from x)
 |ext φ=>obtain ⟨_,⟨_,e⟩,_⟩:=x;exact Heap.lt_size e
theorem Paired.mapP {α β:Type}{F G:α->β->Prop}:∀{l₁:List α} {l₂:List β},Paired F l₁ l₂->(∀a b,F a b->G a b)->Paired G l₁ l₂
 |_,_,.nil,_=>.nil
 |_,_,.cons r t,f=>.cons (f _ _ r) (Paired.mapP t f)
theorem yI.stay (x:yI P w H h a o)(k:∀b u,(b=a \/ H b=some (.own a))->h.get? b=some u->h'.get? b=some u)
  (ho:∀b,H b=some (.own a)->H' b=some (.own a)) (ht:∀b xs,H b=some (.tup xs)->H' b=some (.tup xs)):yI P w H' h' a o:=by
 induction o with
 |lst xs=>obtain ⟨z,its,n,r,e⟩:=x;exact ⟨z,its,n,r,k _ _ (.inl rfl) e⟩
 |tup xs=>obtain ⟨z,its,r,ob,e,c⟩:=x;exact ⟨z,its,r,ob,k _ _ (.inl rfl) e,c⟩
 |dK kvs=>obtain ⟨z,y,vs,r,ob,es,ep,e,c⟩:=x;exact ⟨z,y,vs,r,ob,es,ep,k _ _ (.inl rfl) e,c⟩
 |dT kvs =>
  obtain ⟨z,y,xs,r,ob,es,ep,e,c⟩:=x
  exact ⟨z,y,xs,Paired.mapP r fun p q z=>⟨z.1,ht _ _ z.2.1,z.2.2⟩,ob,es,ep,k _ _ (.inl rfl) e,c⟩
 |set S n=>obtain ⟨ob,es,ep,t,e,c⟩:=x;exact ⟨ob,es,ep,t,k _ _ (.inl rfl) e,c⟩
 |ins C dx fs =>
  obtain ⟨d,z,ne,e,mA,⟨od,es,ep,e2,c⟩,r⟩:=x
  exact ⟨ho _ d,z,ne,k _ _ (.inl rfl) e,mA,⟨od,es,ep,k _ _ (.inr d) e2,c⟩,r⟩
 |own y=>obtain ⟨ob,e⟩:=x;exact ⟨ob,k _ _ (.inl rfl) e⟩
 |xd fs=>obtain ⟨mA,⟨od,es,ep,e,c⟩,r⟩:=x;exact ⟨mA,⟨od,es,ep,k _ _ (.inl rfl) e,c⟩,r⟩
 |rng lo hi=>obtain ⟨t,u,v,e⟩:=x;exact ⟨t,u,v,k _ _ (.inl rfl) e⟩
 |frz ob u ih=>obtain ⟨e,q⟩:=x;exact ⟨k _ _ (.inl rfl) e,ih q⟩
 |tbl ps =>
  have e:h.get? a=some { cls:=.none,data:=.fields ps }:=x
  show h'.get? a=some { cls:=.none,data:=.fields ps }
  exact k a _ (.inl rfl) e
 |met f y =>
  have e:h.get? a=some (PySem.W.methodObj (.ref f) (.ref y)):=x
  show h'.get? a=some (PySem.W.methodObj (.ref f) (.ref y))
  exact k a _ (.inl rfl) e
 |ext φ=>obtain ⟨p,⟨o,e⟩,st⟩:=x;exact ⟨st _ _ p fun o q=>k _ _ (.inl rfl) q,⟨o,k _ _ (.inl rfl) e⟩,st⟩
theorem HOk.lt (x:HOk P w H h)(e:H a=some o):a<h.objs.size:=(x a o e).lt
theorem HOk.fresh (x:HOk P w H h)(e:h.objs.size<=a):H a=none:=by
 cases q:H a with
 |none=>rfl
 |some u=>exact absurd (Nat.lt_of_lt_of_le (x.lt q) e) (Nat.lt_irrefl _)
theorem HOk.kept (x:HOk P w H h)(k:∀b u,h.get? b=some u->h'.get? b=some u):HOk P w H h':=fun a o e =>
 (x a o e).stay (fun b u _ q=>k b u q) (fun _ q=>q) fun _ _ q=>q
theorem HOk.laid (x:HOk P w H h)(k:∀b u,h.get? b=some u->h'.get? b=some u)(hp:h.objs.size<=a)(new:yI P w (upd H a o) h' a o):HOk P w (upd H a o) h':=fun b u e=>by
 have hn:=x.fresh hp
 by_cases hb:b=a
 ·subst hb;rw [zU] at e;cases e;exact new
 ·rw [zH hb] at e
  exact (x b u e).stay (fun c v _ q=>k c v q) (fun c q=>by rw [zH (zO q hn)];exact q) fun c xs q=>by rw [zH (zO q hn)];exact q
end
def Rd (H:Hp)(a:Addr)(u:HO):Prop:=H a=some u \/ ∃o,H a=some (.frz o u)
theorem Rd.of {H:Hp}{a:Addr}{u:HO}(h:H a=some u):Rd H a u:=.inl h
theorem Rd.ok {P:Program}{w:World}{H:Hp}{h:Heap}{a:Addr}{u:HO}(r:Rd H a u)(x:HOk P w H h):yI P w H h a u:=by
 rcases r with r|⟨o,r⟩
 ·exact x a u r
 ·obtain ⟨_,q⟩:=x a _ r
  exact q
def Mut:Option HO->Prop
 |some (.lst _)=>True
 |some (.dK _)=>True
 |some (.dT _)=>True
 |some (.set _ _)=>True
 |some (.ins _ _ _)=>True
 |some (.ext _)=>True
 |_=>False
section
variable {P:Program}{w:World}{H:Hp}{h h':Heap}{x e:Addr}{o':HO}
theorem HOk.write (ok:HOk P w H h)(mu:Mut (H x))(he:e=x \/ H e=some (.own x))(k:∀b u,b≠e->h.get? b=some u->h'.get? b=some u)(heo:∃u,h'.get? e=some u)
  (new:yI P w (upd H x o') h' x o'):HOk P w (upd H x o') h':=fun b u q=>by
 have nown:∀c y,H c=some (.own y)->c≠x:=fun c y r z=>by subst z;rw [r] at mu;exact mu
 have ntup:∀c xs,H c=some (.tup xs)->c≠x:=fun c xs r z=>by subst z;rw [r] at mu;exact mu
 by_cases hb:b=x
 ·subst hb;rw [zU] at q;cases q;exact new
 ·rw [zH hb] at q
  by_cases hbe:b=e
  ·have q':H b=some (.own x):=by
    rcases he with z|z
    ·exact absurd (hbe.trans z) hb
    ·rw [hbe];exact z
   rw [q] at q';cases q'
   obtain ⟨v,hv⟩:=heo
   exact ⟨v,by rw [hbe];exact hv⟩
  ·refine (ok b u q).stay (fun c v hc r=>k c v ?_ r) (fun c r=>by rw [zH (nown c b r)];exact r) fun c xs r=>by rw [zH (ntup c xs r)];exact r
   rcases hc with rfl|hc
   ·exact hbe
   ·rintro rfl
    rcases he with z|z
    ·exact nown c b hc z
    ·rw [hc] at z;cases z;exact hb rfl
end
structure Un (fs ex:List Addr)(H H':Hp)(h h':Heap):Prop where
 keep:∀b o,h.get? b=some o->H b=none->b∉fs->b∉ex->h'.get? b=some o
 slot:∀b o,h.get? b=some o->H b=none->b∈fs->b∉ex->∃sl,h'.get? b=some { o with slots:=sl }
 free:∀b o,h.get? b=some o->H b=none->b∉ex->H' b=none
 there:∀b o,h.get? b=some o->b∉ex->∃o',h'.get? b=some o'
 tups:∀b xs,H b=some (.tup xs)->H' b=some (.tup xs)
 frzs:∀b o u,H b=some (.frz o u)->H' b=some (.frz o u)
 tbls:∀b ps,H b=some (.tbl ps)->∃more,H' b=some (.tbl (ps++more))
section
variable {fs fs' ex ex':List Addr}{H H1 H2:Hp}{h h1 h2 h':Heap}{a x e:Addr}{o:HO}
theorem Un.any (u:Un fs ex H H1 h h1){b:Addr}{ob:Obj}(q:h.get? b=some ob)(n:H b=none)(hx:b∉ex):∃sl,h1.get? b=some { ob with slots:=sl }:=by
 by_cases hb:b∈fs
 ·exact u.slot b ob q n hb hx
 ·exact ⟨ob.slots,u.keep b ob q n hb hx⟩
theorem Un.kept (k:∀b u,h.get? b=some u->h'.get? b=some u):Un fs ex H H h h' :=
 ⟨fun b ob q _ _ _=>k b ob q,fun b ob q _ _ _=>⟨ob.slots,k b ob q⟩,fun _ _ _ n _=>n,fun b ob q _=>⟨ob,k b ob q⟩,fun _ _ q=>q,fun _ _ _ q=>q,fun _ ps q=>⟨#[],by rw [q];simp⟩⟩
theorem Un.refl:Un fs ex H H h h:=Un.kept fun _ _ q=>q
theorem Un.laid (k:∀b u,h.get? b=some u->h'.get? b=some u)(hp:h.objs.size<=a)(hn:H a=none):Un fs ex H (upd H a o) h h' where
 keep:=fun b u q _ _ _=>k b u q
 slot:=fun b u q _ _ _=>⟨u.slots,k b u q⟩
 free:=fun b u q n _=>by rw [zH (Nat.ne_of_lt (Nat.lt_of_lt_of_le (Heap.lt_size q) hp))];exact n
 there:=fun b u q _=>⟨u,k b u q⟩
 tups:=fun b xs q=>by rw [zH (zO q hn)];exact q
 frzs:=fun b u xs q=>by rw [zH (zO q hn)];exact q
 tbls:=fun b ps q=>⟨#[],by rw [zH (zO q hn),q];simp⟩
theorem Un.write (mu:Mut (H x))(he:e=x \/ H e=some (.own x))(k:∀b u,b≠e->h.get? b=some u->h'.get? b=some u)(heo:∃u,h'.get? e=some u):Un fs ex H (upd H x o) h h':=by
 have hx:∀b,H b=none->b≠x:=fun b n z=>by subst z;rw [n] at mu;exact mu
 have hb:∀b,H b=none->b≠e:=fun b n z=>by
  subst z
  rcases he with r|r
  ·exact hx b n r
  ·rw [n] at r;cases r
 have hm:∀b u,H b=some u->¬Mut (some u)->b≠x:=fun b u q nm z=>by subst z;rw [q] at mu;exact nm mu
 refine ⟨fun b u q n _ _=>k b u (hb b n) q,fun b u q n _ _=>⟨u.slots,k b u (hb b n) q⟩,fun b u q n _=>by rw [zH (hx b n)];exact n,fun b u q _=>?_,
  fun b xs q=>by rw [zH (hm b _ q fun z=>z)];exact q,fun b u xs q=>by rw [zH (hm b _ q fun z=>z)];exact q,fun b ps q=>⟨#[],by rw [zH (hm b _ q fun z=>z),q];simp⟩⟩
 by_cases hbe:b=e
 ·subst hbe;exact heo
 ·exact ⟨u,k b u hbe q⟩
end
def trk (h:Heap)(H:Hp):List Addr:=(List.range h.objs.size).filter fun a=>(H a).isSome
def ycj (h:Heap)(H:Hp):Heap:=PySem.W.hideAll h (trk h H)
theorem zkK (h:Heap)(H:Hp):(ycj h H).objs.size=h.objs.size:=PySem.W.hideAll_size _ _
theorem zlY {h:Heap}{H:Hp}{b:Addr}{o:Obj}(e:h.get? b=some o)(n:H b=none):(ycj h H).get? b=some o :=
 PySem.W.hideAll_get _ e fun hm=>by
  have q:(H b).isSome=true:=(List.mem_filter.mp hm).2
  rw [n] at q;simp at q
theorem znF {h:Heap}{H:Hp}{b:Addr}{o:Obj}(e:(ycj h H).get? b=some o):h.get? b=some o/\H b=none:=by
 have e':h.get? b=some o:=PySem.W.of_hideAll (trk h H) e
 refine ⟨e',?_⟩
 cases q:H b with
 |none=>rfl
 |some x =>
  have hm:b∈trk h H:=List.mem_filter.mpr ⟨List.mem_range.mpr (Heap.lt_size e'),by simp [q]⟩
  have z:(ycj h H).get? b=none:=PySem.W.hideAll_none (trk h H) hm
  rw [z] at e;cases e
structure Mod (K:PySem.W.Frag)(mg:Str->Option Value)(base:Heap):Prop where
 kin:K.In base
 glob:base.Ns mainGlobals mg
 blt:∃mb,base.Ns builtinsNs mb/\∀x:Str,x ≠ "__name__"->mb x=bootBuiltins x
 nolimit:base.NoLimit
structure Cx where
 prog:Program
 w:World
 K:PySem.W.Frag
 mg:Str->Option Value
 base:Heap
 A:Around
 N:List Str
 s₀:Shared
 H₀:Hp
 env:Env
 outer:List Env
 stack:List Env
 ex:List Addr
 fn:Str->Bool
 calm:Bool
 pn:List (Addr×Obj)
 xe:Value->Shared->Prop
def frs (l:List Env):List Addr:=l.filterMap (·.frame)
abbrev Cx.fs (X:Cx):List Addr:=frs X.outer
def Vis (sc:Scope)(x:Str):Prop:=sc.names.lookup x=some .local \/ sc.names.lookup x=some .cell \/ sc.names.lookup x=some .free
def Loc (sc:Scope)(x:Str):Prop:=sc.names.lookup x=some .local \/ sc.names.lookup x=some .cell
def Look (env:Env)(h:Heap)(m:Str->Option Value)(x:Str)(u:Value):Prop :=
 (env.kindOf x=some .local/\m x=some u) \/ ((env.kindOf x=some .cell \/ env.kindOf x=some .free)/\∃c,env.cells.lookup x=some c/\h.IsCell c (some u))
structure Cx.Ok (X:Cx):Prop where
 mod:Mod X.K X.mg X.base
 kind:X.env.scope.kind=.function
 glob:X.env.globals=mainGlobals
 blt:X.env.builtins=builtinsNs
 above:X.s₀.heap.objs.size<=X.env.locals
 inj:∀x y c,X.env.cells.lookup x=some c->X.env.cells.lookup y=some c->x=y
 has:∀x,(X.env.kindOf x=some .cell \/ X.env.kindOf x=some .free)->∃c,X.env.cells.lookup x=some c
 cab:∀x c,X.fn x=true->X.env.cells.lookup x=some c->X.s₀.heap.objs.size<=c
 hd:X.calm=true->X.A.handled=none
 frames:X.A.frames=some X.stack
 stk:X.stack=X.outer \/ (X.stack=X.env::X.outer/\X.env.frame=some X.env.locals)
 exf:∀b∈X.ex,b≠X.env.locals/\∀x c,X.env.cells.lookup x=some c->c≠b
 bs:∀b o,X.base.get? b=some o->X.s₀.heap.get? b=some o/\X.H₀ b=none
 bsz:X.base.objs.size<=X.s₀.heap.objs.size
 noex:∀b o,X.base.get? b=some o->b∉X.ex
 exfs:∀b∈X.ex,b∉X.fs
 funs:X.s₀.heap.FunFrames X.base X.outer
 frf:∀b∈X.fs,X.H₀ b=none
structure Inv (X:Cx)(pins:List (Addr×Obj))(σ:List (Option V))(H:Hp)(s:Shared):Prop where
 ok:X.Ok
 os:s.os=X.s₀.os
 bare:AllBare s.gens
 base:Un X.fs X.ex X.H₀ H X.s₀.heap s.heap
 loc:∃m,s.heap.Ns X.env.locals m/\∀(i:Nat) (x:Str) (v:V),X.N[i]?=some x->σ[i]?=some (some v)->Vis X.env.scope x->∃u,RelV v u/\Look X.env s.heap m x u
 cell:∀x c,X.env.cells.lookup x=some c->∃v,s.heap.IsCell c v
 free:H X.env.locals=none
 freeC:∀x c,X.env.cells.lookup x=some c->H c=none
 pin:∀p∈X.pn++pins,s.heap.get? p.1=some p.2/\H p.1=none/\p.1≠X.env.locals/\p.1∉X.fs/\∀v,p.2.data ≠ .cell v
 hok:HOk X.prog X.w H s.heap
 len:σ.length=X.N.length
section
variable {X:Cx}{pins:List (Addr×Obj)}{σ:List (Option V)}{H H':Hp}{s:Shared}{h':Heap}
theorem Cx.Ok.nofr (ok:X.Ok){b:Addr}{o:Obj}(e:X.base.get? b=some o):b∉X.fs:=fun hb=>by
 have:=(ok.funs.mem hb).1
 rw [e] at this;cases this
theorem Inv.bs (I:Inv X pins σ H s):∀b o,X.base.get? b=some o->s.heap.get? b=some o/\H b=none:=fun b o e =>
 ⟨I.base.keep b o (I.ok.bs b o e).1 (I.ok.bs b o e).2 (I.ok.nofr e) (I.ok.noex b o e),I.base.free b o (I.ok.bs b o e).1 (I.ok.bs b o e).2 (I.ok.noex b o e)⟩
theorem Inv.bk (I:Inv X pins σ H s):∀b o,X.base.get? b=some o->s.heap.get? b=some o:=fun b o e=>(I.bs b o e).1
theorem Inv.mod (I:Inv X pins σ H s):Mod X.K X.mg X.base:=I.ok.mod
theorem Inv.kIn (I:Inv X pins σ H s):X.K.In s.heap:=I.ok.mod.kin.keeps I.bk
theorem Inv.lt (I:Inv X pins σ H s):X.env.locals<s.heap.objs.size:=let ⟨_,hn,_⟩:=I.loc;hn.lt
theorem Inv.sz (I:Inv X pins σ H s):X.s₀.heap.objs.size<=s.heap.objs.size:=Nat.le_trans I.ok.above (Nat.le_of_lt I.lt)
theorem Inv.nofs (I:Inv X pins σ H s){a:Addr}(h:s.heap.objs.size<=a):a∉X.fs:=fun hb=>by
 obtain ⟨_,o,ho,_⟩:=I.ok.funs.mem hb
 exact absurd (Nat.lt_of_lt_of_le (Heap.lt_size ho) (Nat.le_trans I.sz h)) (Nat.lt_irrefl _)
theorem Inv.cne (I:Inv X pins σ H s):∀x c,X.env.cells.lookup x=some c->c≠X.env.locals:=fun x c e z=>by
 obtain ⟨v,o,ho,hd⟩:=I.cell x c e
 obtain ⟨m,⟨o',es,ep,ho',hd',_⟩,_⟩:=I.loc
 rw [z,ho'] at ho;cases ho;rw [hd'] at hd;cases hd
theorem Inv.funs (I:Inv X pins σ H s):s.heap.FunFrames X.base X.outer:=by
 have all:∀(l:List Env),(∀b∈frs l,b∈X.fs)->X.s₀.heap.FunFrames X.base l->s.heap.FunFrames X.base l:=by
  intro l
  induction l with
  |nil=>intro _ _;trivial
  |cons env r ih =>
   intro hs hl
   obtain ⟨hk,⟨L,o,hf,hn,ho,hd⟩,hr⟩:=hl
   have hL:L∈X.fs:=hs L (by unfold frs;rw [List.filterMap_cons,hf];exact List.mem_cons_self)
   obtain ⟨sl,e⟩:=I.base.slot L o ho (I.ok.frf L hL) hL fun z=>I.ok.exfs L z hL
   exact ⟨hk,⟨L,_,hf,hn,e,hd⟩,ih (fun b hb=>hs b (by unfold frs;rw [List.filterMap_cons,hf];exact List.mem_cons_of_mem _ hb)) hr⟩
 exact all X.outer (fun _ hb=>hb) I.ok.funs
theorem Inv.stack (I:Inv X pins σ H s):s.heap.FunFrames X.base X.stack:=by
 rcases I.ok.stk with e|⟨e,hf⟩
 ·rw [e];exact I.funs
 ·rw [e]
  obtain ⟨m,hn,_⟩:=I.loc
  refine .cons (by rw [I.ok.kind];decide) hf hn ?_ I.funs
  exact Heap.get?_none_of_le (Nat.le_trans I.ok.bsz I.ok.above)
theorem Inv.stkSub (I:Inv X pins σ H s):∀b∈frs X.stack,b∈X.env.locals::X.fs:=fun b hb=>by
 rcases I.ok.stk with e|⟨e,hf⟩
 ·rw [e] at hb;exact List.mem_cons_of_mem _ hb
 ·rw [e] at hb
  unfold frs at hb
  rw [List.filterMap_cons,hf] at hb
  exact hb
theorem Inv.stkFree (I:Inv X pins σ H s):∀b∈frs X.stack,H b=none:=fun b hb=>by
 rcases List.mem_cons.mp (I.stkSub b hb) with e|hb
 ·rw [e];exact I.free
 ·obtain ⟨_,o,ho,_⟩:=I.ok.funs.mem hb
  exact I.base.free b o ho (I.ok.frf b hb) fun z=>I.ok.exfs b z hb
theorem Inv.step {g':Array GenState}{t':Nat}{d':Drawn}{ch:List Addr}(I:Inv X pins σ H s)
  (hch:∀b∈ch,(b∈X.ex \/ X.s₀.heap.objs.size<=b)/\b≠X.env.locals/\(∀x c,X.env.cells.lookup x=some c->c≠b)/\∀p∈X.pn++pins,p.1≠b)
  (keep:∀b o,b≠X.env.locals->b∉X.fs->b∉ch->s.heap.get? b=some o->H b=none->h'.get? b=some o)
  (slot:∀b o,b≠X.env.locals->b∈X.fs->b∉ch->s.heap.get? b=some o->H b=none->∃sl,h'.get? b=some { o with slots:=sl }) (free:∀b o,b∉ch->s.heap.get? b=some o->H b=none->H' b=none)
  (there:∀b o,b∉ch->s.heap.get? b=some o->∃o',h'.get? b=some o')
  (tups:∀b xs,H b=some (.tup xs)->H' b=some (.tup xs)) (frzs:∀b o u,H b=some (.frz o u)->H' b=some (.frz o u)) (tbls:∀b ps,H b=some (.tbl ps)->∃more,H' b=some (.tbl (ps++more)))
  (ns:∀m,s.heap.Ns X.env.locals m->h'.Ns X.env.locals m) (hok:HOk X.prog X.w H' h') (hg:AllBare g') :
  Inv X pins σ H' { s with heap:=h',gens:=g',drawn:=d',toks:=t' }:=by
 have neL:∀b o,X.s₀.heap.get? b=some o->b≠X.env.locals:=fun b o e=>Nat.ne_of_lt (Nat.lt_of_lt_of_le (Heap.lt_size e) I.ok.above)
 have neC:∀b o,X.s₀.heap.get? b=some o->b∉X.ex->b∉ch:=fun b o e hx hb=>by
  rcases (hch b hb).1 with z|z
  ·exact hx z
  ·exact absurd (Nat.lt_of_lt_of_le (Heap.lt_size e) z) (Nat.lt_irrefl _)
 have cellK:∀x c,X.env.cells.lookup x=some c->∀v,s.heap.IsCell c v->h'.IsCell c v:=fun x c e v ⟨o,ho,hd⟩=>by
  have nch:c∉ch:=fun z=>(hch c z).2.2.1 x c e rfl
  by_cases hc:c∈X.fs
  ·obtain ⟨sl,q⟩:=slot c o (I.cne x c e) hc nch ho (I.freeC x c e)
   exact ⟨_,q,hd⟩
  ·exact ⟨o,keep c o (I.cne x c e) hc nch ho (I.freeC x c e),hd⟩
 refine ⟨I.ok,I.os,hg,⟨fun b o e n hb hx=>?_,fun b o e n hb hx=>?_,fun b o e n hx=>?_,fun b o e hx=>?_,fun b xs e=>tups b xs (I.base.tups b xs e),fun b o xs e=>frzs b o xs (I.base.frzs b o xs e),fun b ps e=>?_⟩,?_,fun x c e=>?_,?_,fun x c e=>?_,fun p hp=>?_,hok,I.len⟩
 ·exact keep b o (neL b o e) hb (neC b o e hx) (I.base.keep b o e n hb hx) (I.base.free b o e n hx)
 ·obtain ⟨sl,e1⟩:=I.base.slot b o e n hb hx
  obtain ⟨sl',e2⟩:=slot b _ (neL b o e) hb (neC b o e hx) e1 (I.base.free b o e n hx)
  exact ⟨sl',e2⟩
 ·obtain ⟨o',e1⟩:=I.base.there b o e hx
  exact free b o' (neC b o e hx) e1 (I.base.free b o e n hx)
 ·obtain ⟨o',e1⟩:=I.base.there b o e hx
  exact there b o' (neC b o e hx) e1
 ·obtain ⟨m1,e1⟩:=I.base.tbls b ps e
  obtain ⟨m2,e2⟩:=tbls b _ e1
  exact ⟨m1++m2,by rw [e2,Array.append_assoc]⟩
 ·obtain ⟨m,hn,hl⟩:=I.loc
  refine ⟨m,ns m hn,fun i x v e1 e2 e3=>?_⟩
  obtain ⟨u,r,l⟩:=hl i x v e1 e2 e3
  refine ⟨u,r,?_⟩
  rcases l with l|⟨k,c,e,z⟩
  ·exact .inl l
  ·exact .inr ⟨k,c,e,cellK x c e _ z⟩
 ·obtain ⟨v,z⟩:=I.cell x c e
  exact ⟨v,cellK x c e v z⟩
 ·obtain ⟨m,⟨o,_,_,ho,_⟩,_⟩:=I.loc
  exact free _ o (fun z=>(hch _ z).2.1 rfl) ho I.free
 ·obtain ⟨v,o,ho,hd⟩:=I.cell x c e
  exact free c o (fun z=>(hch c z).2.2.1 x c e rfl) ho (I.freeC x c e)
 ·obtain ⟨e,n,ne,nf,d⟩:=I.pin p hp
  have nch:p.1∉ch:=fun z=>(hch p.1 z).2.2.2 p hp rfl
  exact ⟨keep p.1 p.2 ne nf nch e n,free p.1 p.2 nch e n,ne,nf,d⟩
theorem Inv.un {t':Nat}(I:Inv X pins σ H s)(u:Un X.fs [] H H' s.heap h')(hok:HOk X.prog X.w H' h'):Inv X pins σ H' { s with heap:=h',toks:=t' }:=by
 obtain ⟨m,⟨o,es,ep,ho,r⟩,_⟩:=id I.loc
 obtain ⟨sl,hL⟩:=u.any ho I.free (by simp)
 exact I.step (g':=s.gens) (d':=s.drawn) (ch:=[]) (fun _ z=>nomatch z) (fun b o _ hb _ e n=>u.keep b o e n hb (by simp)) (fun b o _ hb _ e n=>u.slot b o e n hb (by simp)) (fun b o _ e n=>u.free b o e n (by simp)) (fun b o _ e=>u.there b o e (by simp)) u.tups u.frzs u.tbls (fun m' hm=>by
  obtain ⟨o',es',ep',ho',r'⟩:=hm
  rw [ho] at ho';cases ho'
  exact ⟨_,es',ep',hL,r'⟩) hok I.bare
theorem Inv.call {g':Array GenState}{t':Nat}{d':Drawn}{ch:List Addr}(I:Inv X pins σ H s)(u:Un (frs X.stack) ch H H' s.heap h')(hok:HOk X.prog X.w H' h')(hg:AllBare g')
  (hch:∀b∈ch,(b∈X.ex \/ X.s₀.heap.objs.size<=b)/\b≠X.env.locals/\(∀x c,X.env.cells.lookup x=some c->c≠b)/\∀p∈X.pn++pins,p.1≠b) :
  Inv X pins σ H' { s with heap:=h',gens:=g',drawn:=d',toks:=t' }:=by
 obtain ⟨m,⟨o,es,ep,ho,r⟩,_⟩:=id I.loc
 obtain ⟨sl,hL⟩:=u.any ho I.free fun z=>(hch _ z).2.1 rfl
 exact I.step (ch:=ch) hch (fun b o hL hb hc e n=>u.keep b o e n (fun z=>(List.mem_cons.mp (I.stkSub b z)).elim hL hb) hc) (fun b o _ _ hc e n=>u.any e n hc) (fun b o hc e n=>u.free b o e n hc) (fun b o hc e=>u.there b o e hc) u.tups u.frzs u.tbls (fun m' hm=>by
  obtain ⟨o',es',ep',ho',r'⟩:=hm
  rw [ho] at ho';cases ho'
  exact ⟨_,es',ep',hL,r'⟩) hok hg
theorem Inv.turned {t':Nat}{it:Addr}(I:Inv X pins σ H s)(k:∀b o,b≠it->s.heap.get? b=some o->h'.get? b=some o)(hn:H it=none)(hL:it≠X.env.locals)
  (h1:it∈X.ex \/ X.s₀.heap.objs.size<=it) (h2:∀x c,X.env.cells.lookup x=some c->c≠it) (h3:∀p∈X.pn++pins,p.1≠it):Inv X pins σ H { s with heap:=h',toks:=t' }:=by
 have nit:∀b u,H b=some u->b≠it:=fun b u e z=>by rw [z,hn] at e;cases e
 refine I.step (g':=s.gens) (d':=s.drawn) (ch:=[it]) (fun b hb=>?_) (fun b o _ _ hc e _=>k b o (fun z=>hc (by simp [z])) e) (fun b o _ _ hc e _=>⟨o.slots,k b o (fun z=>hc (by simp [z])) e⟩) (fun _ _ _ _ n=>n)
  (fun b o hc e=>⟨o,k b o (fun z=>hc (by simp [z])) e⟩) (fun _ _ e=>e) (fun _ _ _ e=>e) (fun b ps e=>⟨#[],by rw [e];simp⟩) (fun m hm=>?_) (fun b u e=>?_) I.bare
 ·have e:b=it:=by simpa using hb
  subst e
  exact ⟨h1,hL,h2,h3⟩
 ·obtain ⟨o,es,ep,ho,r⟩:=hm
  exact ⟨o,es,ep,k _ o (Ne.symm hL) ho,r⟩
 ·refine (I.hok b u e).stay (fun c v hc q=>k c v ?_ q) (fun _ q=>q) fun _ _ q=>q
  rcases hc with z|z
  ·rw [z];exact nit b u e
  ·exact nit c _ z
theorem Inv.tok (I:Inv X pins σ H s)(t:Nat):Inv X pins σ H { s with toks:=t }:=I.un (h':=s.heap) (t':=t) Un.refl I.hok
theorem Inv.kept {t':Nat}(I:Inv X pins σ H s)(k:∀b u,s.heap.get? b=some u->h'.get? b=some u):Inv X pins σ H { s with heap:=h',toks:=t' }:=I.un (Un.kept k) (I.hok.kept k)
theorem Inv.laid {a:Addr}{o:HO}{t':Nat}(I:Inv X pins σ H s)(k:∀b u,s.heap.get? b=some u->h'.get? b=some u)(hp:s.heap.objs.size<=a)(new:yI X.prog X.w (upd H a o) h' a o) :
  Inv X pins σ (upd H a o) { s with heap:=h',toks:=t' }:=I.un (Un.laid k hp (I.hok.fresh hp)) (I.hok.laid k hp new)
theorem Inv.write {x e:Addr}{o:HO}{t':Nat}(I:Inv X pins σ H s)(mu:Mut (H x))(he:e=x \/ H e=some (.own x))(k:∀b u,b≠e->s.heap.get? b=some u->h'.get? b=some u)(heo:∃u,h'.get? e=some u)
  (new:yI X.prog X.w (upd H x o) h' x o):Inv X pins σ (upd H x o) { s with heap:=h',toks:=t' }:=I.un (Un.write mu he k heo) (I.hok.write mu he k heo new)
theorem Inv.pins_of {pins':List (Addr×Obj)}(I:Inv X pins σ H s)(h:∀p∈pins',s.heap.get? p.1=some p.2/\H p.1=none/\p.1≠X.env.locals/\p.1∉X.fs/\∀v,p.2.data ≠ .cell v):Inv X pins' σ H s :=
 ⟨I.ok,I.os,I.bare,I.base,I.loc,I.cell,I.free,I.freeC,fun p hp=>(List.mem_append.mp hp).elim (fun z=>I.pin p (List.mem_append_left _ z)) (h p),I.hok,I.len⟩
theorem ziF {N:List Str}(hN:N.Nodup){i j:Nat}{x:Str}(a:N[i]?=some x)(b:N[j]?=some x):i=j:=by
 obtain ⟨h1,e1⟩:=List.getElem?_eq_some_iff.mp a
 obtain ⟨h2,e2⟩:=List.getElem?_eq_some_iff.mp b
 exact (List.getElem_inj hN).mp (e1.trans e2.symm)
theorem zkl {M:Model}{A:Around}{E:Value->Shared->Prop}{i:Nat}{x:Str}{v:V}{u:Value}{Q:Unit->Shared->Prop}(I:Inv X pins σ H s)(hN:X.N.Nodup)(hi:X.N[i]?=some x)(hx:Loc X.env.scope x)(r:RelV v u)
  (h:∀s',Inv X pins (σ.set i (some v)) H s'->(∃a,Heap.SameBut a s.heap s'.heap/\(a=X.env.locals \/ X.env.cells.lookup x=some a))->Q () s') (hf:X.fn x=true \/ X.env.scope.names.lookup x=some .local:=by first|exact .inl rfl|exact .inr rfl|assumption):wpAny M A (storeName X.env x u) Q E s:=by
 obtain ⟨m,hn,hl⟩:=id I.loc
 have hcls:(X.env.scope.kind == .class || (X.env.scope.kind == .module && X.env.locals != X.env.globals))=false:=by rw [I.ok.kind];rfl
 have hiσ:i<σ.length:=by rw [I.len];exact (List.getElem?_eq_some_iff.mp hi).1
 have cne:=I.cne
 have tracked:∀{a:Addr} {h':Heap},(∃o,s.heap.get? a=some o/\H a=none)->Heap.SameBut a s.heap h'->HOk X.prog X.w H h':=fun {a h'} ha hs b ob e=>by
  obtain ⟨_,_,hfree⟩:=ha
  refine (I.hok b ob e).stay (fun c w' hc q=>(hs.2 c ?_).trans q) (fun _ q=>q) fun _ _ q=>q
  rintro rfl
  rcases hc with rfl|hc
  ·rw [hfree] at e;cases e
  ·rw [hfree] at hc;cases hc
 rcases hx with hk|hk
 ·refine wpAny_storeName_local hk hn (fun h' hn' hs=>?_) hcls
  obtain ⟨oL,_,_,hoL,_⟩:=id hn
  refine h _ ⟨I.ok,I.os,I.bare,⟨fun b o e n hb hx=>?_,fun b o e n hb hx=>?_,I.base.free,fun b o e hx=>?_,I.base.tups,I.base.frzs,I.base.tbls⟩,⟨_,hn',fun j y v' e1 e2 e3=>?_⟩,fun y c e=>?_,I.free,I.freeC,fun p hp=>?_,tracked ⟨oL,hoL,I.free⟩ hs,by simpa using I.len⟩ ⟨_,hs,.inl rfl⟩
  ·exact (hs.2 b (Nat.ne_of_lt (Nat.lt_of_lt_of_le (Heap.lt_size e) I.ok.above))).trans (I.base.keep b o e n hb hx)
  ·obtain ⟨sl,e1⟩:=I.base.slot b o e n hb hx
   exact ⟨sl,(hs.2 b (Nat.ne_of_lt (Nat.lt_of_lt_of_le (Heap.lt_size e) I.ok.above))).trans e1⟩
  ·obtain ⟨o',e1⟩:=I.base.there b o e hx
   exact ⟨o',(hs.2 b (Nat.ne_of_lt (Nat.lt_of_lt_of_le (Heap.lt_size e) I.ok.above))).trans e1⟩
  ·by_cases hj:j=i
   ·subst hj
    rw [hi] at e1;cases e1
    rw [List.getElem?_set_self hiσ] at e2
    cases e2
    exact ⟨u,r,.inl ⟨hk,by simp⟩⟩
   ·rw [List.getElem?_set_ne (Ne.symm hj)] at e2
    obtain ⟨u',r',q⟩:=hl j y v' e1 e2 e3
    refine ⟨u',r',?_⟩
    rcases q with ⟨k,e⟩|⟨k,c,e,z⟩
    ·refine .inl ⟨k,?_⟩
     have:y≠x:=fun e=>hj (ziF hN e1 (e ▸ hi))
     simp [this,e]
    ·exact .inr ⟨k,c,e,z.sameBut hs (cne y c e)⟩
  ·obtain ⟨w',z⟩:=I.cell y c e
   exact ⟨w',z.sameBut hs (cne y c e)⟩
  ·obtain ⟨e,n,ne,nf,d⟩:=I.pin p hp
   exact ⟨(hs.2 p.1 ne).trans e,n,ne,nf,d⟩
 ·have hfn:X.fn x=true:=by
   rcases hf with z|z
   ·exact z
   ·rw [z] at hk;cases hk
  obtain ⟨c,hc⟩:=I.ok.has x (.inl hk)
  obtain ⟨w',z⟩:=I.cell x c hc
  refine wpAny_storeName_cell I.ok.kind hk hc z (fun h' hc' hs=>?_)
  obtain ⟨oc,hoc,hocd⟩:=id z
  refine h { s with heap:=h' } ⟨I.ok,I.os,I.bare,⟨fun b o e n hb hx=>?_,fun b o e n hb hx=>?_,I.base.free,fun b o e hx=>?_,I.base.tups,I.base.frzs,I.base.tbls⟩,⟨m,hn.sameBut hs (Ne.symm (cne x c hc)),fun j y v' e1 e2 e3=>?_⟩,fun y c' e=>?_,I.free,I.freeC,fun p hp=>?_,tracked ⟨oc,hoc,I.freeC x c hc⟩ hs,by simpa using I.len⟩ ⟨c,hs,.inr hc⟩
  ·exact (hs.2 b (Nat.ne_of_lt (Nat.lt_of_lt_of_le (Heap.lt_size e) (I.ok.cab x c hfn hc)))).trans (I.base.keep b o e n hb hx)
  ·obtain ⟨sl,e1⟩:=I.base.slot b o e n hb hx
   exact ⟨sl,(hs.2 b (Nat.ne_of_lt (Nat.lt_of_lt_of_le (Heap.lt_size e) (I.ok.cab x c hfn hc)))).trans e1⟩
  ·obtain ⟨o',e1⟩:=I.base.there b o e hx
   exact ⟨o',(hs.2 b (Nat.ne_of_lt (Nat.lt_of_lt_of_le (Heap.lt_size e) (I.ok.cab x c hfn hc)))).trans e1⟩
  ·by_cases hj:j=i
   ·subst hj
    rw [hi] at e1;cases e1
    rw [List.getElem?_set_self hiσ] at e2
    cases e2
    exact ⟨u,r,.inr ⟨.inl hk,c,hc,hc'⟩⟩
   ·rw [List.getElem?_set_ne (Ne.symm hj)] at e2
    obtain ⟨u',r',q⟩:=hl j y v' e1 e2 e3
    refine ⟨u',r',?_⟩
    rcases q with q|⟨k,c',e,z'⟩
    ·exact .inl q
    ·refine .inr ⟨k,c',e,z'.sameBut hs ?_⟩
     rintro rfl
     exact hj (ziF hN e1 (I.ok.inj _ _ _ e hc ▸ hi))
  ·by_cases hcc:c'=c
   ·subst hcc;exact ⟨_,hc'⟩
   ·obtain ⟨w2,z2⟩:=I.cell y c' e
    exact ⟨w2,z2.sameBut hs hcc⟩
  ·obtain ⟨e,n,ne,nf,d⟩:=I.pin p hp
   refine ⟨(hs.2 p.1 ?_).trans e,n,ne,nf,d⟩
   intro q
   rw [q,hoc] at e
   have q':oc=p.2:=Option.some.inj e
   exact d w' (by rw [<- q'];exact hocd)
theorem zcj {M:Model}{A:Around}{E:Value->Shared->Prop}{i:Nat}{x:Str}{v:V}{u:Value}{Q:Unit->Shared->Prop}(I:Inv X pins σ H s)(hN:X.N.Nodup)(hi:X.N[i]?=some x)(hx:Loc X.env.scope x)(r:RelV v u)
  (h:∀s',Inv X pins (σ.set i (some v)) H s'->Q () s') (hf:X.fn x=true \/ X.env.scope.names.lookup x=some .local:=by first|exact .inl rfl|exact .inr rfl|assumption):wpAny M A (storeName X.env x u) Q E s :=
 zkl I hN hi hx r (fun s' I' _=>h s' I') hf
theorem Inv.call' {s':Shared}{ch:List Addr}(I:Inv X pins σ H s)(ho:s'.os=s.os)(u:Un (frs X.stack) ch H H' s.heap s'.heap)(hok:HOk X.prog X.w H' s'.heap)(hg:AllBare s'.gens)
  (hch:∀b∈ch,(b∈X.ex \/ X.s₀.heap.objs.size<=b)/\b≠X.env.locals/\(∀x c,X.env.cells.lookup x=some c->c≠b)/\∀p∈X.pn++pins,p.1≠b):Inv X pins σ H' s':=by
 obtain ⟨h',g',d',t',o'⟩:=s'
 have e:o'=s.os:=ho
 subst e
 exact I.call (g':=g') (t':=t') (d':=d') u hok hg hch
end
abbrev XK:=Value->Option Addr->Hp->Prop
abbrev St:=List (Option V)
abbrev VK:=V->Hp->Prop
abbrev TE:=St->Hp->VK->Prop
abbrev TT:=St->Hp->(Bool->Hp->Prop)->Prop
abbrev TA:=St->Hp->(List V->Hp->Prop)->Prop
structure Ends where
 nx:St->Hp->Prop
 rt:VK
 bk:St->Hp->Prop:=fun _ _=>False
 ct:St->Hp->Prop:=fun _ _=>False
abbrev TS:=Ends->St->Hp->Prop
def EP (X:Cx)(pins:List (Addr×Obj))(σ:St)(Q:VK)(u:Value)(s':Shared):Prop:=∃v H',Inv X pins σ H' s'/\RelV v u/\Q v H'
def TP (X:Cx)(pins:List (Addr×Obj))(σ:St)(Q:Bool->Hp->Prop)(b:Bool)(s':Shared):Prop:=∃H',Inv X pins σ H' s'/\Q b H'
def AP (X:Cx)(pins:List (Addr×Obj))(σ:St)(Q:List V->Hp->Prop)(us:List Value)(s':Shared):Prop:=∃vs H',Inv X pins σ H' s'/\Vals vs us/\Q vs H'
def SP (X:Cx)(pins:List (Addr×Obj))(D:Ends)(f:Flow)(s':Shared):Prop :=
 match f with
 | .next=>∃σ' H',Inv X pins σ' H' s'/\D.nx σ' H'
 | .brk=>∃σ' H',Inv X pins σ' H' s'/\D.bk σ' H'
 | .cont=>∃σ' H',Inv X pins σ' H' s'/\D.ct σ' H'
 | .ret u=>∃v σ' H',Inv X pins σ' H' s'/\RelV v u/\D.rt v H'
def PE (X:Cx)(e:Expr)(t:TE):Prop :=
 ∀(pins:List (Addr×Obj)) (s:Shared) (σ:St) (H:Hp) (Q:VK),Inv X pins σ H s->t σ H Q->wpAny (model X.prog X.w) X.A (eval e X.env) (EP X pins σ Q) X.xe s
def PT (X:Cx)(e:Expr)(t:TT):Prop :=
 ∀(pins:List (Addr×Obj)) (s:Shared) (σ:St) (H:Hp) (Q:Bool->Hp->Prop),Inv X pins σ H s->t σ H Q->wpAny (model X.prog X.w) X.A (isTrue e X.env (eval e X.env)) (TP X pins σ Q) X.xe s
def PW (X:Cx)(e:Expr)(t:TT):Prop :=
 ∀(whole:Sem Value) (pins:List (Addr×Obj)) (s:Shared) (σ:St) (H:Hp) (Q:Bool->Hp->Prop),Inv X pins σ H s->t σ H Q->wpAny (model X.prog X.w) X.A (isTrue e X.env whole) (TP X pins σ Q) X.xe s
theorem PW.pt {X:Cx}{e:Expr}{t:TT}(h:PW X e t):PT X e t:=h _
def PA (X:Cx)(es:List Expr)(t:TA):Prop :=
 ∀(pos:Pos) (pins:List (Addr×Obj)) (s:Shared) (σ:St) (H:Hp) (Q:List V->Hp->Prop),Inv X pins σ H s->t σ H Q->wpAny (model X.prog X.w) X.A (spliced (backTo pos (starEach es X.env))) (AP X pins σ Q) X.xe s
def PS (X:Cx)(st:Stmt)(t:TS):Prop :=
 ∀(pins:List (Addr×Obj)) (s:Shared) (σ:St) (H:Hp) (D:Ends),Inv X pins σ H s->t D σ H->wpAny (model X.prog X.w) X.A (exec st X.env) (SP X pins D) X.xe s
def PSs (X:Cx)(st:List Stmt)(t:TS):Prop :=
 ∀(pins:List (Addr×Obj)) (s:Shared) (σ:St) (H:Hp) (D:Ends),Inv X pins σ H s->t D σ H->wpAny (model X.prog X.w) X.A (execs st X.env) (SP X pins D) X.xe s
theorem thn {α:Type}{t:Sem α}{Q Q':α->Shared->Prop}{M:Model}{A:Around}{E:Value->Shared->Prop}{s:Shared}(h:wpAny M A t Q E s)(hQ:∀a s,Q a s->Q' a s):wpAny M A t Q' E s:=wpAny_mono h hQ fun _ _ x=>x
section
variable {X:Cx}
theorem bin {a b:Expr}{ta tb:TE}(ha:PE X a ta)(hb:PE X b tb){pins:List (Addr×Obj)}{s:Shared}{σ:St}{H:Hp}{R:V->V->Hp->Prop}(I:Inv X pins σ H s)(h:ta σ H fun x H1=>tb σ H1 fun y H2=>R x y H2)
  {α:Type} {Q:α->Shared->Prop} {f:Value->Value->Sem α}
  (hf:∀v u s2 x y H2,Inv X pins σ H2 s2->RelV x v->RelV y u->R x y H2->wpAny (model X.prog X.w) X.A (f v u) Q X.xe s2) :
  wpAny (model X.prog X.w) X.A (eval a X.env) (fun v s₁=>wpAny (model X.prog X.w) X.A (eval b X.env) (fun u s₂=>wpAny (model X.prog X.w) X.A (f v u) Q X.xe s₂) X.xe s₁) X.xe s:=by
 refine thn (ha pins s σ H _ I h) fun v s1 ⟨x,H1,I1,r1,q1⟩=>?_
 refine thn (hb pins s1 σ H1 _ I1 q1) fun u s2 ⟨y,H2,I2,r2,q2⟩=>?_
 exact hf v u s2 x y H2 I2 r1 r2 q2
def yfm (i:Nat):TE:=fun σ H Q=>∃v,σ[i]?=some (some v)/\Q v H
def tC (v:V):TE:=fun _ H Q=>Q v H
theorem zpp {i:Nat}{x:Str}{pos:Pos}(hN:X.N[i]?=some x)(hv:Vis X.env.scope x)(hd:(x == ("__debug__":Str))=false:=by decide)(hcd:(x == ("__classdict__":Str))=false:=by decide):PE X (.Name x pos) (yfm i):=by
 intro pins s σ H Q I h
 obtain ⟨v,e,h⟩:=h
 obtain ⟨m,hn,hl⟩:=I.loc
 obtain ⟨u,r,l⟩:=hl i x v hN e hv
 have fin:EP X pins σ Q u s:=⟨v,H,I,r,h⟩
 rcases l with ⟨hk,hm⟩|⟨hk,c,hc,hcell⟩
 ·exact wpAny_Name (wpAny_loadName_local I.ok.kind hk hn hm fin) hd
 ·rcases hk with hk|hk
  ·exact wpAny_Name (wpAny_loadName_cell I.ok.kind hk hc hcell fin) hd
  ·exact wpAny_Name (wpAny_loadName_free I.ok.kind hk hc hcell fin hcd) hd
theorem ycy {i j pos}:PE X (.Constant (.int i) j pos) (tC (.int i)):=fun _ _ _ H _ I h=>wpAny_Constant_int ⟨.int i,H,I.tok _,⟨_,rfl⟩,h⟩
theorem yeu {b j pos}:PE X (.Constant (.bool b) j pos) (tC (.bl b)):=fun _ _ _ H _ I h=>Constant_bool ⟨.bl b,H,I,rfl,h⟩
theorem ycY {j pos}:PE X (.Constant .none j pos) (tC .non):=fun _ _ _ H _ I h=>Constant_none ⟨.non,H,I,rfl,h⟩
theorem yb3 {x j pos}:PE X (.Constant (.str x) j pos) (tC (.str x)):=fun _ _ _ H _ I h=>Calls.Constant_str ⟨.str x,H,I.tok _,⟨_,rfl⟩,h⟩
def Gl (X:Cx)(x:Str):Prop:=X.env.kindOf x=some .globalImplicit
theorem zeT {E:Value->Shared->Prop}{pins:List (Addr×Obj)}{s:Shared}{σ:St}{H:Hp}{x:Str}{u:Value}{pos:Pos}{Q:Value->Shared->Prop}(I:Inv X pins σ H s)(hg:Gl X x)(hm:X.mg x=some u)(h:Q u s)
  (hd:(x == ("__debug__":Str))=false:=by decide):wpAny (model X.prog X.w) X.A (eval (.Name x pos) X.env) Q E s :=
 Calls.Name_function_global I.ok.kind hg (Calls.loadGlobal_global (by rw [I.ok.glob];exact I.mod.glob.keeps I.bk) hm h) hd
theorem zgv {E:Value->Shared->Prop}{pins:List (Addr×Obj)}{s:Shared}{σ:St}{H:Hp}{x:Str}{u:Value}{pos:Pos}{Q:Value->Shared->Prop}(I:Inv X pins σ H s)(hg:Gl X x)(hm:X.mg x=none)(hv:bootBuiltins x=some u)(h:Q u s)
  (hn:x ≠ "__name__":=by decide) (hd:(x == ("__debug__":Str))=false:=by decide):wpAny (model X.prog X.w) X.A (eval (.Name x pos) X.env) Q E s:=by
 obtain ⟨mb,h1,h2⟩:=I.mod.blt
 exact Calls.Name_function_global I.ok.kind hg (Calls.loadGlobal_builtin (by rw [I.ok.glob];exact I.mod.glob.keeps I.bk) hm (by rw [I.ok.blt];exact h1.keeps I.bk) ((h2 x hn).trans hv) h) hd
theorem zin {x:Str}{v:V}{u:Value}{pos:Pos}(hg:Gl X x)(hm:X.mg x=some u)(r:RelV v u)(hd:(x == ("__debug__":Str))=false:=by decide):PE X (.Name x pos) (tC v) :=
 fun _ _ _ H _ I h=>zeT I hg hm ⟨v,H,I,r,h⟩ hd
theorem zkH {x:Str}{v:V}{u:Value}{pos:Pos}(hg:Gl X x)(hm:X.mg x=none)(hv:bootBuiltins x=some u)(r:RelV v u)(hn:x ≠ "__name__":=by decide)(hd:(x == ("__debug__":Str))=false:=by decide):PE X (.Name x pos) (tC v) :=
 fun _ _ _ H _ I h=>zgv I hg hm hv ⟨v,H,I,r,h⟩ hn hd
variable {a b:Expr}{ta tb:TE}{pos:Pos}
variable {tA tB':TT}{rest:List Expr}
def yfd (t u:TT):TT:=fun σ H Q=>t σ H fun c H1=>if c=true then u σ H1 Q else Q false H1
def tOr (t u:TT):TT:=fun σ H Q=>t σ H fun c H1=>if c=true then Q true H1 else u σ H1 Q
def yff (t:TT):TT:=fun σ H Q=>t σ H fun c H1=>Q (!c) H1
theorem zog (ha:PT X a tA):PW X (.BoolOp .And [a] pos) tA:=by
 intro wh pins s σ H Q I h
 refine isTrue_and (thn (ha pins s σ H Q I h) fun c s1 e=>?_)
 cases c with
 |true=>exact isTrue_and_nil e
 |false=>exact e
theorem zoE (ha:PT X a tA):PW X (.BoolOp .Or [a] pos) tA:=by
 intro wh pins s σ H Q I h
 refine isTrue_or (thn (ha pins s σ H Q I h) fun c s1 e=>?_)
 cases c with
 |false=>exact isTrue_or_nil e
 |true=>exact e
theorem zoR (ha:PT X a tA)(hb:PW X (.BoolOp .And (b::rest) pos) tB'):PW X (.BoolOp .And (a::b::rest) pos) (yfd tA tB'):=by
 intro wh pins s σ H Q I h
 refine isTrue_and (thn (ha pins s σ H _ I h) fun c s1 ⟨H1,I1,q1⟩=>?_)
 cases c with
 |true=>exact hb wh pins s1 σ H1 Q I1 q1
 |false=>exact ⟨H1,I1,q1⟩
theorem zpH (ha:PT X a tA)(hb:PW X (.BoolOp .Or (b::rest) pos) tB'):PW X (.BoolOp .Or (a::b::rest) pos) (tOr tA tB'):=by
 intro wh pins s σ H Q I h
 refine isTrue_or (thn (ha pins s σ H _ I h) fun c s1 ⟨H1,I1,q1⟩=>?_)
 cases c with
 |true=>exact ⟨H1,I1,q1⟩
 |false=>exact hb wh pins s1 σ H1 Q I1 q1
theorem zoO (ha:PT X a tA):PT X (.UnaryOp .Not a pos) (yff tA):=by
 intro pins s σ H Q I h
 exact isTrue_not (ha pins s σ H (fun c H1=>Q (!c) H1) I h)
def yeC (ta tb:TE):TE:=fun σ H Q=>ta σ H fun x H1=>∃c,x=.bl c/\if c=true then tb σ H1 Q else Q (.bl false) H1
def yft (ta tb:TE):TE:=fun σ H Q=>ta σ H fun x H1=>∃c,x=.bl c/\if c=true then Q (.bl true) H1 else tb σ H1 Q
def yeg (ta:TE):TE:=fun σ H Q=>ta σ H fun x H1=>∃c,x=.bl c/\Q (.bl (!c)) H1
theorem zoL {op}{t:TE}(h:PE X a t):PE X (.BoolOp op [a] pos) t:=fun pins s σ H Q I hw=>BoolOp_one (h pins s σ H Q I hw)
theorem zpj (ha:PE X a ta)(hb:PE X (.BoolOp .And (b::rest) pos) tb):PE X (.BoolOp .And (a::b::rest) pos) (yeC ta tb):=by
 intro pins s σ H Q I h
 refine BoolOp_and (thn (ha pins s σ H _ I h) fun v s1 ⟨x,H1,I1,r1,q1⟩=>?_)
 obtain ⟨c,rfl,q1⟩:=q1
 cases r1
 refine wpAny_truthy_bool ?_
 cases c with
 |true=>exact hb pins s1 σ H1 Q I1 q1
 |false=>exact ⟨.bl false,H1,I1,rfl,q1⟩
theorem zpu (ha:PE X a ta)(hb:PE X (.BoolOp .Or (b::rest) pos) tb):PE X (.BoolOp .Or (a::b::rest) pos) (yft ta tb):=by
 intro pins s σ H Q I h
 refine BoolOp_or (thn (ha pins s σ H _ I h) fun v s1 ⟨x,H1,I1,r1,q1⟩=>?_)
 obtain ⟨c,rfl,q1⟩:=q1
 cases r1
 refine wpAny_truthy_bool ?_
 cases c with
 |false=>exact hb pins s1 σ H1 Q I1 q1
 |true=>exact ⟨.bl true,H1,I1,rfl,q1⟩
theorem zoT (ha:PE X a ta):PE X (.UnaryOp .Not a pos) (yeg ta):=by
 intro pins s σ H Q I h
 refine UnaryOp_ (thn (ha pins s σ H _ I h) fun v s1 ⟨x,H1,I1,r1,q1⟩=>?_)
 obtain ⟨c,rfl,q1⟩:=q1
 cases r1
 exact not_of (wpAny_truthy_bool ⟨.bl (!c),H1,I1,rfl,q1⟩)
def tIf (t:TT)(ta tb:TE):TE:=fun σ H Q=>t σ H fun c H1=>if c=true then ta σ H1 Q else tb σ H1 Q
theorem zmy {c:Expr}(hc:PT X c tA)(ha:PE X a ta)(hb:PE X b tb):PE X (.IfExp c a b pos) (tIf tA ta tb):=by
 intro pins s σ H Q I h
 refine wpAny_IfExp (thn (hc pins s σ H _ I h) fun d s1 ⟨H1,I1,q1⟩=>?_)
 cases d with
 |true=>exact ha pins s1 σ H1 Q I1 q1
 |false=>exact hb pins s1 σ H1 Q I1 q1
end
def SqL (K:PySem.W.Frag)(H:Hp)(a:Addr)(xs:List V):Prop :=
 Rd H a (.lst xs) \/
  ∃(o:Obj) (its:Array Value) (n:Nat),K.lookup a=some o/\o.cls=.type "list"/\o.dict=none/\o.data=.seq its n/\its.size<=sizeLine/\Vals xs its.toList
def SqT (K:PySem.W.Frag)(H:Hp)(a:Addr)(xs:List V):Prop :=
 Rd H a (.tup xs) \/
  ∃(o:Obj) (its:Array Value) (n:Nat),K.lookup a=some o/\o.cls=.type "tuple"/\o.data=.seq its n/\its.size<=sizeLine/\Vals xs its.toList
def yfh:Value->Option V
 | .none=>some .non
 | .bool b=>some (.bl b)
 | .int i _=>some (.int i)
 | .str x _=>some (.str x)
 | .bytes b _=>some (.byt b)
 | .float b _=>some (.flt b)
 | .ref a=>some (.ref a)
 | .type n=>some (.ty n)
 |_=>none
theorem RelV.abs {x:V}{u:Value}(r:RelV x u):yfh u=some x:=by
 cases x with
 |non=>cases r;rfl
 |bl _=>cases r;rfl
 |int _=>obtain ⟨t,rfl⟩:=r;rfl
 |str _=>obtain ⟨t,rfl⟩:=r;rfl
 |byt _=>obtain ⟨t,rfl⟩:=r;rfl
 |flt _=>obtain ⟨t,rfl⟩:=r;rfl
 |ref _=>cases r;rfl
 |ty _=>cases r;rfl
theorem RelV.inj {x y:V}{u:Value}(r:RelV x u)(q:RelV y u):x=y:=Option.some.inj (r.abs.symm.trans q.abs)
theorem Vals.inj:∀{xs ys:List V} {us:List Value},Vals xs us->Vals ys us->xs=ys
 |_,_,_,.nil,.nil=>rfl
 |_,_,_,.cons r t,.cons r' t'=>by rw [r.inj r',Vals.inj t t']
section
variable {X:Cx}{pins:List (Addr×Obj)}{σ:St}{H:Hp}{s:Shared}{a:Addr}{xs ys:List V}
theorem SqL.of {K:PySem.W.Frag}(h:H a=some (.lst xs)):SqL K H a xs:=.inl (.inl h)
theorem Inv.list (I:Inv X pins σ H s)(h:SqL X.K H a xs):∃its:List Value,Vals xs its/\PlainL s.heap a its.toArray/\xs.length<=sizeLine:=by
 rcases h with h|⟨o,its,n,hk,hc,hd,hs,hz,r⟩
 ·obtain ⟨z,its,n,r,e⟩:=h.ok I.hok
  exact ⟨its,r,⟨_,n,e,rfl,rfl,rfl⟩,z⟩
 ·refine ⟨its.toList,r,⟨o,n,I.kIn a o hk,hc,hd,by simpa using hs⟩,?_⟩
  have e:=r.length
  simp only [Array.length_toList] at e
  omega
theorem Inv.tuple (I:Inv X pins σ H s)(h:SqT X.K H a xs):∃its:List Value,Vals xs its/\IsTup s.heap a its.toArray/\xs.length<=sizeLine:=by
 rcases h with h|⟨o,its,n,hk,hc,hs,hz,r⟩
 ·obtain ⟨z,its,r,p⟩:=h.ok I.hok
  exact ⟨its,r,p,z⟩
 ·refine ⟨its.toList,r,⟨o,I.kIn a o hk,hc,n,by simpa using hs⟩,?_⟩
  have e:=r.length
  simp only [Array.length_toList] at e
  omega
theorem Inv.list_inj (I:Inv X pins σ H s)(h:SqL X.K H a xs)(h':SqL X.K H a ys):xs=ys:=by
 obtain ⟨its,r,⟨o,n,e,_,_,d⟩,_⟩:=I.list h
 obtain ⟨its',r',⟨o',n',e',_,_,d'⟩,_⟩:=I.list h'
 rw [e] at e';cases e'
 rw [d] at d'
 injection d' with d1 _
 have:its=its':=by simpa using congrArg Array.toList d1
 subst this
 exact r.inj r'
theorem Inv.tuple_inj (I:Inv X pins σ H s)(h:SqT X.K H a xs)(h':SqT X.K H a ys):xs=ys:=by
 obtain ⟨its,r,⟨o,e,_,n,d⟩,_⟩:=I.tuple h
 obtain ⟨its',r',⟨o',e',_,n',d'⟩,_⟩:=I.tuple h'
 rw [e] at e';cases e'
 rw [d] at d'
 injection d' with d1 _
 have:its=its':=by simpa using congrArg Array.toList d1
 subst this
 exact r.inj r'
end
abbrev Cx.wish (X:Cx)(E:Value->Shared->Prop):Cx:={ X with xe:=E }
theorem Cx.Ok.wish {X:Cx}(ok:X.Ok)(E:Value->Shared->Prop):(X.wish E).Ok :=
 ⟨ok.mod,ok.kind,ok.glob,ok.blt,ok.above,ok.inj,ok.has,ok.cab,ok.hd,ok.frames,ok.stk,ok.exf,ok.bs,ok.bsz,ok.noex,ok.exfs,ok.funs,ok.frf⟩
theorem Cx.Ok.unwish {X:Cx}{E:Value->Shared->Prop}(ok:(X.wish E).Ok):X.Ok :=
 ⟨ok.mod,ok.kind,ok.glob,ok.blt,ok.above,ok.inj,ok.has,ok.cab,ok.hd,ok.frames,ok.stk,ok.exf,ok.bs,ok.bsz,ok.noex,ok.exfs,ok.funs,ok.frf⟩
section
variable {X:Cx}{pins:List (Addr×Obj)}{σ:St}{H:Hp}{s:Shared}{E:Value->Shared->Prop}
theorem Inv.wish (I:Inv X pins σ H s)(E:Value->Shared->Prop):Inv (X.wish E) pins σ H s:=⟨I.ok.wish E,I.os,I.bare,I.base,I.loc,I.cell,I.free,I.freeC,I.pin,I.hok,I.len⟩
theorem Inv.unwish (I:Inv (X.wish E) pins σ H s):Inv X pins σ H s:=⟨I.ok.unwish,I.os,I.bare,I.base,I.loc,I.cell,I.free,I.freeC,I.pin,I.hok,I.len⟩
end
section
variable {X:Cx}{st:Stmt}{rest:List Stmt}{t u:TS}{e:Expr}{te:TE}{pos:Pos}
def yed:TS:=fun D σ H=>D.nx σ H
def ye1 (t u:TS):TS:=fun D σ H=>t { D with nx:=u D } σ H
theorem ycJ:PSs X [] yed:=fun _ _ σ H _ I h=>wpAny_execs_nil ⟨σ,H,I,h⟩
theorem zmd (h1:PS X st t)(h2:PSs X rest u):PSs X (st::rest) (ye1 t u):=by
 intro pins s σ H D I h
 refine wpAny_execs_cons (thn (h1 pins s σ H { D with nx:=u D } I h) fun f s1 q=>?_)
 cases f with
 |next =>
  obtain ⟨σ',H',I',q⟩:=q
  exact h2 pins s1 σ' H' D I' q
 |ret v=>exact q
 |brk=>exact q
 |cont=>exact q
theorem Inv.quiet {pins:List (Addr×Obj)}{σ:St}{H:Hp}{s:Shared}(I:Inv X pins σ H s):interactive X.env=false:=by simp [interactive,I.ok.kind]
def yel (te:TE):TS:=fun D σ H=>te σ H fun _ H1=>D.nx σ H1
theorem zni (he:PE X e te)(hs:swapsWith e none pos.line X.env=pure false:=by rfl):PS X (.Expr e pos) (yel te):=by
 intro pins s σ H D I h
 exact wpAny_Expr_any (thn (he pins s σ H _ I h) fun v s1 ⟨x,H1,I1,r1,q1⟩=>⟨σ,H1,I1,q1⟩) I.quiet hs
def yfr (te:TE):TS:=fun D σ H=>te σ H D.rt
theorem zoJ (he:PE X e te):PS X (.Return (some e) pos) (yfr te):=by
 intro pins s σ H D I h
 exact wpAny_Return_some (thn (he pins s σ H _ I h) fun v s1 ⟨x,H1,I1,r1,q1⟩=>⟨x,σ,H1,I1,r1,q1⟩)
def ye8 (c:TT)(t u:TS):TS:=fun D σ H=>c σ H fun b H1=>if b=true then t D σ H1 else u D σ H1
theorem zpv {c:Expr}{a b:List Stmt}{tc:TT}(hc:PT X c tc)(ha:PSs X a t)(hb:PSs X b u):PS X (.If c a b pos) (ye8 tc t u):=by
 intro pins s σ H D I h
 refine wpAny_If (thn (hc pins s σ H _ I h) fun d s1 ⟨H1,I1,q1⟩=>?_)
 cases d with
 |true=>exact ha pins s1 σ H1 D I1 q1
 |false=>exact hb pins s1 σ H1 D I1 q1
end
abbrev TG:=V->St->Hp->(St->Hp->Prop)->Prop
abbrev TGs:=List V->St->Hp->(St->Hp->Prop)->Prop
def PG (X:Cx)(target:Expr)(t:TG):Prop :=
 ∀(pins:List (Addr×Obj)) (s:Shared) (σ:St) (H:Hp) (v:V) (u:Value) (Q:St->Hp->Prop),Inv X pins σ H s->RelV v u->t v σ H Q ->
  wpAny (model X.prog X.w) X.A (assign target X.env u) (fun _ s'=>∃σ' H',Inv X pins σ' H' s'/\Q σ' H') X.xe s
def PGs (X:Cx)(ts:List Expr)(t:TGs):Prop :=
 ∀(pins:List (Addr×Obj)) (s:Shared) (σ:St) (H:Hp) (vs:List V) (us:List Value) (Q:St->Hp->Prop),Inv X pins σ H s->Vals vs us->t vs σ H Q ->
  wpAny (model X.prog X.w) X.A (assignInOrder ((assignEach ts X.env).map (·.2)) us) (fun _ s'=>∃σ' H',Inv X pins σ' H' s'/\Q σ' H') X.xe s
abbrev ydP:=V->V->V->Hp->(Hp->Prop)->Prop
def yef (X:Cx)(t:ydP):Prop :=
 ∀(pins:List (Addr×Obj)) (s:Shared) (σ:St) (H:Hp) (o i v:V) (ov iv u:Value) (Q:Hp->Prop),Inv X pins σ H s->RelV o ov->RelV i iv->RelV v u->t o i v H Q ->
  wpAny (model X.prog X.w) X.A (setItem ov iv u) (fun _ s'=>∃H',Inv X pins σ H' s'/\Q H') X.xe s
abbrev TIp:=V->V->Hp->VK->Prop
def PIp (X:Cx)(op:Operator)(t:TIp):Prop :=
 ∀(pins:List (Addr×Obj)) (s:Shared) (σ:St) (H:Hp) (x y:V) (v u:Value) (Q:VK),Inv X pins σ H s->RelV x v->RelV y u->t x y H Q ->
  wpAny (model X.prog X.w) X.A (inplaceOp op v u) (EP X pins σ Q) X.xe s
section
variable {X:Cx}{pos:Pos}
def yci (i:Nat):TG:=fun v σ H Q=>Q (σ.set i (some v)) H
theorem zls {i:Nat}{x:Str}(hN:X.N.Nodup)(hi:X.N[i]?=some x)(hx:Loc X.env.scope x)(hf:X.fn x=true \/ X.env.scope.names.lookup x=some .local:=by first|exact .inl rfl|exact .inr rfl|assumption):PG X (.Name x pos) (yci i):=by
 intro pins s σ H v u Q I r h
 exact wpAny_assign_Name (zcj I hN hi hx r (fun s' I'=>⟨_,H,I',h⟩) hf)
def yfE:TGs:=fun vs σ H Q=>vs=[]/\Q σ H
def yd5 (t:TG)(u:TGs):TGs:=fun vs σ H Q=>∃v r,vs=v::r/\t v σ H fun σ' H'=>u r σ' H' Q
theorem ybX:PGs X [] yfE:=by
 intro pins s σ H vs us Q I r h
 obtain ⟨e,h⟩:=h
 subst e
 cases r
 exact assignInOrder_nil ⟨σ,H,I,h⟩
theorem zha {e:Expr}{es:List Expr}{t:TG}{u:TGs}(h1:PG X e t)(h2:PGs X es u)
  (hs:(assignEach (e::es) X.env).map (·.2)=assign e X.env::(assignEach es X.env).map (·.2):=by rfl):PGs X (e::es) (yd5 t u):=by
 intro pins s σ H vs us Q I r h
 obtain ⟨v,vr,e1,h⟩:=h
 subst e1
 cases r with
 |cons r rr =>
  rw [hs]
  refine assignInOrder_cons (thn (h1 pins s σ H _ _ _ I r h) fun _ s1 ⟨σ1,H1,I1,q1⟩=>?_)
  exact h2 pins s1 σ1 H1 _ _ Q I1 rr q1
def yfq (K:PySem.W.Frag)(n:Nat)(t:TGs):TG:=fun v σ H Q=>∃a xs,v=.ref a/\SqT K H a xs/\xs.length=n/\t xs σ H Q
theorem zmN {es:List Expr}{k:Nat}{t:TGs}{n:Nat}(hc:X.calm=true)(h:PGs X es t)
  (hn:(assignEach es X.env).length=n:=by rfl) (hst:(assignEach es X.env).findIdx? (·.1)=none:=by rfl):PG X (.Tuple es k pos) (yfq X.K n t):=by
 intro pins s σ H v u Q I r hw
 obtain ⟨a,xs,e1,hq,hl,hw⟩:=hw
 subst e1
 cases r
 obtain ⟨its,rv,ht,hz⟩:=I.tuple hq
 refine assign_Tuple_tuple (I.ok.hd hc) ht (by simp [hn,<- hl,rv.length]) hst fun h' hx=>?_
 have I1:Inv X pins σ H { s with heap:=h' }:=I.kept (t':=s.toks) fun b o e=>hx b o (Nat.ne_of_lt (Heap.lt_size e)) e
 exact h pins _ σ H xs _ Q I1 (by simpa using rv) hw
def yc0 (to ti:TE)(t:ydP):TG:=fun v σ H Q=>to σ H fun o H1=>ti σ H1 fun i H2=>t o i v H2 fun H3=>Q σ H3
theorem zm1 {o i:Expr}{to ti:TE}{t:ydP}(ho:PE X o to)(hi:PE X i ti)(hs:yef X t)
  (ha:∀v,assign (.Subscript o i pos) X.env v=(do
   let ov <- holding [v] (eval o X.env)
   let iv <- holding [v,ov] (eval i X.env)
   standAt pos
   holding [v,ov,iv] (setItem ov iv v)
   release [v,ov,iv] []):=by intro _;rfl):PG X (.Subscript o i pos) (yc0 to ti t):=by
 intro pins s σ H v u Q I r h
 rw [ha]
 refine wpAny_bind (wpAny_holding (thn (ho pins s σ H _ I h) fun ov s1 ⟨x,H1,I1,r1,q1⟩=>?_))
 refine wpAny_bind (wpAny_holding (thn (hi pins s1 σ H1 _ I1 q1) fun iv s2 ⟨y,H2,I2,r2,q2⟩=>?_))
 refine wpAny_bind (wpAny_standAt (wpAny_bind (wpAny_holding (thn (hs pins s2 σ H2 x y v ov iv u _ I2 r1 r2 r q2) fun _ s3 ⟨H3,I3,q3⟩=>?_))))
 exact wpAny_release ⟨σ,H3,I3,q3⟩
def ydZ (te:TE)(g:TG):TS:=fun D σ H=>te σ H fun x H1=>g x σ H1 D.nx
theorem zlo {tg e:Expr}{te:TE}{g:TG}(he:PE X e te)(hg:PG X tg g)(hs:swapsWithSole [tg] e pos.line X.env=pure false:=by rfl)(hw:swappedStores [tg] e X.env=pure none:=by rfl)
  (h1:(assignEach [tg] X.env).map (·.2)=[assign tg X.env]:=by rfl):PS X (.Assign [tg] e pos) (ydZ te g):=by
 intro pins s σ H D I h
 refine wpAny_Assign_stores (thn (he pins s σ H _ I h) fun v s1 ⟨x,H1,I1,r1,q1⟩=>?_) hs hw
 rw [h1]
 exact thn (hg pins s1 σ H1 x v _ I1 r1 q1) fun _ s2 q=>q
theorem zpk {i:Nat}{x:Str}{e:Expr}{te:TE}{pos':Pos}(hN:X.N.Nodup)(hi:X.N[i]?=some x)(hx:Loc X.env.scope x)(he:PE X e te)(hs:swapsWith e (some (.Name x pos')) pos.line X.env=pure false:=by rfl)(hf:X.fn x=true \/ X.env.scope.names.lookup x=some .local:=by first|exact .inl rfl|exact .inr rfl|assumption) :
  PS X (.Assign [.Name x pos'] e pos) (ydZ te (yci i)):=by
 intro pins s σ H D I h
 refine wpAny_Assign_Name (thn (he pins s σ H _ I h) fun v s1 ⟨y,H1,I1,r1,q1⟩=>?_) hs
 exact zcj I1 hN hi hx r1 (fun s2 I2=>⟨_,H1,I2,q1⟩) hf
def yd3 (i j:Nat)(ta:TA):TS:=fun D σ H=>ta σ H fun vs H1=>∃v w,vs=[v,w]/\D.nx ((σ.set i (some v)).set j (some w)) H1
theorem zou {i j:Nat}{x y:Str}{a b:Expr}{ta:TA}{px py pt:Pos}{kt k2 pt2}(hc:X.calm=true)(hN:X.N.Nodup)(hi:X.N[i]?=some x)(hj:X.N[j]?=some y)(hij:i≠j)
  (hx:X.env.scope.names.lookup x=some .local) (hy:X.env.scope.names.lookup y=some .local) (ha:PA X [a,b] ta)
  (hw:swappedStores [.Tuple [.Name x px,.Name y py] kt pt] (.Tuple [a,b] k2 pt2) X.env=pure (some [x,y]))
  (hs:swapsWithSole [.Tuple [.Name x px,.Name y py] kt pt] (.Tuple [a,b] k2 pt2) pos.line X.env=pure false:=by rfl) :
  PS X (.Assign [.Tuple [.Name x px,.Name y py] kt pt] (.Tuple [a,b] k2 pt2) pos) (yd3 i j ta):=by
 intro pins s σ H D I h
 rw [exec_Assign_arm]
 refine wpAny_bind (wpAny_standAt ?_)
 rw [hs]
 refine wpAny_bind (wpAny_pure ?_)
 rw [if_neg (by decide)]
 refine wpAny_bind (Tuple_ (thn (ha _ pins s σ H _ I h) fun us s1 ⟨vs,H1,I1,r1,q1⟩=>?_))
 obtain ⟨v,w,e1,q1⟩:=q1
 subst e1
 obtain ⟨u1,u2,rfl,rv,rw'⟩:∃u1 u2,us=[u1,u2]/\RelV v u1/\RelV w u2:=by
  cases r1 with
  |cons p q =>
   cases q with
   |cons p' q' =>
    cases q'
    exact ⟨_,_,rfl,p,p'⟩
 refine wpAny_newObj_type ?_ (by show 2<=sizeLine;decide)
 have I2:Inv X pins σ H1 { s1 with heap:=s1.heap.push { cls:=.type "tuple",data:=.seq [u1,u2].toArray } }:=I1.kept (t':=s1.toks) fun b o e=>Heap.get?_push_of_some _ e
 rw [hw]
 refine wpAny_bind (wpAny_pure ?_)
 show wpAny (model X.prog X.w) X.A (do rule "assign.swapped-stores";let items <- unpackItems (.ref s1.heap.objs.size) 2 none;assignInOrder [fun v=>bindName X.env y v,fun v=>bindName X.env x v] items.reverse;pure Flow.next) _ _ _
 refine wpAny_bind (wpAny_rule (wpAny_bind (unpackItems_tuple (items:=#[u1,u2]) (I.ok.hd hc) (IsTup.new s1.heap _) fun h' hx'=>?_)))
 have I3:=I2.kept (h':=h') (t':=s1.toks) fun b o e=>hx' b o (Nat.ne_of_lt (Heap.lt_size e)) e
 show wpAny _ _ (assignInOrder [fun v=>bindName X.env y v,fun v=>bindName X.env x v] [u2,u1] >>= fun _=>pure Flow.next) _ _ _
 refine wpAny_bind (assignInOrder_cons (wpAny_bindName (zcj I3 hN hj (.inl hy) rw' (fun s2 I4=>?_) (.inr hy))))
 refine assignInOrder_cons (wpAny_bindName (zcj I4 hN hi (.inl hx) rv (fun s3 I5=>assignInOrder_nil (wpAny_pure ?_)) (.inr hx)))
 rw [List.set_comm _ _ (Ne.symm hij)] at I5
 exact ⟨_,H1,I5,q1⟩
def yfD (i:Nat)(te:TE)(ti:TIp):TS:=fun D σ H=>∃x,σ[i]?=some (some x)/\te σ H fun y H1=>ti x y H1 fun z H2=>D.nx (σ.set i (some z)) H2
theorem zos {i:Nat}{x:Str}{e:Expr}{te:TE}{op:Operator}{ti:TIp}{pos':Pos}(hN:X.N.Nodup)(hi:X.N[i]?=some x)(hx:Loc X.env.scope x)(he:PE X e te)(ho:PIp X op ti)(hf:X.fn x=true \/ X.env.scope.names.lookup x=some .local:=by first|exact .inl rfl|exact .inr rfl|assumption) :
  PS X (.AugAssign (.Name x pos') op e pos) (yfD i te ti):=by
 intro pins s σ H D I h
 obtain ⟨v,e1,h⟩:=h
 obtain ⟨m,hn,hl⟩:=I.loc
 have vis:Vis X.env.scope x:=by rcases hx with k|k;exact .inl k;exact .inr (.inl k)
 obtain ⟨u,r,l⟩:=hl i x v hi e1 vis
 refine wpAny_AugAssign_Name ?_
 have go:wpAny (model X.prog X.w) X.A (eval e X.env) (fun w s₂=>wpAny (model X.prog X.w) X.A (inplaceOp op u w) (fun r s₃=>wpAny (model X.prog X.w) X.A (storeName X.env x r) (fun _=>SP X pins D .next) X.xe s₃) X.xe s₂) X.xe s:=by
  refine thn (he pins s σ H _ I h) fun w s1 ⟨y,H1,I1,r1,q1⟩=>?_
  refine thn (ho pins s1 σ H1 v y u w _ I1 r r1 q1) fun z s2 ⟨zv,H2,I2,r2,q2⟩=>?_
  exact zcj I2 hN hi hx r2 (fun s3 I3=>⟨_,H2,I3,q2⟩) hf
 rcases l with ⟨hk,hm⟩|⟨hk,c,hc,hcell⟩
 ·exact wpAny_loadName_local I.ok.kind hk hn hm go
 ·rcases hk with hk|hk
  ·exact wpAny_loadName_cell I.ok.kind hk hc hcell go
  ·rcases hx with k|k
   ·have:X.env.scope.names.lookup x=some .free:=hk
    rw [k] at this;cases this
   ·have:X.env.scope.names.lookup x=some .free:=hk
    rw [k] at this;cases this
def ipI (f:Int->Int->Int):TIp:=fun x y H Q=>∃i j,x=.int i/\y=.int j/\Q (.int (f i j)) H
theorem zpl:PIp X .Add (ipI fun i j=>i+j):=by
 intro pins s σ H x y v u Q I r1 r2 h
 obtain ⟨i,j,e1,e2,q⟩:=h
 subst e1;subst e2
 obtain ⟨t,rfl⟩:=r1
 obtain ⟨t',rfl⟩:=r2
 exact iadd_int ⟨.int _,H,I.tok _,⟨_,rfl⟩,q⟩
end
section
variable {X:Cx}{pos:Pos}
def ydC (c:TT)(tb:TS):TS:=fun D σ H=>∃W:Nat->St->Hp->Prop,(∃m,W m σ H)/\∀m σ H,W m σ H ->
 c σ H fun b H1=>if b=true then ∃N:St->Hp->Prop,(∀σ' H',N σ' H'->∃m',m' < m/\W m' σ' H')/\tb { D with nx:=N,ct:=N,bk:=D.nx } σ H1 else D.nx σ H1
theorem zmE {c:Expr}{body:List Stmt}{tc:TT}{tb:TS}(hp:PassesOwn (model X.prog X.w) X.A X.env X.xe)(hc:PT X c tc)(hb:PSs X body tb):PS X (.While c body [] pos) (ydC tc tb):=by
 intro pins s σ H D I h
 obtain ⟨W,⟨m0,w0⟩,turn⟩:=h
 refine wpAny_While (codeAny_whileLoop (fun n s'=>∃σ' H',Inv X pins σ' H' s'/\W n σ' H') ?_ m0 ⟨σ,H,I,w0⟩)
 rintro n s1 ⟨σ1,H1,I1,w1⟩
 refine wpAny_passesOwn hp (thn (hc pins s1 σ1 H1 _ I1 (turn n σ1 H1 w1)) fun b s2 ⟨H2,I2,q2⟩=>?_)
 cases b with
 |true =>
  obtain ⟨N,hN,q2⟩:=q2
  rw [if_pos rfl]
  refine wpAny_passesOwn hp (thn (hb pins s2 σ1 H2 _ I2 q2) fun f s3 q3=>?_)
  cases f with
  |next =>
   obtain ⟨σ3,H3,I3,n3⟩:=q3
   obtain ⟨m',hm,w3⟩:=hN σ3 H3 n3
   exact ⟨m',hm,σ3,H3,I3,w3⟩
  |cont =>
   obtain ⟨σ3,H3,I3,n3⟩:=q3
   obtain ⟨m',hm,w3⟩:=hN σ3 H3 n3
   exact ⟨m',hm,σ3,H3,I3,w3⟩
  |brk=>exact q3
  |ret v=>exact q3
 |false =>
  rw [if_neg Bool.false_ne_true]
  exact wpAny_execs_nil ⟨σ1,H2,I2,q2⟩
end
structure It where
 go:Nat->Hp->Prop
 yld:Nat->Hp->V->Hp->Prop
 stop:Nat->Hp->Prop
def ybh (X:Cx)(pins:List (Addr×Obj))(H:Hp)(b:Addr):Prop :=
 H b=none/\b≠X.env.locals/\b∉X.fs/\(b∈X.ex \/ X.s₀.heap.objs.size<=b)/\(∀x c,X.env.cells.lookup x=some c->c≠b)/\∀p∈X.pn++pins,p.1≠b
theorem Inv.fpOk {X:Cx}{pins:List (Addr×Obj)}{σ:St}{H H':Hp}{s:Shared}{b:Addr}(I:Inv X pins σ H s)(hb:s.heap.objs.size<=b)(hn:H' b=none):ybh X pins H' b:=by
 refine ⟨hn,Nat.ne_of_gt (Nat.lt_of_lt_of_le I.lt hb),I.nofs hb,.inr (Nat.le_trans I.sz hb),fun x c e z=>?_,fun p hp z=>?_⟩
 ·obtain ⟨v,q⟩:=I.cell x c e
  exact absurd (Nat.lt_of_lt_of_le q.lt (by rw [z];exact hb)) (Nat.lt_irrefl _)
 ·exact absurd (Nat.lt_of_lt_of_le (Heap.lt_size (I.pin p hp).1) (by rw [z];exact hb)) (Nat.lt_irrefl _)
structure Turn (P:Program)(w:World)(K:PySem.W.Frag)(tg:Expr)(J:It)(fp:List Addr)(it:Addr)(tn:Nat->Heap->Prop):Prop where
 mem:it∈fp
 obj:∀i h,tn i h->∀b∈fp,∃o,h.get? b=some o/\∀v,o.data ≠ .cell v
 keep:∀i h h',tn i h->(∀b∈fp,∀o,h.get? b=some o->h'.get? b=some o)->tn i h'
 item:∀(X:Cx),X.prog=P->X.w=w->X.K=K->X.calm=true->∀(i:Nat) (pins:List (Addr×Obj)) (s:Shared) (σ:St) (H:Hp) (E:Value->Shared->Prop),Inv X pins σ H s->(∀b∈fp,ybh X pins H b)->tn i s.heap->J.go i H ->
  wpAny (model P w) X.A (pyNext (.ref it)) (fun r s1=>∃u,r=some u /\
   wpAny (model P w) X.A (letOwnedTupleGo tg (.ref it) u) (fun _ s2=>∃x H',Inv X pins σ H' s2/\RelV x u/\J.yld i H x H'/\tn (i+1) s2.heap/\∀b∈fp,H' b=none) E s1) E s
 done:∀(X:Cx),X.prog=P->X.w=w->X.K=K->X.calm=true->∀(i:Nat) (pins:List (Addr×Obj)) (s:Shared) (σ:St) (H:Hp) (E:Value->Shared->Prop),Inv X pins σ H s->(∀b∈fp,ybh X pins H b)->tn i s.heap->J.stop i H ->
  wpAny (model P w) X.A (pyNext (.ref it)) (fun r s1=>r=none/\Inv X pins σ H s1) E s
 self:∀(A:Around) (i:Nat) (s:Shared) (Q:Value->Shared->Prop) (E:Value->Shared->Prop),tn i s.heap->Q (.ref it) s->wpAny (model P w) A (pyIter (.ref it)) Q E s
abbrev TI:=St->Hp->(It->Hp->Prop)->Prop
def PIE (X:Cx)(pins:List (Addr×Obj))(σ:St)(tg:Expr)(R:It->Hp->Prop)(itv:Value)(s2:Shared):Prop :=
 ∃(it:Addr) (fp:List Addr) (tn:Nat->Heap->Prop) (J:It) (H':Hp),itv=.ref it/\Inv X pins σ H' s2/\Turn X.prog X.w X.K tg J fp it tn/\tn 0 s2.heap/\(∀b∈fp,ybh X pins H' b)/\R J H'
def PI (X:Cx)(tg iter:Expr)(wi:TI):Prop :=
 ∀(pins:List (Addr×Obj)) (s:Shared) (σ:St) (H:Hp) (R:It->Hp->Prop),Inv X pins σ H s->wi σ H R ->
  wpAny (model X.prog X.w) X.A (eval iter X.env) (fun v s1=>wpAny (model X.prog X.w) X.A (pyIter v) (PIE X pins σ tg R) X.xe s1) X.xe s
theorem znR {M:Model}{A:Around}{E:Value->Shared->Prop}{s:Shared}{tg:Expr}{it:Addr}{u:Value}{o:Obj}{n:String}{vs:Array Value}{Q:Unit->Shared->Prop}(ho:s.heap.get? it=some o)(hc:o.cls=.type n)(hd:o.data=.fields vs)
  (hn:["enumerate","zip","dict_itemiterator","dict_reverseitemiterator","odict_iterator","itertools.zip_longest","itertools.pairwise"].contains n=false) (hQ:Q () s):wpAny M A (letOwnedTupleGo tg (.ref it) u) Q E s:=by
 unfold letOwnedTupleGo
 cases tg <;> first
  | exact wpAny_pure hQ
  | (cases u <;> first
    | exact wpAny_pure hQ
    | (refine wpAny_bind (wpAny_load ho ?_)
       rw [hc,hd]
       show wpAny M A (if (["enumerate","zip","dict_itemiterator","dict_reverseitemiterator","odict_iterator","itertools.zip_longest","itertools.pairwise"].contains n && vs[0]? == some (rawInt _))=true then _ else _) Q E s
       rw [if_neg (by intro h;rw [hn,Bool.false_and] at h;cases h)]
       exact wpAny_pure hQ))
def Itl (K:PySem.W.Frag)(a:Addr):It :=
 ⟨fun i H=>∃xs x,SqL K H a xs/\xs[i]?=some x,fun i H x H'=>H'=H/\∀xs,SqL K H a xs->xs[i]?=some x,fun i H=>∃xs,SqL K H a xs/\xs.length<=i⟩
def Itt (K:PySem.W.Frag)(a:Addr):It :=
 ⟨fun i H=>∃xs x,SqT K H a xs/\xs[i]?=some x,fun i H x H'=>H'=H/\∀xs,SqT K H a xs->xs[i]?=some x,fun i H=>∃xs,SqT K H a xs/\xs.length<=i⟩
def Itr (lo:Int)(n:Nat):It:=⟨fun i _=>i<n,fun i H x H'=>H'=H/\x=.int (lo+i),fun i _=>n<=i⟩
theorem zj3 {P:Program}{w:World}{K:PySem.W.Frag}{tg:Expr}(a it:Addr):Turn P w K tg (Itl K a) [it] it (fun i h=>h.IsListIter it a i) where
 mem:=by simp
 obj:=fun i h st b hb=>by
  have e:b=it:=by simpa using hb
  subst e
  obtain ⟨o,e,c,d⟩:=st
  exact ⟨o,e,fun v z=>by rw [d] at z;cases z⟩
 keep:=fun i h h' st k=>st.at fun o e=>k it (by simp) o e
 item:=by
  intro X hP hw hK hc i pins s σ H E I hf st hg
  subst hP hw hK
  obtain ⟨xs,x,hq,hx⟩:=hg
  obtain ⟨its,rv,p,hz⟩:=I.list hq
  obtain ⟨u,hu,ru⟩:=rv.get hx
  obtain ⟨f0,f1,f2,f3,f4,f5⟩:=hf it (by simp)
  refine wpAny_pyNext_list_item st p.isList (x:=u) (by simpa using hu) fun h' st' sb=>?_
  have I1:Inv X pins σ H { s with heap:=h' }:=I.turned (t':=s.toks) (fun b o hb e=>(sb.2 b hb).trans e) f0 f1 f3 f4 f5
  obtain ⟨o,e,c,d⟩:=id st'
  exact ⟨u,rfl,znR (s:={ s with heap:=h' }) e c d (by decide) ⟨x,H,I1,ru,⟨rfl,fun ys hy=>by rw [I.list_inj hy hq];exact hx⟩,st',fun b hb=>(hf b hb).1⟩⟩
 done:=by
  intro X hP hw hK hc i pins s σ H E I hf st hg
  subst hP hw hK
  obtain ⟨xs,hq,hx⟩:=hg
  obtain ⟨its,rv,p,hz⟩:=I.list hq
  obtain ⟨f0,f1,f2,f3,f4,f5⟩:=hf it (by simp)
  have hl:=rv.length
  exact wpAny_pyNext_list_end (I.ok.hd hc) st p.isList (by simp;omega) fun h' eb=>⟨rfl,I.turned (t':=s.toks) (fun b o hb e=>eb b o hb e) f0 f1 f3 f4 f5⟩
 self:=fun _ _ _ _ _ st h=>wpAny_pyIter_listiter st h
theorem zjO {P:Program}{w:World}{K:PySem.W.Frag}{tg:Expr}(a it:Addr):Turn P w K tg (Itt K a) [it] it (fun i h=>h.IsTupleIter it a i) where
 mem:=by simp
 obj:=fun i h st b hb=>by
  have e:b=it:=by simpa using hb
  subst e
  obtain ⟨o,e,c,d⟩:=st
  exact ⟨o,e,fun v z=>by rw [d] at z;cases z⟩
 keep:=fun i h h' st k=>st.at fun o e=>k it (by simp) o e
 item:=by
  intro X hP hw hK hc i pins s σ H E I hf st hg
  subst hP hw hK
  obtain ⟨xs,x,hq,hx⟩:=hg
  obtain ⟨its,rv,p,hz⟩:=I.tuple hq
  obtain ⟨u,hu,ru⟩:=rv.get hx
  obtain ⟨f0,f1,f2,f3,f4,f5⟩:=hf it (by simp)
  refine wpAny_pyNext_tuple_item st (show s.heap.IsTuple a its.toArray from p) (x:=u) (by simpa using hu) fun h' st' sb=>?_
  have I1:Inv X pins σ H { s with heap:=h' }:=I.turned (t':=s.toks) (fun b o hb e=>(sb.2 b hb).trans e) f0 f1 f3 f4 f5
  obtain ⟨o,e,c,d⟩:=id st'
  exact ⟨u,rfl,znR (s:={ s with heap:=h' }) e c d (by decide) ⟨x,H,I1,ru,⟨rfl,fun ys hy=>by rw [I.tuple_inj hy hq];exact hx⟩,st',fun b hb=>(hf b hb).1⟩⟩
 done:=by
  intro X hP hw hK hc i pins s σ H E I hf st hg
  subst hP hw hK
  obtain ⟨xs,hq,hx⟩:=hg
  obtain ⟨its,rv,p,hz⟩:=I.tuple hq
  obtain ⟨f0,f1,f2,f3,f4,f5⟩:=hf it (by simp)
  have hl:=rv.length
  exact wpAny_pyNext_tuple_end (I.ok.hd hc) st (show s.heap.IsTuple a its.toArray from p) (by simp;omega) fun h' eb=>⟨rfl,I.turned (t':=s.toks) (fun b o hb e=>eb b o hb e) f0 f1 f3 f4 f5⟩
 self:=fun _ _ _ _ _ st h=>wpAny_pyIter_tupleiter st h
theorem zjx {P:Program}{w:World}{K:PySem.W.Frag}{tg:Expr}(it:Addr)(lo:Int)(n:Nat):Turn P w K tg (Itr lo n) [it] it (fun i h=>IsRangeIter h it (lo+(i:Nat)*1) ((n:Int) - (i:Nat)) 1) where
 mem:=by simp
 obj:=fun i h st b hb=>by
  have e:b=it:=by simpa using hb
  subst e
  exact ⟨_,st,fun v z=>by
   have z':Data.fields _=Data.cell v:=z
   cases z'⟩
 keep:=fun i h h' st k=>k it (by simp) _ st
 item:=by
  intro X hP hw hK hc i pins s σ H E I hf st hg
  subst hP hw hK
  obtain ⟨f0,f1,f2,f3,f4,f5⟩:=hf it (by simp)
  have W:=Walks.range (prog:=X.prog) (w:=X.w) (I.ok.hd hc) it lo 1 n
  refine W.item i s _ _ hg st fun v h' tk hv st' kk=>?_
  obtain ⟨t,rfl⟩:=hv
  have I1:Inv X pins σ H { s with heap:=h',toks:=tk }:=I.turned (fun b o hb e=>kk b o (by simpa using hb) e) f0 f1 f3 f4 f5
  refine ⟨_,rfl,znR (s:={ s with heap:=h',toks:=tk }) (n:="range_iterator") st' rfl rfl (by decide) ⟨.int (lo+i),H,I1,⟨t,?_⟩,⟨rfl,rfl⟩,st',fun b hb=>(hf b hb).1⟩⟩
  rw [Int.mul_one]
 done:=by
  intro X hP hw hK hc i pins s σ H E I hf st hg
  subst hP hw hK
  obtain ⟨f0,f1,f2,f3,f4,f5⟩:=hf it (by simp)
  exact wpAny_pyNext_range_end (I.ok.hd hc) st (by have:n<=i:=hg;omega) fun h' eb=>⟨rfl,I.turned (t':=s.toks) (fun b o hb e=>eb b o hb e) f0 f1 f3 f4 f5⟩
 self:=fun _ _ _ _ _ st h=>wpAny_pyIter_rangeiter st h
section
variable {X:Cx}{tg:Expr}
theorem zl5 {pins:List (Addr×Obj)}{σ:St}{H:Hp}{s:Shared}{R:It->Hp->Prop}{E:Value->Shared->Prop}{lo hi:Int}{t u v:Tok}{tk:Nat}(I:Inv X pins σ H s)(h1:-(2 ^ 62)<=lo)(h2:lo<2 ^ 62)(h3:-(2 ^ 62)<=hi)(h4:hi<2 ^ 62)
  (q:R (Itr lo (hi - lo).toNat) H):wpAny (model X.prog X.w) X.A (pyIter (.ref s.heap.objs.size)) (PIE X pins σ tg R) E { s with heap:=s.heap.push { cls:=.type "range",data:=.fields #[.int lo t,.int hi u,.int 1 v] },toks:=tk }:=by
 refine wpAny_pyIter_range (IsRange.new ..) (small_one h1 h2 h3 h4) ?_
 have I1:Inv X pins σ H { s with heap:=s.heap.push { cls:=.type "range",data:=.fields #[.int lo t,.int hi u,.int 1 v] },toks:=tk }:=I.kept fun b o e=>Heap.get?_push_of_some _ e
 refine ⟨(s.heap.push { cls:=.type "range",data:=.fields #[.int lo t,.int hi u,.int 1 v] }).objs.size,[(s.heap.push { cls:=.type "range",data:=.fields #[.int lo t,.int hi u,.int 1 v] }).objs.size],_,_,H,rfl,
  I1.kept (t':=tk) fun b o e=>Heap.get?_push_of_some _ e,zjx _ lo (hi - lo).toNat,?_,fun b hb=>?_,q⟩
 ·have e1:lo+((0:Nat):Int)*1=lo:=by simp
  have e2:(((hi - lo).toNat:Nat):Int) - ((0:Nat):Int)=Builtin.Range.rangeSize lo hi 1:=by rw [rangeSize_one];split <;> omega
  show IsRangeIter _ _ (lo+((0:Nat):Int)*1) ((((hi - lo).toNat:Nat):Int) - ((0:Nat):Int)) 1
  rw [e1,e2]
  exact Heap.get?_push_size _ rfl
 ·have e:b=(s.heap.push { cls:=.type "range",data:=.fields #[.int lo t,.int hi u,.int 1 v] }).objs.size:=by simpa using hb
  subst e
  exact I1.fpOk (Nat.le_refl _) (I1.hok.fresh (Nat.le_refl _))
def yd9 (ta:TA):TI:=fun σ H R=>ta σ H fun vs H1=>∃j:Int,vs=[.int j]/\-(2 ^ 62)<=j/\j<2 ^ 62/\R (Itr 0 j.toNat) H1
theorem zlk {a:Expr}{ta:TA}{p pos:Pos}(hg:Gl X "range")(hm:X.mg "range"=none)(ha:PA X [a] ta)(hs:starEach [a] X.env=[(false,eval a X.env)]:=by rfl):PI X tg (.Call (.Name "range" p) [a] [] pos) (yd9 ta):=by
 intro pins s σ H R I h
 refine Call_ (zgv I hg hm boot_range (PyProof.Rows.callWith_type1 (thn (ha pos pins s σ H _ I h) fun us s1 ⟨vs,H1,I1,r1,q1⟩=>?_) hs rfl))
 obtain ⟨j,e,q1,q2,q⟩:=q1
 subst e
 cases r1 with
 |cons r rr =>
  cases rr
  obtain ⟨t,rfl⟩:=r
  exact call_range_1 (zl5 I1 (by omega) (by omega) q1 q2 (by simpa using q))
def yfg (wi:TI)(g:TG)(tb:TS):TS:=fun D σ H=>wi σ H fun J H1=>∃W:Nat->Nat->St->Hp->Prop,(∃m,W 0 m σ H1)/\∀i m σ H,W i m σ H ->
 (J.stop i H/\D.nx σ H) \/ (J.go i H/\∃N:St->Hp->Prop,(∀σ' H',N σ' H'->∃m',m' < m/\W (i+1) m' σ' H')/\∀x H',J.yld i H x H'->g x σ H' fun σ2 H2=>tb { D with nx:=N,ct:=N,bk:=D.nx } σ2 H2)
def ybe (fp:List Addr)(h:Heap):List (Addr×Obj):=fp.filterMap fun b=>(h.get? b).map fun o=>(b,o)
theorem zdI {fp:List Addr}{h:Heap}{b:Addr}{o:Obj}(hb:b∈fp)(e:h.get? b=some o):(b,o)∈ybe fp h:=List.mem_filterMap.mpr ⟨b,hb,by rw [e];rfl⟩
theorem zkZ {fp:List Addr}{h:Heap}{p:Addr×Obj}(hp:p∈ybe fp h):p.1∈fp/\h.get? p.1=some p.2:=by
 obtain ⟨b,hb,e⟩:=List.mem_filterMap.mp hp
 cases q:h.get? b with
 |none=>rw [q] at e;cases e
 |some o =>
  rw [q] at e
  have e':(b,o)=p:=Option.some.inj e
  subst e'
  exact ⟨hb,q⟩
theorem Inv.pinned {pins:List (Addr×Obj)}{σ:St}{H:Hp}{s:Shared}{fp:List Addr}(I:Inv X pins σ H s)(hf:∀b∈fp,ybh X pins H b)(ho:∀b∈fp,∃o,s.heap.get? b=some o/\∀v,o.data ≠ .cell v):Inv X (pins++ybe fp s.heap) σ H s :=
 I.pins_of fun p hp=>(List.mem_append.mp hp).elim (fun z=>I.pin p (List.mem_append_right _ z)) fun z=>by
  obtain ⟨hb,e⟩:=zkZ z
  obtain ⟨f0,f1,f2,_⟩:=hf p.1 hb
  obtain ⟨o,e',d⟩:=ho p.1 hb
  rw [e] at e';cases e'
  exact ⟨e,f0,f1,f2,d⟩
theorem Inv.unpinned {pins pl:List (Addr×Obj)}{σ:St}{H:Hp}{s:Shared}(I:Inv X (pins++pl) σ H s):Inv X pins σ H s:=I.pins_of fun p hp=>I.pin p (List.mem_append_right _ (List.mem_append_left _ hp))
theorem zph {iter:Expr}{body:List Stmt}{wi:TI}{g:TG}{tb:TS}{pos:Pos}(hp:PassesOwn (model X.prog X.w) X.A X.env X.xe)(hc:X.calm=true)(hi:PI X tg iter wi)(hg:PG X tg g)(hb:PSs X body tb)
  (hs:∀x,foldedSetIterable iter X.env x=pure x:=by intro _;rfl):PS X (.For tg iter body [] pos) (yfg wi g tb):=by
 intro pins s σ H D I h
 refine wpAny_For (thn (hi pins s σ H _ I h) fun v s1 h1=>thn h1 fun itv s2 h2=>?_) hs
 obtain ⟨it,fp,tn,J,H2,e,I2,T,st2,f2,W,⟨m0,w0⟩,turn⟩:=h2
 subst e
 have stat:∀{H':Hp},(∀b∈fp,H' b=none)->∀b∈fp,ybh X pins H' b:=fun hn b hb=>⟨hn b hb,(f2 b hb).2⟩
 refine codeAny_forLoop_any (fun n s'=>∃i σ' H',Inv X pins σ' H' s'/\tn i s'.heap/\(∀b∈fp,H' b=none)/\W i n σ' H') ?_ m0 ⟨0,σ,H2,I2,st2,fun b hb=>(f2 b hb).1,w0⟩
 rintro n s3 ⟨i,σ3,H3,I3,st3,fr3,w3⟩
 rcases turn i n σ3 H3 w3 with ⟨stop,qn⟩|⟨go,N,hN,step⟩
 ·refine wpAny_passesOwn hp (thn (T.done X rfl rfl rfl hc i pins s3 σ3 H3 X.xe I3 (stat fr3) st3 stop) fun r s4 ⟨hr,I4⟩=>?_)
  subst hr
  exact wpAny_execs_nil ⟨σ3,H3,I4,qn⟩
 ·refine wpAny_passesOwn hp (thn (T.item X rfl rfl rfl hc i pins s3 σ3 H3 X.xe I3 (stat fr3) st3 go) fun r s4 ⟨u,hr,h4⟩=>?_)
  subst hr
  refine wpAny_passesOwn hp (thn h4 fun _ s5 ⟨x,H5,I5,r5,y5,st5,fr5⟩=>?_)
  have I5':=I5.pinned (stat fr5) (T.obj _ _ st5)
  refine wpAny_passesOwn hp (thn (hg _ s5 σ3 H5 x u _ I5' r5 (step x H5 y5)) fun _ s6 ⟨σ6,H6,I6,q6⟩=>?_)
  refine wpAny_passesOwn hp (thn (hb _ s6 σ6 H6 _ I6 q6) fun f s7 q7=>?_)
  have again:∀{σ7:St} {H7:Hp},Inv X (pins++ybe fp s5.heap) σ7 H7 s7->N σ7 H7->∃m,m<n/\∃i σ' H',Inv X pins σ' H' s7/\tn i s7.heap/\(∀b∈fp,H' b=none)/\W i m σ' H':=fun {σ7 H7} I7 n7=>by
   obtain ⟨m',hm,w7⟩:=hN σ7 H7 n7
   refine ⟨m',hm,i+1,σ7,H7,I7.unpinned,T.keep _ _ _ st5 fun b hb o e=>(I7.pin (b,o) (List.mem_append_right _ (List.mem_append_right _ (zdI hb e)))).1,fun b hb=>?_,w7⟩
   obtain ⟨o,e,d⟩:=T.obj _ _ st5 b hb
   exact (I7.pin (b,o) (List.mem_append_right _ (List.mem_append_right _ (zdI hb e)))).2.1
  cases f with
  |next=>obtain ⟨σ7,H7,I7,n7⟩:=q7;exact again I7 n7
  |cont=>obtain ⟨σ7,H7,I7,n7⟩:=q7;exact again I7 n7
  |brk=>obtain ⟨σ7,H7,I7,q7⟩:=q7;exact ⟨σ7,H7,I7.unpinned,q7⟩
  |ret v=>obtain ⟨x7,σ7,H7,I7,r7,q7⟩:=q7;exact ⟨x7,σ7,H7,I7.unpinned,r7,q7⟩
end
abbrev R2:=V->V->Hp->VK->Prop
def OpR (X:Cx)(f:Value->Value->Sem Value)(r:R2):Prop :=
 ∀(pins:List (Addr×Obj)) (s:Shared) (σ:St) (H:Hp) (x y:V) (v u:Value) (Q:VK),Inv X pins σ H s->RelV x v->RelV y u->r x y H Q ->
  wpAny (model X.prog X.w) X.A (f v u) (EP X pins σ Q) X.xe s
def UnR (X:Cx)(f:Value->Sem Value)(r:V->Hp->VK->Prop):Prop :=
 ∀(pins:List (Addr×Obj)) (s:Shared) (σ:St) (H:Hp) (x:V) (v:Value) (Q:VK),Inv X pins σ H s->RelV x v->r x H Q ->
  wpAny (model X.prog X.w) X.A (f v) (EP X pins σ Q) X.xe s
def yad (X:Cx)(f:Value)(r:List V->Hp->VK->Prop):Prop :=
 ∀(pins:List (Addr×Obj)) (s:Shared) (σ:St) (H:Hp) (xs:List V) (us:List Value) (Q:VK),Inv X pins σ H s->Vals xs us->r xs H Q ->
  wpAny (model X.prog X.w) X.A (call f us) (EP X pins σ Q) X.xe s
def ye9 (X:Cx)(r:V->Hp->(Bool->Hp->Prop)->Prop):Prop :=
 ∀(pins:List (Addr×Obj)) (s:Shared) (σ:St) (H:Hp) (x:V) (v:Value) (Q:Bool->Hp->Prop),Inv X pins σ H s->RelV x v->r x H Q ->
  wpAny (model X.prog X.w) X.A (truthy v) (TP X pins σ Q) X.xe s
def tOp (r:R2)(ta tb:TE):TE:=fun σ H Q=>ta σ H fun x H1=>tb σ H1 fun y H2=>r x y H2 Q
def tUn (r:V->Hp->VK->Prop)(ta:TE):TE:=fun σ H Q=>ta σ H fun x H1=>r x H1 Q
def rI (C:Int->Int->Prop)(g:Int->Int->V):R2:=fun x y H Q=>∃i j,x=.int i/\y=.int j/\C i j/\Q (g i j) H
def rI0 (g:Int->Int->V):R2:=fun x y H Q=>∃i j,x=.int i/\y=.int j/\Q (g i j) H
def rU (g:Int->V):V->Hp->VK->Prop:=fun x H Q=>∃i,x=.int i/\Q (g i) H
section
variable {X:Cx}{a b c:Expr}{ta tb tc:TE}{pos:Pos}
theorem yeh (ha:PE X a ta)(hb:PE X b tb){pins:List (Addr×Obj)}{s:Shared}{σ:St}{H:Hp}{R:V->V->Hp->Prop}(I:Inv X pins σ H s)
  (h:ta σ H fun x H1=>tb σ H1 fun y H2=>R x y H2) {Q:Value->Shared->Prop} {f:Value->Value->Sem Value}
  (hf:∀v u s2 x y H2,Inv X pins σ H2 s2->RelV x v->RelV y u->R x y H2->wpAny (model X.prog X.w) X.A (f v u) Q X.xe s2) :
  wpAny (model X.prog X.w) X.A (eval a X.env) (fun v s₁=>wpAny (model X.prog X.w) X.A (eval b X.env) (fun u s₂=>wpAny (model X.prog X.w) X.A (f v u) Q X.xe s₂) X.xe s₁) X.xe s:=by
 refine thn (ha pins s σ H _ I h) fun v s1 ⟨x,H1,I1,r1,q1⟩=>?_
 refine thn (hb pins s1 σ H1 _ I1 q1) fun u s2 ⟨y,H2,I2,r2,q2⟩=>?_
 exact hf v u s2 x y H2 I2 r1 r2 q2
theorem zpJ {op:Operator}{r:R2}(ho:OpR X (binaryOp op) r)(ha:PE X a ta)(hb:PE X b tb):PE X (.BinOp a op b pos) (tOp r ta tb):=by
 intro pins s σ H Q I h
 exact wpAny_BinOp (yeh ha hb I h fun v u s2 x y H2 I2 rx ry q=>ho pins s2 σ H2 x y v u Q I2 rx ry q)
theorem zpx {op:UnaryOp}{r:V->Hp->VK->Prop}(ho:UnR X (unaryOp op) r)(ha:PE X a ta):PE X (.UnaryOp op a pos) (tUn r ta):=by
 intro pins s σ H Q I h
 exact UnaryOp_ (thn (ha pins s σ H _ I h) fun v s1 ⟨x,H1,I1,r1,q1⟩=>ho pins s1 σ H1 x v Q I1 r1 q1)
theorem opI {f:Value->Value->Sem Value}{C:Int->Int->Prop}{g:Int->Int->Int}
  (rule:∀(i j:Int) (t u:Tok) (s:Shared) (Q:Value->Shared->Prop) (E:Value->Shared->Prop),C i j->Q (.int (g i j) s.toks) { s with toks:=s.toks+1 }->wpAny (model X.prog X.w) X.A (f (.int i t) (.int j u)) Q E s) :
  OpR X f (rI C fun i j=>.int (g i j)):=by
 intro pins s σ H x y v u Q I rx ry h
 obtain ⟨i,j,rfl,rfl,hc,q⟩:=h
 obtain ⟨t,rfl⟩:=rx
 obtain ⟨t',rfl⟩:=ry
 exact rule i j t t' s _ _ hc ⟨.int (g i j),H,I.tok _,⟨_,rfl⟩,q⟩
theorem yeQ {f:Value->Value->Sem Value}{g:Int->Int->Int}
  (rule:∀(i j:Int) (t u:Tok) (s:Shared) (Q:Value->Shared->Prop) (E:Value->Shared->Prop),Q (.int (g i j) s.toks) { s with toks:=s.toks+1 }->wpAny (model X.prog X.w) X.A (f (.int i t) (.int j u)) Q E s) :
  OpR X f (rI0 fun i j=>.int (g i j)):=by
 intro pins s σ H x y v u Q I rx ry h
 obtain ⟨i,j,rfl,rfl,q⟩:=h
 obtain ⟨t,rfl⟩:=rx
 obtain ⟨t',rfl⟩:=ry
 exact rule i j t t' s _ _ ⟨.int (g i j),H,I.tok _,⟨_,rfl⟩,q⟩
theorem ydQ {f:Value->Value->Sem Value}{g:Int->Int->Bool}
  (rule:∀(i j:Int) (t u:Tok) (s:Shared) (Q:Value->Shared->Prop) (E:Value->Shared->Prop),Q (.bool (g i j)) s->wpAny (model X.prog X.w) X.A (f (.int i t) (.int j u)) Q E s) :
  OpR X f (rI0 fun i j=>.bl (g i j)):=by
 intro pins s σ H x y v u Q I rx ry h
 obtain ⟨i,j,rfl,rfl,q⟩:=h
 obtain ⟨t,rfl⟩:=rx
 obtain ⟨t',rfl⟩:=ry
 exact rule i j t t' s _ _ ⟨.bl (g i j),H,I,rfl,q⟩
def ydJ (i j:Int):Prop:=0<=j/\j<=1000000/\i.natAbs<2 ^ 64
def yc5 (i j:Int):Prop:=(-(2 ^ 64)<i/\i<2 ^ 64) \/ (-(2 ^ 64)<j/\j<2 ^ 64)
theorem yc5.ok {i j:Int}(h:yc5 i j):IntMulOk i j:=by
 rcases h with ⟨h1,h2⟩|⟨h1,h2⟩
 ·exact .of_left (intBits_le_64 h1 h2)
 ·exact .of_right (intBits_le_64 h1 h2)
theorem zoZ:OpR X (binaryOp .Add) (rI0 fun i j=>.int (i+j)):=yeQ fun _ _ _ _ _ _ _ q=>add_int q
theorem zor:OpR X (binaryOp .Sub) (rI0 fun i j=>.int (i - j)):=yeQ fun _ _ _ _ _ _ _ q=>sub_int q
theorem zpb:OpR X (binaryOp .Mult) (rI yc5 fun i j=>.int (i*j)):=opI fun _ _ _ _ _ _ _ hc q=>mul_int q hc.ok
theorem zo3:OpR X (binaryOp .Mod) (rI (fun _ j=>0<j) fun i j=>.int (i % j)):=opI fun i j _ _ _ _ _ hc q=>by
 have h1:(0:Int)<j:=hc
 exact mod_int' (by omega) (by rw [Int.fmod_eq_emod_of_nonneg i (by omega)];exact q)
theorem zo8:OpR X (binaryOp .Pow) (rI ydJ fun i j=>.int (i ^ j.toNat)):=opI fun _ _ _ _ _ _ _ hc q=>pow_int_small hc.1 hc.2.1 hc.2.2 q
theorem zoB:OpR X (binaryOp .LShift) (rI ydJ fun i j=>.int (i*2 ^ j.toNat)):=opI fun _ _ _ _ _ _ _ hc q=>lshift_int_small hc.1 hc.2.1 hc.2.2 q
theorem unI {f:Value->Sem Value}{g:Int->Int}
  (rule:∀(i:Int) (t:Tok) (s:Shared) (Q:Value->Shared->Prop) (E:Value->Shared->Prop),Q (.int (g i) s.toks) { s with toks:=s.toks+1 }->wpAny (model X.prog X.w) X.A (f (.int i t)) Q E s) :
  UnR X f (rU fun i=>.int (g i)):=by
 intro pins s σ H x v Q I rx h
 obtain ⟨i,rfl,q⟩:=h
 obtain ⟨t,rfl⟩:=rx
 exact rule i t s _ _ ⟨.int (g i),H,I.tok _,⟨_,rfl⟩,q⟩
theorem zpa:UnR X (unaryOp .USub) (rU fun i=>.int (-i)):=unI fun _ _ _ _ _ q=>neg_int q
theorem zle:OpR X (binaryOp .Add) (fun x y H Q=>∃i k,x=.int i/\y=.bl k/\Q (.int (i+b2i k)) H):=by
 intro pins s σ H x y v u Q I rx ry h
 obtain ⟨i,k,rfl,rfl,q⟩:=h
 obtain ⟨t,rfl⟩:=rx
 cases ry
 exact add_int_bool ⟨.int (i+b2i k),H,I.tok _,⟨_,rfl⟩,q⟩
end
section
variable {X:Cx}{a b c:Expr}{ta tb tc:TE}{pos:Pos}
theorem zkE {pins:List (Addr×Obj)}{σ:St}{H:Hp}{s:Shared}{Q:VK}{k k':Bool}(I:Inv X pins σ H s)(q:Q (.bl k) H)(e:k=k'):EP X pins σ Q (.bool k') s:=by
 subst e
 exact ⟨.bl k,H,I,rfl,q⟩
theorem zpC:OpR X (compareOp .Lt) (rI0 fun i j=>.bl (decide (i<j))):=ydQ fun _ _ _ _ _ _ _ q=>lt_int q
theorem zpA:OpR X (compareOp .LtE) (rI0 fun i j=>.bl (decide (i<=j))):=ydQ fun _ _ _ _ _ _ _ q=>le_int q
theorem zpz:OpR X (compareOp .Gt) (rI0 fun i j=>.bl (decide (j<i))):=ydQ fun _ _ _ _ _ _ _ q=>gt_int q
theorem zps:OpR X (compareOp .GtE) (rI0 fun i j=>.bl (decide (j<=i))):=ydQ fun _ _ _ _ _ _ _ q=>ge_int q
theorem zll:OpR X (compareOp .Lt) (fun x y H Q=>∃i j,x=.str i/\y=.str j/\Q (.bl (decide (i.cps.toList<j.cps.toList))) H):=by
 intro pins s σ H x y v u Q I rx ry h
 obtain ⟨i,j,rfl,rfl,q⟩:=h
 obtain ⟨t,rfl⟩:=rx
 obtain ⟨t',rfl⟩:=ry
 exact lt_str (zkE I q rfl)
theorem zku:OpR X (compareOp .In) (fun x y H Q=>∃i j,x=.str i/\y=.str j/\Q (.bl (!(Builtin.Str.occurrences j i 0 j.length 1).isEmpty)) H):=by
 intro pins s σ H x y v u Q I rx ry h
 obtain ⟨i,j,rfl,rfl,q⟩:=h
 obtain ⟨t,rfl⟩:=rx
 obtain ⟨t',rfl⟩:=ry
 exact in_str (zkE I q rfl)
theorem yt (b:Expr){op:CmpOp}(h:op ≠ .In:=by decide)(h2:op ≠ .NotIn:=by decide):behindInMarks op b=false:=by
 have e1:(op == CmpOp.In)=false:=by cases op <;> first|rfl|exact absurd rfl h
 have e2:(op == CmpOp.NotIn)=false:=by cases op <;> first|rfl|exact absurd rfl h2
 cases b <;> simp [behindInMarks,e1,e2]
theorem zk1 {op:CmpOp}{r:R2}(ho:OpR X (compareOp op) r)(ha:PE X a ta)(hb:PE X b tb)(hm:behindInMarks op b=false):PE X (.Compare a [op] [b] pos) (tOp r ta tb):=by
 intro pins s σ H Q I h
 exact wpAny_Compare1 (yeh ha hb I h fun v u s2 x y H2 I2 rx ry q=>ho pins s2 σ H2 x y v u Q I2 rx ry q) hm
def ydz (t:TE):TT:=fun σ H Q=>t σ H fun x H'=>∃k,x=.bl k/\Q k H'
theorem zkY {op:CmpOp}{r:R2}(ho:OpR X (compareOp op) r)(ha:PE X a ta)(hb:PE X b tb)(hm:behindInMarks op b=false):PT X (.Compare a [op] [b] pos) (ydz (tOp r ta tb)):=by
 intro pins s σ H Q I h
 refine wpAny_isTrue_Compare1 (thn (ha pins s σ H _ I h) fun v s1 ⟨x,H1,I1,r1,q1⟩=>thn (hb pins s1 σ H1 _ I1 q1) fun u s2 ⟨y,H2,I2,r2,q2⟩ =>
  thn (ho pins s2 σ H2 x y v u _ I2 r1 r2 q2) fun c s3 ⟨z,H3,I3,r3,k,e,q3⟩=>?_) hm
 subst e
 cases r3
 exact wpAny_truthy_bool ⟨H3,I3,q3⟩
def ycr (r r':R2)(ta tb tc:TE):TE:=fun σ H Q=>ta σ H fun x H1=>tb σ H1 fun y H2=>r x y H2 fun z H3=>∃k,z=.bl k /\
 (if k=true then tc σ H3 fun w' H4=>r' y w' H4 Q else Q (.bl false) H3)
theorem zlT {op op':CmpOp}{r r':R2}(ho:OpR X (compareOp op) r)(ho':OpR X (compareOp op') r')(ha:PE X a ta)(hb:PE X b tb)(hc:PE X c tc)
  (hm:lastMarks [op,op'] [b,c]=false:=by with_unfolding_all rfl):PE X (.Compare a [op,op'] [b,c] pos) (ycr r r' ta tb tc):=by
 intro pins s σ H Q I h
 refine Compare_chain (thn (ha pins s σ H _ I h) fun v s1 ⟨x,H1,I1,r1,q1⟩=>chain_link (thn (hb pins s1 σ H1 _ I1 q1) fun u s2 ⟨y,H2,I2,r2,q2⟩ =>
  thn (ho pins s2 σ H2 x y v u _ I2 r1 r2 q2) fun d s3 ⟨z,H3,I3,r3,k,e,q3⟩=>?_)) hm
 subst e
 cases r3
 refine wpAny_truthy_bool ?_
 cases k with
 |false=>exact ite_ff ⟨.bl false,H3,I3,rfl,q3⟩
 |true=>exact ite_tt (chain_last (thn (hc pins s3 σ H3 _ I3 q3) fun w' s4 ⟨z',H4,I4,r4,q4⟩=>ho' pins s4 σ H4 y z' u w' Q I4 r2 r4 q4))
theorem zlR {op op':CmpOp}{r r':R2}(ho:OpR X (compareOp op) r)(ho':OpR X (compareOp op') r')(ha:PE X a ta)(hb:PE X b tb)(hc:PE X c tc)
  (hm:lastMarks [op,op'] [b,c]=false:=by with_unfolding_all rfl):PT X (.Compare a [op,op'] [b,c] pos) (ydz (ycr r r' ta tb tc)):=by
 intro pins s σ H Q I h
 refine isTrue_chain (thn (ha pins s σ H _ I h) fun v s1 ⟨x,H1,I1,r1,q1⟩=>test_link (thn (hb pins s1 σ H1 _ I1 q1) fun u s2 ⟨y,H2,I2,r2,q2⟩ =>
  thn (ho pins s2 σ H2 x y v u _ I2 r1 r2 q2) fun d s3 ⟨z,H3,I3,r3,k,e,q3⟩=>?_)) hm
 subst e
 cases r3
 refine wpAny_truthy_bool ?_
 cases k with
 |false =>
  obtain ⟨k',e',q'⟩:=q3
  cases e'
  exact ite_ff ⟨H3,I3,q'⟩
 |true =>
  refine ite_tt (test_last (thn (hc pins s3 σ H3 _ I3 q3) fun w' s4 ⟨z',H4,I4,r4,q4⟩=>thn (ho' pins s4 σ H4 y z' u w' _ I4 r2 r4 q4) fun d' s5 ⟨z2,H5,I5,r5,k2,e2,q5⟩=>?_))
  subst e2
  cases r5
  exact wpAny_truthy_bool ⟨H5,I5,q5⟩
def yeb (K:PySem.W.Frag)(x:V)(H:Hp)(k:Bool):Prop :=
 match x with
 | .non=>k=false
 | .bl b=>k=b
 | .int i=>k=(i != 0)
 | .str y=>y.length<=sizeLine/\k=((y.length:Int) != 0)
 | .byt y=>y.size<=sizeLine/\k=((y.size:Int) != 0)
 | .ref p=>(∃xs,SqL K H p xs/\k=!xs.isEmpty) \/ (∃xs,SqT K H p xs/\k=!xs.isEmpty) \/ ∃kvs,H p=some (.dK kvs)/\k=!kvs.isEmpty
 |_=>False
theorem zjf {κ:Type}{kvs:List (κ×V)}{vs:List (κ×Value)}(r:KV kvs vs):(!vs.isEmpty)=!kvs.isEmpty:=by
 cases r <;> rfl
theorem zgB {xs:List V}{its:List Value}(r:Vals xs its):(!its.toArray.isEmpty)=!xs.isEmpty:=by
 cases r <;> simp
theorem yaH:(sizeLine:Nat)<2 ^ 63:=by rw [sizeLine_eq];decide
theorem zoy:ye9 X (fun x H Q=>∃k,yeb X.K x H k/\Q k H):=by
 intro pins s σ H x v Q I rx h
 obtain ⟨k,e,q⟩:=h
 have hl:=yaH
 have hs:sizeLine=16777216:=sizeLine_eq
 cases x with
 |non =>
  cases rx
  have e':k=false:=e
  subst e'
  exact truthy_none ⟨H,I,q⟩
 |bl b =>
  cases rx
  have e':k=b:=e
  subst e'
  exact wpAny_truthy_bool ⟨H,I,q⟩
 |int i =>
  obtain ⟨t,rfl⟩:=rx
  have e':k=(i != 0):=e
  subst e'
  exact PySem.P.truthy_int ⟨H,I,q⟩
 |str y =>
  obtain ⟨t,rfl⟩:=rx
  obtain ⟨hy,e'⟩:y.length<=sizeLine/\k=((y.length:Int) != 0):=e
  subst e'
  exact PySem.P.truthy_str (by omega) ⟨H,I.tok _,q⟩
 |byt y =>
  obtain ⟨t,rfl⟩:=rx
  obtain ⟨hy,e'⟩:y.size<=sizeLine/\k=((y.size:Int) != 0):=e
  subst e'
  exact PySem.W.truthy_bytes (by omega) ⟨H,I.tok _,q⟩
 |ref p =>
  cases rx
  have e':(∃xs,SqL X.K H p xs/\k=!xs.isEmpty) \/ (∃xs,SqT X.K H p xs/\k=!xs.isEmpty) \/ ∃kvs,H p=some (.dK kvs)/\k=!kvs.isEmpty:=e
  rcases e' with ⟨xs,hx,e'⟩|⟨xs,hx,e'⟩|⟨kvs,hx,e'⟩
  ·subst e'
   obtain ⟨its,r,pl,hz⟩:=I.list hx
   have hlen:=r.length
   exact wpAny_truthy_list pl.isList (by simp only [List.size_toArray];omega) ⟨H,I.tok _,by rw [zgB r];exact q⟩
  ·subst e'
   obtain ⟨its,r,pl,hz⟩:=I.tuple hx
   have hlen:=r.length
   exact truthy_tuple pl (by simp only [List.size_toArray];omega) ⟨H,I.tok _,by rw [zgB r];exact q⟩
  ·subst e'
   obtain ⟨hz,hS,vs,r,m⟩:kvs.length<=sizeLine/\(p == sysModules)=false/\∃vs,KV kvs vs/\s.heap.DictOf (yH X.prog X.w) p vs:=I.hok p _ hx
   have hlen:kvs.length=vs.length:=Paired.length r
   exact wpAny_truthy_dict hS m (by omega) ⟨H,I.tok _,by rw [zjf r];exact q⟩
 |_=>exact (show False from e).elim
theorem zmt (ha:PE X a ta)(he:∀whole,isTrue a X.env whole=(do let v <- whole;standAt a.pos;holding [v] (truthy v))) :
  PT X a (fun σ H Q=>ta σ H fun x H'=>∃k,yeb X.K x H' k/\Q k H'):=by
 intro pins s σ H Q I h
 exact isTrue_plain (thn (ha pins s σ H _ I h) fun v s1 ⟨x,H1,I1,r1,q1⟩=>zoy pins s1 σ H1 x v Q I1 r1 q1) (he _)
theorem zjr:OpR X (binaryOp .Add) (fun x y H Q=>∃i j,x=.str i/\y=.str j/\i.length+j.length<=sizeLine/\Q (.str (i++j)) H):=by
 intro pins s σ H x y v u Q I rx ry h
 obtain ⟨i,j,rfl,rfl,hz,q⟩:=h
 obtain ⟨t,rfl⟩:=rx
 obtain ⟨t',rfl⟩:=ry
 exact add_str (fun t' tk=>⟨.str (i++j),H,I.tok _,⟨_,rfl⟩,q⟩) hz
theorem vals1 {x:V}{us:List Value}(r:Vals [x] us):∃u,us=[u]/\RelV x u:=by
 cases r with
 |cons r1 r2=>cases r2;exact ⟨_,rfl,r1⟩
theorem vals2 {x y:V}{us:List Value}(r:Vals [x,y] us):∃u w',us=[u,w']/\RelV x u/\RelV y w':=by
 cases r with
 |cons r1 r2 =>
  cases r2 with
  |cons r3 r4=>cases r4;exact ⟨_,_,rfl,r1,r3⟩
theorem zj6 (hc:X.calm=true):yad X (.builtin "min") (fun xs H Q=>∃i j,xs=[.int i,.int j]/\Q (.int (if j<i then j else i)) H):=by
 intro pins s σ H xs us Q I r h
 obtain ⟨i,j,rfl,q⟩:=h
 obtain ⟨u,w',rfl,⟨t,rfl⟩,⟨t',rfl⟩⟩:=vals2 r
 refine min_two_ints (I.ok.hd hc) fun h' tk k=>⟨_,H,I.kept k,?_,q⟩
 by_cases hj:j<i
 ·rw [if_pos hj,if_pos hj];exact ⟨_,rfl⟩
 ·rw [if_neg hj,if_neg hj];exact ⟨_,rfl⟩
theorem zhf:yad X (.type "int") (fun xs H Q=>(∃i,xs=[.int i]/\Q (.int i) H) \/ ∃k,xs=[.bl k]/\Q (.int (if k then 1 else 0)) H):=by
 intro pins s σ H xs us Q I r h
 rcases h with ⟨i,rfl,q⟩|⟨k,rfl,q⟩
 ·obtain ⟨u,rfl,t,rfl⟩:=vals1 r
  exact call_int_int ⟨.int i,H,I,⟨_,rfl⟩,q⟩
 ·obtain ⟨u,rfl,r1⟩:=vals1 r
  cases r1
  exact call_int_bool ⟨.int (if k then 1 else 0),H,I.tok _,⟨_,rfl⟩,q⟩
end
structure ycP (h:Heap)(x dx C:Addr)(mA:Str->Option Value):Prop where
 obj:h.get? x=some (PySem.W.instObj C dx)
 ns:h.Ns1 dx mA
 ne:dx≠x
theorem zk3 {h:Heap}{dx:Addr}{mA:Str->Option Value}(n:h.Ns1 dx mA):∃od,h.get? dx=some od/\∀name,PySem.W.lookIn name od=some (mA name):=by
 obtain ⟨o,es,ep,ho,hd,hk,_,hm⟩:=n
 refine ⟨o,ho,fun name=>?_⟩
 have e:=hm name
 unfold nsFind findBy at e
 rw [<- Array.find?_toList] at e
 unfold PySem.W.lookIn
 rw [hd]
 dsimp only
 split
 ·rename_i y q
  rw [q] at e
  exact congrArg some e
 ·rename_i q
  rw [q] at e
  have a:es.toList.any (·.refKey)=false:=by
   rw [List.any_eq_false]
   intro y hy
   obtain ⟨z,t,hkey⟩:=hk y (Array.mem_toList_iff.mp hy)
   simp [DictEntry.refKey,hkey]
  have a':¬es.toList.any (·.refKey)=true:=by rw [a];exact Bool.false_ne_true
  rw [if_neg a']
  exact congrArg some e
theorem ycP.look {h:Heap}{x dx C:Addr}{mA:Str->Option Value}(I:ycP h x dx C mA):∃od,PySem.W.InstAt h x (PySem.W.instObj C dx) C (some od)/\∀name,PySem.W.lookIn name od=some (mA name) :=
 let ⟨od,ho,hl⟩:=zk3 I.ns
 ⟨od,⟨I.obj,rfl,rfl,ho⟩,hl⟩
section
variable {prog:Program}{w:World}{A:Around}{E:Value->Shared->Prop}{s:Shared}{K:PySem.W.Frag}{x dx C f:Addr}{mA:Str->Option Value}{name:Str}{v:Value}
theorem znO {expr:Bool}{Q:Value->Shared->Prop}(X:K.In s.heap)(I:ycP s.heap x dx C mA)(hg:PySem.W.plainGet K C name=true)(hh:PySem.W.hasDictIn K C=true)
  (ha:PySem.W.findIn K (.ref C) name=some none) (hv:mA name=some v) (hv':PySem.W.handedIn v=true) (h:Q v { s with toks:=s.toks+1 }) :
  wpAny (model prog w) A (getAttr (.ref x) name expr) Q E s:=by
 obtain ⟨od,J,hl⟩:=I.look
 exact PySem.W.get_value X J (PySem.W.plainGet_of hg).1 (PySem.W.findObj_own hh ha rfl (by rw [hl,hv])) hv' h
theorem zlB {pl:Sem Bool}{Q:Value×List Value->Shared->Prop}(X:K.In s.heap)(I:ycP s.heap x dx C mA)(hg:PySem.W.plainGet K C name=true)
  (hf:PySem.W.findIn K (.ref C) name=some (some (.ref f))) (ht:PySem.W.isFn K (.ref f)=true) (hv:mA name=none) (h:Q (.ref f,[.ref x]) s) :
  wpAny (model prog w) A (getMethod (.ref x) name pl) Q E s:=by
 obtain ⟨od,J,hl⟩:=I.look
 exact PySem.W.method_fn X J (PySem.W.plainGet_of hg).1 (PySem.W.plainGet_of hg).2 hf (beq_iff_eq.mp ht) (by show (PySem.W.lookIn name od).map (·.isSome)=some false;rw [hl,hv];rfl) h
theorem zng {ns:List Str}{Q:Unit->Shared->Prop}(X:K.In s.heap)(I:ycP s.heap x dx C mA)
  (hs:PySem.W.findIn K (.ref C) "__setattr__"=some (some (.builtin "object.__setattr__"))) (hp:PySem.W.plainOver K C=true) (ht:PySem.W.takerIn K C name=some none) (hh:PySem.W.hasDictIn K C=true)
  (hw:PySem.Within mA ns) (hsz:ns.length<=sizeLine)
  (h:∀h',ycP h' x dx C (fun y=>if y=name then some v else mA y)->Heap.SameBut dx s.heap h'->Q () { s with heap:=h',toks:=s.toks+2 }) :
  wpAny (model prog w) A (setAttr (.ref x) name v) Q E s:=by
 obtain ⟨od,J,hl⟩:=I.look
 refine PySem.W.set_plain X J hs (PySem.W.osa_open (s:={ s with toks:=s.toks+1 }) (r:=none) X J hp ht fun b=>?_)
 obtain ⟨cd,hc,hd'⟩:=PySem.W.any_some hh
 have hx:s.heap.get? x=some ⟨.ref C,some dx,.plain,#[]⟩:=I.obj
 refine wpAny_bind (wpAny_pure (wpAny_bind (wpAny_bind (wpAny_loadPart hx (wpAny_bind (PySem.W.Looks.here (s:={ s with toks:=s.toks+1 }) (PySem.W.looks_clsIn X hc) ?_))))))
 rw [hd']
 refine wpAny_pure (a:=some dx) (wpAny_bind (wpAny_pure (wpAny_bind ?_)))
 refine wpAny_nsSet1 (s:={ s with toks:=s.toks+1 }) I.ns fun h' hn2 hs2=>?_
 obtain ⟨oD,esD,epD,hoD,hdD,hcD⟩:=hn2.count (PySem.Within.cons name v hw)
 refine wpAny_bind (wpAny_lookBehind hoD (by rw [hdD];exact pastItsLine_dict (Nat.le_trans hcD (by rw [List.length_cons];omega))) ?_)
 exact wpAny_pure (h _ ⟨(hs2.2 _ (Ne.symm I.ne)).trans I.obj,hn2,I.ne⟩ hs2)
theorem zlQ {R:Result->Shared->Prop}{vs:List Value}{kw:List (Str×Value)}(X:K.In s.heap)(hm:PySem.W.makesIn K C=true)
  (hi:PySem.W.findIn K (.ref C) "__init__"=some (some (.ref f))) (hf:PySem.W.typeIn K (.ref f)=some (.type "function"))
  (h:codeAny (model prog w) (A.under (.builtin "type.__call__" ⟨.ref C::vs,kw⟩)) (.call (.ref f) ⟨.ref (s.heap.objs.size+1)::vs,kw⟩) (PySem.W.InitBack (s.heap.objs.size+1) R)
   { s with heap:=(s.heap.push PySem.W.emptyDict).push (PySem.W.instObj C s.heap.objs.size) }) :
  codeAny (model prog w) A (.call (.ref C) ⟨vs,kw⟩) R s:=by
 obtain ⟨hh,g,d,t,os⟩:=s
 exact PySem.W.make_core (PySem.W.makes_of X hm) (PySem.W.looks_findIn X hi) (fun self=>PySem.W.bind_fn X self hf) (.inl rfl) h
end
def ya2 (f:Str)(v:V):List (Str×V)->List (Str×V)
 | []=>[(f,v)]
 | (g,x)::r=>if g=f then (g,v)::r else (g,x)::ya2 f v r
theorem zfA (f g:Str)(v:V):∀fs:List (Str×V),(ya2 f v fs).lookup g=if g=f then some v else fs.lookup g
 | []=>by
  show List.lookup g [(f,v)]=_
  by_cases h:g=f
  ·have hb:(g == f)=true:=beq_iff_eq.mpr h
   simp only [List.lookup,hb,if_pos h]
  ·have hb:(g == f)=false:=beq_eq_false_iff_ne.mpr h
   simp only [List.lookup,hb,if_neg h]
 | (k,x)::r=>by
  have ih:=zfA f g v r
  rw [show ya2 f v ((k,x)::r)=(if k=f then (k,v)::r else (k,x)::ya2 f v r) from rfl]
  by_cases hk:k=f
  ·rw [if_pos hk]
   by_cases h:g=k
   ·have hb:(g == k)=true:=beq_iff_eq.mpr h
    simp only [List.lookup,hb,if_pos (h.trans hk)]
   ·have hb:(g == k)=false:=beq_eq_false_iff_ne.mpr h
    simp only [List.lookup,hb,if_neg (fun e:g=f=>h (e.trans hk.symm))]
  ·rw [if_neg hk]
   by_cases h:g=k
   ·have hb:(g == k)=true:=beq_iff_eq.mpr h
    simp only [List.lookup,hb,if_neg (fun e:g=f=>hk (h.symm.trans e))]
   ·have hb:(g == k)=false:=beq_eq_false_iff_ne.mpr h
    simp only [List.lookup,hb]
    exact ih
theorem zfN (f:Str)(v:V):∀fs:List (Str×V),f∈(ya2 f v fs).map (·.1)/\∀g,g∈fs.map (·.1)->g∈(ya2 f v fs).map (·.1)
 | []=>⟨by simp [ya2],fun g h=>by simp at h⟩
 | (k,x)::r=>by
  obtain ⟨i1,i2⟩:=zfN f v r
  rw [show ya2 f v ((k,x)::r)=(if k=f then (k,v)::r else (k,x)::ya2 f v r) from rfl]
  by_cases hk:k=f
  ·rw [if_pos hk]
   subst hk
   exact ⟨by simp,fun g h=>by simpa using h⟩
  ·rw [if_neg hk]
   refine ⟨?_,fun g h=>?_⟩
   ·rw [List.map_cons]
    exact List.mem_cons_of_mem _ i1
   ·rw [List.map_cons] at h ⊢
    rcases List.mem_cons.mp h with e|e
    ·exact List.mem_cons.mpr (.inl e)
    ·exact List.mem_cons_of_mem _ (i2 g e)
theorem zfO (f:Str)(v:V):∀fs:List (Str×V),(ya2 f v fs).length<=fs.length+1
 | []=>by simp [ya2]
 | (k,x)::r=>by
  have ih:=zfO f v r
  rw [show ya2 f v ((k,x)::r)=(if k=f then (k,v)::r else (k,x)::ya2 f v r) from rfl]
  by_cases hk:k=f
  ·rw [if_pos hk,List.length_cons,List.length_cons];omega
  ·rw [if_neg hk,List.length_cons,List.length_cons];omega
theorem ybb.some_of {v:V}{o:Option Value}(r:ybb (some v) o):∃u,o=some u/\RelV v u:=by
 cases o with
 |none=>exact (show False from r).elim
 |some u=>exact ⟨u,rfl,r⟩
theorem ybb.none_of {o:Option Value}(r:ybb none o):o=none:=by
 cases o with
 |none=>rfl
 |some u=>exact (show False from r).elim
theorem zkv {v:V}{u:Value}(r:RelV v u):PySem.W.handedIn u=true:=by
 cases v with
 |non=>cases (show u=Value.none from r);rfl
 |bl b=>cases (show u=Value.bool b from r);rfl
 |int i=>obtain ⟨t,e⟩:=(show ∃t,u=Value.int i t from r);cases e;rfl
 |str x=>obtain ⟨t,e⟩:=(show ∃t,u=Value.str x t from r);cases e;rfl
 |byt b=>obtain ⟨t,e⟩:=(show ∃t,u=Value.bytes b t from r);cases e;rfl
 |flt b=>obtain ⟨t,e⟩:=(show ∃t,u=Value.float b t from r);cases e;rfl
 |ref a=>cases (show u=Value.ref a from r);rfl
 |ty n=>cases (show u=Value.type n from r);rfl
section
variable {P:Program}{w:World}{H H':Hp}{h h':Heap}{a C dx:Addr}{fs fs':List (Str×V)}
theorem zif (hok:HOk P w H h)(e:H a=some (.ins C dx fs)):∃mA,ycP h a dx C mA/\(∀f,ybb (fs.lookup f) (mA f))/\PySem.Within mA (fs.map (·.1))/\fs.length<=1000/\H dx=some (.own a):=by
 obtain ⟨d,z,ne,ob,mA,n,r,q⟩:=(show yI P w H h a (.ins C dx fs) from hok a _ e)
 exact ⟨mA,⟨ob,n,ne⟩,r,q,z,d⟩
end
structure Cls (K:PySem.W.Frag)(C:Addr):Prop where
 pg:PySem.W.plainGet K C Str.empty=true
 hd:PySem.W.hasDictIn K C=true
 po:PySem.W.plainOver K C=true
 sa:PySem.W.findIn K (.ref C) "__setattr__"=some (some (.builtin "object.__setattr__"))
theorem Cls.get {K:PySem.W.Frag}{C:Addr}(c:Cls K C)(f:Str):PySem.W.plainGet K C f=true:=c.pg
def yal (K:PySem.W.Frag)(C:Addr)(f:Str):Prop:=PySem.W.findIn K (.ref C) f=some none
theorem yal.taker {K:PySem.W.Frag}{C:Addr}{f:Str}(n:yal K C f):PySem.W.takerIn K C f=some none:=by
 unfold PySem.W.takerIn
 rw [show PySem.W.findIn K (.ref C) f=some none from n]
 rfl
structure Con (K:PySem.W.Frag)(C:Addr)(f:Str)(v:V)(u:Value):Prop where
 at_:PySem.W.findIn K (.ref C) f=some (some u)
 rel:RelV v u
 get:PySem.W.specialIn K u "__get__"=some none
 cp:PySem.W.copiedNames.contains f=false
structure Meth (K:PySem.W.Frag)(C:Addr)(m:Str)(f:Addr):Prop where
 at_:PySem.W.findIn K (.ref C) m=some (some (.ref f))
 fn:PySem.W.isFn K (.ref f)=true
 kp:PySem.W.keepIn K (.ref f)=true
section
variable {X:Cx}{pins:List (Addr×Obj)}{σ:St}{H:Hp}{s:Shared}{a C dx:Addr}{fs:List (Str×V)}{f:Str}{v:V}{A:Around}{E:Value->Shared->Prop}
theorem zjn {b:Bool}{Q:Value->Shared->Prop}(I:Inv X pins σ H s)(e:H a=some (.ins C dx fs))(c:Cls X.K C)(n:yal X.K C f)(l:fs.lookup f=some v)
  (h:∀u s',Inv X pins σ H s'->RelV v u->Q u s'):wpAny (model X.prog X.w) A (getAttr (.ref a) f b) Q E s:=by
 obtain ⟨mA,O,r,_,_,_⟩:=zif I.hok e
 obtain ⟨u,hu,ru⟩:=ybb.some_of (v:=v) (o:=mA f) (by rw [<- l];exact r f)
 exact znO I.kIn O (c.get f) c.hd n hu (zkv ru) (h u _ (I.tok _) ru)
theorem zgu {m:Str}{g:Addr}{pl:Sem Bool}{Q:Value×List Value->Shared->Prop}(I:Inv X pins σ H s)(e:H a=some (.ins C dx fs))(c:Cls X.K C)(k:Meth X.K C m g)(l:fs.lookup m=none)
  (h:Q (.ref g,[.ref a]) s):wpAny (model X.prog X.w) A (getMethod (.ref a) m pl) Q E s:=by
 obtain ⟨mA,O,r,_,_,_⟩:=zif I.hok e
 have hn:mA m=none:=ybb.none_of (by rw [<- l];exact r m)
 exact zlB I.kIn O (c.get m) k.at_ k.fn hn h
theorem zjp {y:V}{u:Value}{Q:Unit->Shared->Prop}(I:Inv X pins σ H s)(e:H a=some (.ins C dx fs))(c:Cls X.K C)(n:yal X.K C f)(hl:fs.length<1000)(ry:RelV y u)
  (h:∀s',Inv X pins σ (upd H a (.ins C dx (ya2 f y fs))) s'->Q () s'):wpAny (model X.prog X.w) A (setAttr (.ref a) f u) Q E s:=by
 obtain ⟨mA,O,r,wi,_,ho⟩:=zif I.hok e
 have hz:(fs.map (·.1)).length<=sizeLine:=by rw [List.length_map,sizeLine_eq];omega
 refine zng I.kIn O c.sa c.po n.taker c.hd wi hz fun h' O' sb=>h _ ?_
 have hd:∃o,h'.get? dx=some o:=let ⟨o,_,_,e',_⟩:=O'.ns;⟨o,e'⟩
 refine I.write (x:=a) (e:=dx) (by rw [e];exact True.intro) (.inr ho) (fun b q hb z=>(sb.2 b hb).trans z) hd ?_
 refine ⟨by rw [zH O.ne];exact ho,?_,O.ne,O'.obj,_,O'.ns,fun g=>?_,fun g hg=>?_⟩
 ·have:=zfO f y fs;omega
 ·show ybb ((ya2 f y fs).lookup g) (if g=f then some u else mA g)
  rw [zfA]
  by_cases q:g=f
  ·rw [if_pos q,if_pos q];exact ry
  ·rw [if_neg q,if_neg q];exact r g
 ·by_cases q:g=f
  ·rw [q];exact (zfN f y fs).1
  ·refine (zfN f y fs).2 g (wi g fun z=>hg ?_)
   show (if g=f then some u else mA g)=none
   rw [if_neg q];exact z
theorem Inv.made (I:Inv X pins σ H s):Inv X pins σ (upd (upd H s.heap.objs.size (.own (s.heap.objs.size+1))) (s.heap.objs.size+1) (.ins C s.heap.objs.size []))
  { s with heap:=(s.heap.push PySem.W.emptyDict).push (PySem.W.instObj C s.heap.objs.size) }:=by
 have e1:(s.heap.push PySem.W.emptyDict).get? s.heap.objs.size=some PySem.W.emptyDict:=Heap.get?_push_size s.heap rfl
 have e2:((s.heap.push PySem.W.emptyDict).push (PySem.W.instObj C s.heap.objs.size)).get? (s.heap.objs.size+1)=some (PySem.W.instObj C s.heap.objs.size):=by
  have:=Heap.get?_push_size (s.heap.push PySem.W.emptyDict) (o:=PySem.W.instObj C s.heap.objs.size) rfl
  rwa [Heap.size_push] at this
 have e3:(s.heap.push PySem.W.emptyDict).Ns s.heap.objs.size (fun _=>none):=⟨PySem.W.emptyDict,#[],_,e1,rfl,(fun e he=>absurd he (by simp)),fun _=>rfl⟩
 have I1:=I.laid (a:=s.heap.objs.size) (o:=.own (s.heap.objs.size+1)) (h':=s.heap.push PySem.W.emptyDict) (t':=s.toks) (fun b u q=>Heap.get?_push_of_some _ q) (Nat.le_refl _) ⟨_,e1⟩
 refine I1.laid (a:=s.heap.objs.size+1) (o:=.ins C s.heap.objs.size []) (t':=s.toks) (fun b u q=>Heap.get?_push_of_some _ q) (Nat.le_of_eq (Heap.size_push _ _)) ?_
 have ne:s.heap.objs.size≠s.heap.objs.size+1:=Nat.ne_of_lt (Nat.lt_succ_self _)
 refine ⟨by rw [zH ne,zU],Nat.zero_le _,ne,e2,fun _=>none,(Heap.Ns1.of_empty e3).at fun o q=>Heap.get?_push_of_some _ q,fun _=>True.intro,fun y hy=>absurd rfl hy⟩
theorem znt {prog:Program}{w:World}{env:Env}{e:Expr}{f:Str}{pos:Pos}{s:Shared}{Q:Value->Shared->Prop}(hb:attributeBase e f env (eval e env)=eval e env)
  (h:wpAny (model prog w) A (eval e env) (fun o s₁=>wpAny (model prog w) A (getAttr o f true) Q E s₁) E s):wpAny (model prog w) A (eval (.Attribute e f pos) env) Q E s :=
 Attribute_any_ h (by rw [arm_eval_Attribute,hb])
end
def ye2 (K:PySem.W.Frag)(ta:TE)(f:Str):TE:=fun σ H Q=>ta σ H fun x H1=>∃a C dx fs v,x=.ref a/\H1 a=some (.ins C dx fs)/\Cls K C/\yal K C f/\fs.lookup f=some v/\Q v H1
def yfc (K:PySem.W.Frag)(ta tv:TE)(f:Str):TS:=fun D σ H=>tv σ H fun y H1=>ta σ H1 fun x H2=>∃a C dx fs,x=.ref a/\H2 a=some (.ins C dx fs)/\Cls K C/\yal K C f/\fs.length<1000 /\
 D.nx σ (upd H2 a (.ins C dx (ya2 f y fs)))
section
variable {X:Cx}{o e value:Expr}{f:Str}{pos pos' tpos:Pos}{ta tv:TE}
theorem zpg (he:PE X e ta)(hb:attributeBase e f X.env (eval e X.env)=eval e X.env):PE X (.Attribute e f pos) (ye2 X.K ta f):=by
 intro pins s σ H Q I h
 refine znt hb (thn (he pins s σ H _ I h) fun u s1 ⟨x,H1,I1,rx,a,C,dx,fs,v,ex,ea,c,n,l,q⟩=>?_)
 subst ex
 obtain rfl:u=Value.ref a:=rx
 exact zjn I1 ea c n l fun u' s2 I2 ru=>⟨v,H1,I2,ru,q⟩
theorem zoz (ha:PE X o ta)(hv:PE X value tv)(hs:swapsWith value (some (.Attribute o f pos')) pos.line X.env=pure false):PS X (.Assign [.Attribute o f pos'] value pos) (yfc X.K ta tv f):=by
 intro pins s σ H D I h
 refine plainObj_wpAny_Assign_Attribute (thn (hv pins s σ H _ I h) fun u s1 ⟨y,H1,I1,ry,q⟩=>thn (ha pins s1 σ H1 _ I1 q) fun ov s2 ⟨x,H2,I2,rx,a,C,dx,fs,ex,ea,c,n,l,q2⟩=>?_) hs
 subst ex
 obtain rfl:ov=Value.ref a:=rx
 exact zjp I2 ea c n l ry fun s3 I3=>⟨σ,_,I3,q2⟩
end
section
variable {X:Cx}{pins:List (Addr×Obj)}{σ:St}{H:Hp}{s:Shared}{A:Around}{E:Value->Shared->Prop}{Q:Value->Shared->Prop}{c:Value}{b:Bool}
end
structure yaj (k:Nat)(A:Around):Prop where
 hd:A.handled=none
 dp:A.depth+3*k+5<recursionLimit
 un:A.units+16*k+200<cLine
theorem yaj.mono {j k:Nat}{A:Around}(r:yaj k A)(h:j<=k):yaj j A:=⟨r.hd,by have:=r.dp;omega,by have:=r.un;omega⟩
theorem yaj.deeper {k:Nat}{A:Around}(r:yaj (k+1) A)(env:Env):yaj k (A.deeper env) :=
 ⟨r.hd,by have:=r.dp;show A.depth+1+3*k+5<_;omega,by have:=r.un;show A.units+3+16*k+200<_;omega⟩
theorem zjG {A:Around}{C:Addr}{us:List Value}{kw:List (Str×Value)}:(A.under (.builtin "type.__call__" ⟨.ref C::us,kw⟩)).depth=A.depth+1:=by
 first|rfl|simp [Around.under,Code.weight,Code.isCreation,Code.isGuard,Code.isCaller,Code.frames,Code.isFrame,guardIds]
theorem zjs {A:Around}{C:Addr}{us:List Value}{kw:List (Str×Value)}:(A.under (.builtin "type.__call__" ⟨.ref C::us,kw⟩)).units=A.units+1:=by
 first|rfl|simp [Around.under,Code.cUnits,Code.frames,Code.isFrame]
theorem yaj.make {k:Nat}{A:Around}(r:yaj (k+1) A)(C:Addr)(us:List Value)(kw:List (Str×Value)):yaj k (A.under (.builtin "type.__call__" ⟨.ref C::us,kw⟩)) :=
 ⟨r.hd,by have:=r.dp;rw [zjG];omega,by have:=r.un;rw [zjs];omega⟩
theorem yaj.depth {k:Nat}{A:Around}(r:yaj k A):A.depth<recursionLimit:=by have:=r.dp;omega
theorem yaj.units {k:Nat}{A:Around}(r:yaj k A):A.units+64<cLine:=by have:=r.un;omega
def yd1:TA:=fun _ H Q=>Q [] H
def yeI (ta:TE)(tr:TA):TA:=fun σ H Q=>ta σ H fun x H1=>tr σ H1 fun xs H2=>Q (x::xs) H2
section
variable {X:Cx}{e:Expr}{es:List Expr}{te:TE}{t:TA}{pos:Pos}
theorem yaw:PA X [] yd1:=fun _ _ _ _ H Q I h=>Calls.spliced_nil ⟨[],H,I,.nil,h⟩
theorem zbC (ha:PE X e te)(hr:PA X es t)(hs:starEach (e::es) X.env=(false,eval e X.env)::starEach es X.env:=by rfl):PA X (e::es) (yeI te t):=by
 intro pos pins s σ H Q I h
 rw [hs]
 show wpAny _ _ (spliced ((false,eval e X.env)::backTo pos (starEach es X.env))) _ _ s
 refine Calls.spliced_cons (thn (ha pins s σ H _ I h) fun u s1 ⟨x,H1,I1,r1,q1⟩=>?_)
 exact thn (hr pos pins s1 σ H1 _ I1 q1) fun us s2 ⟨xs,H2,I2,r2,q2⟩=>⟨x::xs,H2,I2,.cons r1 r2,q2⟩
def yfs (t:TA):TE:=fun σ H Q=>t σ H fun xs H1=>xs.length<=sizeLine/\∀p,H1 p=none->Q (.ref p) (upd H1 p (.tup xs))
def yfv (t:TA):TE:=fun σ H Q=>t σ H fun xs H1=>xs.length<=sizeLine/\∀p,H1 p=none->Q (.ref p) (upd H1 p (.lst xs))
theorem zlu {x1}(h:PA X es t):PE X (.Tuple es x1 pos) (yfs t):=by
 intro pins s σ H Q I hq
 refine wpAny_Tuple_spliced (thn (h pos pins s σ H _ I hq) fun us s1 ⟨xs,H1,I1,r,z,q⟩=>⟨by rw [<- r.length];exact z,?_⟩)
 have hf:H1 s1.heap.objs.size=none:=I1.hok.fresh (Nat.le_refl _)
 refine ⟨.ref s1.heap.objs.size,upd H1 s1.heap.objs.size (.tup xs),I1.laid (t':=s1.toks) (fun b u e=>Heap.get?_push_of_some _ e) (Nat.le_refl _) ?_,rfl,q _ hf⟩
 exact ⟨z,us,r,⟨_,Heap.get?_push_size _ rfl,rfl,_,rfl⟩⟩
theorem zmJ (h:PA X es t):PE X (.List es pos) (yfv t):=by
 intro pins s σ H Q I hq
 refine wpAny_List_spliced (thn (h pos pins s σ H _ I hq) fun us s1 ⟨xs,H1,I1,r,z,q⟩=>⟨by rw [<- r.length];exact z,?_⟩)
 have hf:H1 s1.heap.objs.size=none:=I1.hok.fresh (Nat.le_refl _)
 refine ⟨.ref s1.heap.objs.size,upd H1 s1.heap.objs.size (.lst xs),I1.laid (t':=s1.toks) (fun b u e=>Heap.get?_push_of_some _ e) (Nat.le_refl _) ?_,rfl,q _ hf⟩
 exact ⟨z,us,0,r,Heap.get?_push_size _ rfl⟩
end
abbrev Sp:=List V->Hp->VK->XK->Prop
abbrev CXT:=List Env->Hp->Shared->XK->Value->Shared->Prop
structure ycp (P:Program)(w:World)(K:PySem.W.Frag)(mg:Str->Option Value)(base:Heap)(A:Around)(outer:List Env)(s:Shared)(H:Hp):Prop where
 frames:A.frames=some outer
 mod:Mod K mg base
 bs:∀b o,base.get? b=some o->s.heap.get? b=some o/\H b=none
 bsz:base.objs.size<=s.heap.objs.size
 funs:s.heap.FunFrames base outer
 frf:∀b∈frs outer,H b=none
 hok:HOk P w H s.heap
 bare:AllBare s.gens
def CE (outer:List Env)(P:Program)(w:World)(H:Hp)(s:Shared)(Q:VK)(u:Value)(s':Shared):Prop :=
 ∃v H',s'.os=s.os/\AllBare s'.gens/\Un (frs outer) [] H H' s.heap s'.heap/\HOk P w H' s'.heap/\RelV v u/\Q v H'
def CR (CX:CXT)(outer:List Env)(P:Program)(w:World)(H:Hp)(s:Shared)(Q:VK)(E:XK)(r:Result)(s':Shared):Prop :=
 match r with
 | .ok (.ret u)=>CE outer P w H s Q u s'
 | .ok _=>False
 | .error e=>CX outer H s E e s'
structure yaE (P:Program)(w:World)(K:PySem.W.Frag)(mg:Str->Option Value)(base:Heap)(CX:CXT)(k:Nat)(f:Addr)(fd:FuncData)(ps:List Str)(sp:Sp):Prop where
 len:∀vs H Q E,sp vs H Q E->vs.length=ps.length
 run:∀(A:Around) (outer:List Env) (s:Shared) (H:Hp) (args:Args) (us:List Value) (vs:List V) (Q:VK) (E:XK),yaj k A->ycp P w K mg base A outer s H->BindsTo s fd args (ps.zip us)->Vals vs us->sp vs H Q E ->
  codeAny (model P w) A (.call (.ref f) args) (CR CX outer P w H s Q E) s
theorem yaE.imp {P:Program}{w:World}{K:PySem.W.Frag}{mg:Str->Option Value}{base:Heap}{CX:CXT}{k:Nat}{f:Addr}{fd:FuncData}{ps:List Str}{sp sp':Sp}(F:yaE P w K mg base CX k f fd ps sp)
  (h:∀vs H Q E,sp' vs H Q E->sp vs H Q E):yaE P w K mg base CX k f fd ps sp' :=
 ⟨fun vs H Q E q=>F.len vs H Q E (h _ _ _ _ q),fun A outer s H args us vs Q E hr he hb hv hs=>F.run A outer s H args us vs Q E hr he hb hv (h _ _ _ _ hs)⟩
theorem ycp.make {P:Program}{w:World}{K:PySem.W.Frag}{mg:Str->Option Value}{base:Heap}{A:Around}{outer:List Env}{s:Shared}{H:Hp}(e:ycp P w K mg base A outer s H)(C:Addr)(us:List Value)(kw:List (Str×Value)) :
  ycp P w K mg base (A.under (.builtin "type.__call__" ⟨.ref C::us,kw⟩)) outer s H:=⟨by first|exact e.frames|(simpa [Around.under,Code.envs,Code.isFrame,pushEnvs] using e.frames),e.mod,e.bs,e.bsz,e.funs,e.frf,e.hok,e.bare⟩
section
variable {X:Cx}{pins:List (Addr×Obj)}{σ:St}{H:Hp}{s s':Shared}
theorem Inv.env0 (I:Inv X pins σ H s):ycp X.prog X.w X.K X.mg X.base X.A X.stack s H :=
 ⟨I.ok.frames,I.ok.mod,I.bs,Nat.le_trans I.ok.bsz I.sz,I.stack,I.stkFree,I.hok,I.bare⟩
theorem Inv.after {Q:VK}{u:Value}(I:Inv X pins σ H s)(h:CE X.stack X.prog X.w H s Q u s'):EP X pins σ Q u s':=by
 obtain ⟨v,H',os,bare,un,hok,r,q⟩:=h
 obtain ⟨hh,g,d,t,os'⟩:=s'
 obtain rfl:os'=s.os:=os
 exact ⟨v,H',I.call (h':=hh) (g':=g) (d':=d) (t':=t) (ch:=[]) un hok bare (fun b z=>absurd z (by simp)),r,q⟩
end
def yek (C:Addr)(sp:Sp)(dvs:List V)(E:XK)(t:TA):TE:=fun σ H Q=>t σ H fun vs H1=>∀x dx,H1 x=none->H1 dx=none->dx≠x ->
 sp (.ref x::(vs++dvs)) (upd (upd H1 dx (.own x)) x (.ins C dx [])) (fun v H2=>v=.non/\Q (.ref x) H2) E
def Binds (K:PySem.W.Frag)(fd:FuncData)(ps:List Str)(ds:List Value):Prop :=
 ∀(s:Shared) (us:List Value),K.In s.heap->(us++ds).length=ps.length->BindsTo s fd ⟨us,[]⟩ (ps.zip (us++ds))
theorem Binds.all {K:PySem.W.Frag}{fd:FuncData}{ps:List Str}(h:∀us:List Value,us.length=ps.length->bindArgs fd ⟨us,[]⟩=pure (ps.zip us)):Binds K fd ps []:=fun s us _ hl=>by
 rw [List.append_nil] at hl ⊢
 exact .of_eq (h us hl)
def ybB (CX:CXT)(X:Cx)(E:XK):Prop:=∀(pins:List (Addr×Obj)) (σ:St) (H:Hp) (s:Shared) (e:Value) (s':Shared),Inv X pins σ H s->CX X.stack H s E e s'->X.xe e s'
section
variable {X:Cx}{CX:CXT}{k:Nat}{f C:Addr}{fd:FuncData}{ps:List Str}{sp:Sp}{dvs:List V}{ds:List Value}{E:XK}{x m:Str}{p pos apos:Pos}{e o:Expr}{es:List Expr}{ta:TE}{t:TA}
structure Mk (K:PySem.W.Frag)(C f:Addr):Prop where
 makes:PySem.W.makesIn K C=true
 init:PySem.W.findIn K (.ref C) "__init__"=some (some (.ref f))
 fn:PySem.W.isFn K (.ref f)=true
 kp:PySem.W.keepIn K (.ref C)=true
theorem zl1 {pins:List (Addr×Obj)}{σ:St}{H:Hp}{s:Shared}{Q:VK}{us:List Value}{vs:List V}(M:Mk X.K C f)(F:yaE X.prog X.w X.K X.mg X.base CX k f fd ps sp)(hr:yaj (k+1) X.A)(hb:Binds X.K fd ps ds)(hd:Vals dvs ds)
  (hx:ybB CX X E) (I:Inv X pins σ H s) (r:Vals vs us)
  (h:∀x dx,H x=none->H dx=none->dx≠x->sp (.ref x::(vs++dvs)) (upd (upd H dx (.own x)) x (.ins C dx [])) (fun v H2=>v=.non/\Q (.ref x) H2) E) :
  wpAny (model X.prog X.w) X.A (call (.ref C) us) (EP X pins σ Q) X.xe s:=by
 have hq:=h (s.heap.objs.size+1) s.heap.objs.size (I.hok.fresh (Nat.le_succ _)) (I.hok.fresh (Nat.le_refl _)) (Nat.ne_of_lt (Nat.lt_succ_self _))
 have I2:=Inv.made (C:=C) I
 have r2:Vals (V.ref (s.heap.objs.size+1)::(vs++dvs)) (Value.ref (s.heap.objs.size+1)::(us++ds)):=.cons rfl (r.append hd)
 have hl:(Value.ref (s.heap.objs.size+1)::us++ds).length=ps.length:=by
  have e:=r2.length
  rw [F.len _ _ _ _ hq] at e
  exact e.symm
 refine wpAny_call (zlQ (f:=f) I.kIn M.makes M.init (beq_iff_eq.mp M.fn) (codeAny_mono (F.run _ X.stack _ _ ⟨Value.ref (s.heap.objs.size+1)::us,[]⟩ (Value.ref (s.heap.objs.size+1)::(us++ds)) _ _ E (hr.make C us [])
  (I2.env0.make C us []) (hb _ (Value.ref (s.heap.objs.size+1)::us) I2.kIn hl) r2 hq) fun r s' hq'=>?_))
 cases r with
 |error e=>exact hx pins σ _ _ e s' I2 hq'
 |ok fl =>
  cases fl with
  |ret u =>
   obtain ⟨v,H',I3,rv,ev,q3⟩:=I2.after hq'
   subst ev
   exact ⟨rv,⟨V.ref (s.heap.objs.size+1),H',I3,rfl,q3⟩⟩
  |next=>exact False.elim hq'
  |brk=>exact False.elim hq'
  |cont=>exact False.elim hq'
theorem znH (M:Mk X.K C f)(F:yaE X.prog X.w X.K X.mg X.base CX k f fd ps sp)(hr:yaj (k+1) X.A)(hg:Gl X x)(hm:X.mg x=some (.ref C))(hb:Binds X.K fd ps ds)(hd:Vals dvs ds)(hx:ybB CX X E)
  (ha:PA X (e::es) t) (hdb:(x == ("__debug__":Str))=false:=by decide) (he:starEach (e::es) X.env=(false,eval e X.env)::starEach es X.env:=by rfl) (hpl:(backTo pos (starEach es X.env)).any (·.1)=false:=by rfl) :
  PE X (.Call (.Name x p) (e::es) [] pos) (yek C sp dvs E t):=by
 intro pins s σ H Q I h
 refine wpAny_Call_Name_kw (zeT I hg hm ?_ hdb)
 refine PySem.W.callWith_K (h₀:=X.base) I.ok.mod.kin M.kp (thn (ha pos pins s σ H _ I h) fun us s1 ⟨vs,H1,I1,r,q⟩=>⟨I1.kIn,?_⟩) he hpl
 exact zl1 M F hr hb hd hx I1 r q
end
def PK (X:Cx)(kws:List Keyword)(t:TA):Prop :=
 ∀(pos:Pos) (pins:List (Addr×Obj)) (s:Shared) (σ:St) (H:Hp) (Q:List V->Hp->Prop),Inv X pins σ H s->t σ H Q->wpAny (model X.prog X.w) X.A (evalAll ((backToKw pos (keywordEach kws X.env)).map (·.2))) (AP X pins σ Q) X.xe s
section
variable {X:Cx}{CX:CXT}{k:Nat}{f C:Addr}{fd:FuncData}{ps ks:List Str}{sp:Sp}{E:XK}{x m:Str}{p pos apos kpos:Pos}{e o:Expr}{es:List Expr}{kws:List Keyword}{te ta:TE}{t tk:TA}{nm:Option Str}
variable {g:List Value->List Value->List Value}{gV:List V->List V->List V}
end
structure yq (N P:List Str)(sc:Scope):Prop where
 kind:sc.kind=.function
 co:sc.isCoroutine=false
 gen:sc.isGenerator=false
 nd:N.Nodup
 pre:N.take P.length=P
 par:∀x∈P,sc.names.lookup x=some .local \/ sc.names.lookup x=some .cell
 nofree:∀y∈sc.names,y.2 ≠ .free
theorem zhC {kindOf:Str->Option NameKind}{x:Str}:∀{binds:List (Str×Value)} {m:Str->Option Value},(∀v,(x,v)∉binds)->bindL kindOf binds m x=m x
 | [],_,_=>rfl
 | (n,v)::r,m,h=>by
  unfold bindL
  rw [zhC fun w hw=>h w (List.mem_cons_of_mem _ hw)]
  split
  ·have:x≠n:=by rintro rfl;exact h v List.mem_cons_self
   simp [this]
  ·rfl
theorem zhE {kindOf:Str->Option NameKind}{x:Str}:∀{binds:List (Str×Value)} {m:Str->Option Value},(∀v,(x,v)∉binds)->bindC kindOf binds m x=m x
 | [],_,_=>rfl
 | (n,v)::r,m,h=>by
  unfold bindC
  rw [zhE fun w hw=>h w (List.mem_cons_of_mem _ hw)]
  split
  ·rfl
  ·have:x≠n:=by rintro rfl;exact h v List.mem_cons_self
   simp [this]
theorem zhD {kindOf:Str->Option NameKind}{x:Str}{v:Value}:∀{P:List Str} {vs:List Value} {i:Nat} {m:Str->Option Value},P.Nodup->P[i]?=some x->vs[i]?=some v->kindOf x=some .local ->
  bindL kindOf (P.zip vs) m x=some v
 | [],_,_,_,_,h,_,_=>by simp at h
 |_::_,[],_,_,_,_,h,_=>by simp at h
 |p::P,w::vs,0,m,nd,h1,h2,hk=>by
  simp at h1 h2;subst h1;subst h2
  show bindL kindOf ((p,w)::P.zip vs) m p=_
  unfold bindL
  rw [zhC fun v hv=>(List.nodup_cons.mp nd).1 (List.of_mem_zip hv).1,if_pos hk]
  simp
 |p::P,w::vs,i+1,m,nd,h1,h2,hk=>by
  show bindL kindOf ((p,w)::P.zip vs) m x=_
  unfold bindL
  exact zhD (i:=i) (List.nodup_cons.mp nd).2 (by simpa using h1) (by simpa using h2) hk
theorem zhg {kindOf:Str->Option NameKind}{x:Str}{v:Value}:∀{P:List Str} {vs:List Value} {i:Nat} {m:Str->Option Value},P.Nodup->P[i]?=some x->vs[i]?=some v->kindOf x≠some .local ->
  bindC kindOf (P.zip vs) m x=some v
 | [],_,_,_,_,h,_,_=>by simp at h
 |_::_,[],_,_,_,_,h,_=>by simp at h
 |p::P,w::vs,0,m,nd,h1,h2,hk=>by
  simp at h1 h2;subst h1;subst h2
  show bindC kindOf ((p,w)::P.zip vs) m p=_
  unfold bindC
  rw [zhE fun v hv=>(List.nodup_cons.mp nd).1 (List.of_mem_zip hv).1,if_neg hk]
  simp
 |p::P,w::vs,i+1,m,nd,h1,h2,hk=>by
  show bindC kindOf ((p,w)::P.zip vs) m x=_
  unfold bindC
  exact zhg (i:=i) (List.nodup_cons.mp nd).2 (by simpa using h1) (by simpa using h2) hk
def start (N:List Str)(vs:List V):St:=vs.map some++List.replicate (N.length - vs.length) none
def yaL (CX:CXT)(P:Program)(w:World)(K:PySem.W.Frag)(mg:Str->Option Value)(base:Heap)(N:List Str)(qual:Str)(scope:Scope)(f:Addr)(cd:Value)(A:Around)(outer:List Env)(s:Shared)(H:Hp)(E:XK):Cx where
 prog:=P
 w:=w
 K:=K
 mg:=mg
 base:=base
 A:=A.deeper (envOfC qual scope s.heap.objs.size f cd)
 N:=N
 s₀:=s
 H₀:=H
 env:=envOfC qual scope s.heap.objs.size f cd
 outer:=outer
 stack:=envOfC qual scope s.heap.objs.size f cd::outer
 ex:=[]
 calm:=true
 fn:=fun _=>true
 pn:=[]
 xe:=fun e s'=>wpAny (model P w) (A.deeper (envOfC qual scope s.heap.objs.size f cd)) (leaving (envOfC qual scope s.heap.objs.size f cd) e) (fun _ s''=>CX outer H s E e s'') (fun e' s''=>CX outer H s E e' s'') s'
theorem ziM {sc:Scope}{n:Nat}{x:Str}(h:sc.names.lookup x=some .cell):∃c,(cellsFrom n sc.names []).lookup x=some c:=by
 have q:=PySem.W.cellsFrom_some sc.names n [] (.inl h)
 exact Option.isSome_iff_exists.mp q
theorem zhv {CX:CXT}{P:Program}{w:World}{K:PySem.W.Frag}{mg:Str->Option Value}{base:Heap}{N ps:List Str}{qual:Str}{scope:Scope}{f:Addr}{cd:Value}{A:Around}{outer:List Env}{s s1:Shared}{H:Hp}{E:XK}{us:List Value}{vs:List V}
  (S:yq N ps scope) (hd:A.handled=none) (e0:ycp P w K mg base A outer s H) (hl:vs.length=ps.length) (r:Vals vs us)
  (x:InCallC s s.heap.objs.size (bindL (envOfC qual scope s.heap.objs.size f cd).kindOf (ps.zip us) fun _=>none) (cellsFrom (s.heap.objs.size+1) scope.names []) (bindC (envOfC qual scope s.heap.objs.size f cd).kindOf (ps.zip us) fun _=>none) s1) :
  Inv (yaL CX P w K mg base N qual scope f cd A outer s H E) [] (start N vs) H s1:=by
 have hpl:ps.length<=N.length:=by have:=congrArg List.length S.pre;rw [List.length_take] at this;omega
 obtain ⟨h1,tk,rfl,hk⟩:=x.done
 have noA:∀b:Addr,b∉(yaL CX P w K mg base N qual scope f cd A outer s H E).ex:=fun b z=>absurd (show b∈([]:List Addr) from z) (by simp)
 refine ⟨⟨e0.mod,S.kind,rfl,rfl,Nat.le_refl _,fun y z c h1 h2=>?_,fun y hy=>?_,fun y c _ h=>?_,fun _=>hd,Around.frames_deeper e0.frames,.inr ⟨rfl,rfl⟩,fun b z=>absurd z (noA b),e0.bs,e0.bsz,fun b _ _=>noA b,fun b z=>absurd z (noA b),e0.funs,e0.frf⟩,
  rfl,e0.bare,Un.kept hk,⟨_,x.toInCall.ns,fun i y v h1 h2 h3=>?_⟩,fun y c h=>⟨_,x.cell y c h⟩,e0.hok.fresh (Nat.le_refl _),fun y c h=>?_,fun p hp=>absurd (show p∈([]:List (Addr×Obj)) from hp) (by simp),e0.hok.kept hk,?_⟩
 ·exact name_of_addr x.apart (PySem.mem_of_lookup h1) (PySem.mem_of_lookup h2)
 ·have hy:scope.names.lookup y=some .cell \/ scope.names.lookup y=some .free:=hy
  rcases hy with hy|hy
  ·exact ziM hy
  ·exact absurd rfl (S.nofree _ (PySem.mem_of_lookup hy))
 ·exact Nat.le_of_lt (x.above y c (PySem.mem_of_lookup h))
 ·have hi:i<vs.length:=by
   unfold start at h2
   by_cases hi:i<vs.length
   ·exact hi
   ·rw [List.getElem?_append_right (by simpa using hi)] at h2
    rw [List.getElem?_replicate] at h2
    split at h2 <;> cases h2
  have ha:vs[i]?=some v:=by
   unfold start at h2
   rw [List.getElem?_append_left (by simpa using hi),List.getElem?_map] at h2
   cases e:vs[i]? with
   |none=>rw [e] at h2;cases h2
   |some a=>rw [e] at h2;cases h2;rfl
  obtain ⟨u,hu,rv⟩:=r.get ha
  have hp:ps[i]?=some y:=by
   rw [<- S.pre,List.getElem?_take_of_lt (by omega)];exact h1
  have ndP:ps.Nodup:=by rw [<- S.pre];exact S.nd.sublist (List.take_sublist _ _)
  refine ⟨u,rv,?_⟩
  rcases S.par y (List.mem_of_getElem? hp) with k|k
  ·exact .inl ⟨k,zhD ndP hp hu k⟩
  ·obtain ⟨c,e⟩:=ziM (n:=s.heap.objs.size+1) k
   refine .inr ⟨.inl k,c,e,?_⟩
   have q:=x.cell y c e
   rw [zhg ndP hp hu (by show scope.names.lookup y≠_;rw [k];decide)] at q
   exact q
 ·exact e0.hok.fresh (Nat.le_of_lt (x.above y c (PySem.mem_of_lookup h)))
 ·unfold start
  show _=N.length
  rw [List.length_append,List.length_map,List.length_replicate]
  omega
theorem zpE {CX:CXT}{P:Program}{w:World}{K:PySem.W.Frag}{mg:Str->Option Value}{base:Heap}{k:Nat}{f:Addr}{name qual:Str}{params:Arguments}{body:List Stmt}{scope:Scope}{dV kV doc pm cdv ct oc:Value}{an od:Option Addr}
  {osl:Array (Option Value)} {N ps:List Str} {sp:Sp} (lk:K.lookup f=some ⟨oc,od,.func (PySem.W.fnOf name qual params body scope dV kV doc pm an cdv ct),osl⟩) (hcd:PySem.W.codeIn K cdv qual=true) (S:yq N ps scope)
  (len:∀vs H Q E,sp vs H Q E->vs.length=ps.length)
  (hbody:∀(A:Around) (outer:List Env) (s:Shared) (H:Hp) (vs:List V) (Q:VK) (E:XK),yaj k (A.deeper (envOfC qual scope s.heap.objs.size f cdv))->sp vs H Q E ->
   ∃t,PSs (yaL CX P w K mg base N qual scope f cdv A outer s H E) body t/\t { nx:=fun _ H'=>Q .non H',rt:=Q } (start N vs) H) :
  yaE P w K mg base CX (k+1) f (PySem.W.fnOf name qual params body scope dV kV doc pm an cdv ct) ps sp:=by
 refine ⟨len,fun A outer s H args us vs Q E hr e0 hb r hsp=>?_⟩
 have hl:=len _ _ _ _ hsp
 have KX:K.In s.heap:=e0.mod.kin.keeps fun b o e=>(e0.bs b o e).1
 have lim:s.heap.NoLimit:=e0.mod.nolimit.keeps fun b o e=>(e0.bs b o e).1
 have hkind:∀y∈ps.zip us,scope.names.lookup y.1=some .local \/ (scope.names.lookup y.1=some .cell/\((cellsFrom (s.heap.objs.size+1) scope.names []).lookup y.1).isSome=true):=fun ⟨n,v⟩ hy=>by
  rcases S.par n (List.of_mem_zip hy).1 with q|q
  ·exact .inl q
  ·exact .inr ⟨q,PySem.W.cellsFrom_some _ _ _ (.inl q)⟩
 refine codeAny_call_function hr.depth (KX _ _ lk) rfl S.co S.gen rfl (PySem.W.codeRec_of KX hcd) (hb _ _ _ _ ?_)
 refine wpAny_newFunctionEnv_cells S.kind hkind fun env he s1 x=>?_
 subst he
 refine ⟨lim.keeps x.toInCall.keep,codeAny_func ?_⟩
 obtain ⟨t,ht,hq⟩:=hbody A outer s H vs Q E (hr.deeper _) hsp
 have I:Inv (yaL CX P w K mg base N qual scope f cdv A outer s H E) [] (start N vs) H s1:=zhv S hr.hd e0 hl r x
 refine wpAny_mono (ht [] s1 (start N vs) H _ I hq) (fun fl s' hs=>?_) fun e s' hs=>hs
 have fin:∀{σ':St} {H':Hp} {v:V} {u:Value},Inv (yaL CX P w K mg base N qual scope f cdv A outer s H E) [] σ' H' s'->RelV v u->Q v H'->CE outer P w H s Q u s' :=
  fun {σ' H' v u} J rv q=>⟨v,H',J.os,J.bare,J.base,J.hok,rv,q⟩
 cases fl with
 |ret u =>
  obtain ⟨v,σ',H',J,rv,q⟩:=hs
  exact fin J rv q
 |next =>
  obtain ⟨σ',H',J,q⟩:=hs
  exact fin (v:=V.non) (u:=Value.none) J rfl q
 |brk =>
  obtain ⟨_,_,_,q⟩:=hs
  exact False.elim q
 |cont =>
  obtain ⟨_,_,_,q⟩:=hs
  exact False.elim q
section
variable {X:Cx}{x:Str}{p pos:Pos}{e:Expr}{es:List Expr}{t:TA}{id T:String}{r:List V->Hp->VK->Prop}
def tCB (r:List V->Hp->VK->Prop)(t:TA):TE:=fun σ H Q=>t σ H fun vs H1=>r vs H1 Q
theorem zfi (hc:yad X (.builtin id) r)(hg:Gl X x)(hm:X.mg x=none)(hv:bootBuiltins x=some (.builtin id))(ha:PA X (e::es) t)(hn:x ≠ "__name__":=by decide)(hdb:(x == ("__debug__":Str))=false:=by decide)
  (he:starEach (e::es) X.env=(false,eval e X.env)::starEach es X.env:=by rfl) (hpl:(backTo pos (starEach es X.env)).any (·.1)=false:=by rfl):PE X (.Call (.Name x p) (e::es) [] pos) (tCB r t):=by
 intro pins s σ H Q I h
 refine wpAny_Call_Name_kw (zgv I hg hm hv ?_ hn hdb)
 exact PyProof.Rows.callWith_builtin1 (thn (ha pos pins s σ H _ I h) fun us s1 ⟨vs,H1,I1,r1,q1⟩=>hc pins s1 σ H1 vs us Q I1 r1 q1) he hpl
theorem zhz (hc:yad X (.type T) r)(hg:Gl X x)(hm:X.mg x=none)(hv:bootBuiltins x=some (.type T))(ha:PA X (e::es) t)(hn:x ≠ "__name__":=by decide)(hdb:(x == ("__debug__":Str))=false:=by decide)
  (he:starEach (e::es) X.env=(false,eval e X.env)::starEach es X.env:=by rfl) (hpl:(backTo pos (starEach es X.env)).any (·.1)=false:=by rfl):PE X (.Call (.Name x p) (e::es) [] pos) (tCB r t):=by
 intro pins s σ H Q I h
 refine wpAny_Call_Name_kw (zgv I hg hm hv ?_ hn hdb)
 exact PyProof.Rows.callWith_type1 (thn (ha pos pins s σ H _ I h) fun us s1 ⟨vs,H1,I1,r1,q1⟩=>hc pins s1 σ H1 vs us Q I1 r1 q1) he hpl
end
end L2
namespace HT
open PySem PyProof.Rows
section
open PySem.SeqAt
open PySem.AutoSeq1 (wpAny_loadPart')
open PySem.MeetsSeq PySem.MeetsSeq2 PySem.MeetsSeq3
end
section
variable {prog:Program}{w:World}{A:Around}{E:Value->Shared->Prop}{s:Shared}
theorem cat_tup {t b:Addr}{vs ws:List Value}{Q:Value->Shared->Prop}(ht:IsTup s.heap t vs.toArray)(hb:IsTup s.heap b ws.toArray)(hv:vs≠[])
  (h1:ws=[]->Q (.ref t) s) (h2:ws≠[]->Q (.ref s.heap.objs.size) { s with heap:=s.heap.push { cls:=.type "tuple",data:=.seq (vs++ws).toArray } })
  (hsz:vs.length+ws.length<=sizeLine):wpAny (model prog w) A (binaryOp .Add (.ref t) (.ref b)) Q E s:=by
 obtain ⟨⟨cls,dd,data,sl⟩,ho,hc,n,hd⟩:=id ht
 obtain ⟨⟨cls2,dd2,data2,sl2⟩,ho2,hc2,n2,hd2⟩:=id hb
 simp only at hc hd hc2 hd2
 subst hc hd hc2 hd2
 have e:vs.toArray++ws.toArray=(vs++ws).toArray:=by simp
 by_cases hw:ws=[]
 ·exact concat_meets ⟨_,ho,rfl⟩ ⟨_,ho2,rfl⟩ noFill_tuple_add seq_tuple_add PySem.F.slot_tuple_add PySem.F.entry_tuple_add (PySem.F.args_tuple_add_2 _ _)
   (tuple_addW1 t b vs.toArray ws.toArray n n2 dd dd2 sl sl2 (by simpa using hv) (by simp [hw])) ⟨ho,ho2,h1 hw⟩
 ·refine concat_meets ⟨_,ho,rfl⟩ ⟨_,ho2,rfl⟩ noFill_tuple_add seq_tuple_add PySem.F.slot_tuple_add PySem.F.entry_tuple_add (PySem.F.args_tuple_add_2 _ _)
   (tuple_addW2 t b vs.toArray ws.toArray n n2 dd dd2 sl sl2 (by simpa using hv) (by simpa using hw) (by rw [List.size_toArray,List.size_toArray];exact hsz)) ⟨ho,ho2,?_⟩
  rw [e]
  exact h2 hw
def sIx (n d:Nat):Option Int->Nat
 |none=>d
 |some v=>if v<0 then (v+(n:Int)).toNat else min v.toNat n
theorem sIx_le (n d:Nat)(hd:d<=n)(o:Option Int):sIx n d o<=n:=by
 cases o with
 |none=>exact hd
 |some v =>
  show (if v<0 then (v+(n:Int)).toNat else min v.toNat n)<=n
  by_cases hv:v<0
  ·rw [if_pos hv];omega
  ·rw [if_neg hv];exact Nat.min_le_right _ _
theorem zkx (v:Int)(n d:Nat):(if v<0 then max (v+(n:Int)) 0 else min v (n:Int))=((sIx n d (some v):Nat):Int):=by
 show (if v<0 then max (v+(n:Int)) 0 else min v (n:Int))=(((if v<0 then (v+(n:Int)).toNat else min v.toNat n):Nat):Int)
 by_cases hv:v<0
 ·simp only [if_pos hv];omega
 ·simp only [if_neg hv];omega
theorem zjl (lo hi:Option Int)(n:Nat):Builtin.Slice.sliceAdjust lo hi 1 (n:Int)=(((sIx n 0 lo:Nat):Int),((sIx n n hi:Nat):Int)):=by
 have h1:¬((1:Int)<0):=by omega
 unfold Builtin.Slice.sliceAdjust
 simp only [h1,if_false]
 refine Prod.ext ?_ ?_
 ·cases lo with
  |none=>rfl
  |some v=>exact zkx v n 0
 ·cases hi with
  |none=>rfl
  |some v=>exact zkx v n n
theorem zjo (i j:Nat):Builtin.Slice.slicePlaces (i:Int) (j:Int) 1=j - i:=by
 unfold Builtin.Slice.slicePlaces
 have h1:(1:Int) > 0:=by omega
 simp only [h1,if_true,Int.ediv_one]
 split <;> omega
theorem zgw {v:Value}{o:Option Int}{Q:Option Int->Shared->Prop}(p:IsPart v o)(h:Q o s):wpAny (model prog w) A (Builtin.Slice.slicePartIndex v) Q E s:=by
 cases p with
 |none=>exact slicePart_none h
 |int i t=>exact slicePart_int h
theorem sliceApplied_gen {sl:Addr}{vl vu:Value}{lo hi:Option Int}{n:Nat}{Q:Int×Int×Nat->Shared->Prop}(hs:s.heap.IsSliceOf sl vl vu .none)(pl:IsPart vl lo)(pu:IsPart vu hi)
  (h:Q (((sIx n 0 lo:Nat):Int),1,sIx n n hi - sIx n 0 lo) s):wpAny (model prog w) A (Builtin.Slice.sliceApplied (.ref sl) (pure (n:Int))) Q E s:=by
 obtain ⟨os,hos,hcs,hds⟩:=id hs
 unfold Builtin.Slice.sliceApplied Builtin.Slice.sliceFields
 refine wpAny_bind (wpAny_bind (wpAny_field hos hds (x:=vl) rfl (wpAny_bind (wpAny_field hos hds (x:=vu) rfl (wpAny_bind (wpAny_field hos hds (x:=.none) rfl (wpAny_pure ?_)))))))
 refine wpAny_bind (slicePart_none ?_)
 show wpAny _ _ (if ((1:Int) == 0)=true then _ else _) _ _ s
 rw [if_neg (by decide)]
 refine wpAny_bind (zgw pl (wpAny_bind (zgw pu (wpAny_bind (wpAny_pure ?_)))))
 show wpAny _ _ (match Builtin.Slice.sliceAdjust lo hi 1 (n:Int) with|(lo,hi)=>pure (lo,(1:Int),Builtin.Slice.slicePlaces lo hi 1)) _ _ s
 rw [zjl lo hi n]
 show wpAny _ _ (pure (((sIx n 0 lo:Nat):Int),(1:Int),Builtin.Slice.slicePlaces ((sIx n 0 lo:Nat):Int) ((sIx n n hi:Nat):Int) 1)) _ _ s
 rw [zjo]
 exact wpAny_pure h
theorem zlH (xs:Array Value)(i k:Nat):((List.range k).filterMap fun (m:Nat)=>xs[((i:Int)+(m:Int)*1).toNat]?).toArray=((xs.toList.drop i).take k).toArray:=by
 have e:(fun (m:Nat)=>xs[((i:Int)+(m:Int)*1).toNat]?)=fun m=>xs[i+m]?:=by
  funext m
  have:((i:Int)+(m:Int)*1).toNat=i+m:=by omega
  rw [this]
 rw [e]
 have:=pick_run xs i k
 rw [List.filterMap_map] at this
 have e2:((fun x=>xs[x]?) ∘ fun x=>i+x)=fun m=>xs[i+m]?:=rfl
 rw [e2] at this
 rw [this]
theorem getItem_tuple_cut {t sl:Addr}{items:Array Value}{vl vu:Value}{lo hi:Option Int}{Q:Value->Shared->Prop}(ht:IsTup s.heap t items)(hs:s.heap.IsSliceOf sl vl vu .none)(pl:IsPart vl lo)(pu:IsPart vu hi)
  (hw:¬(sIx items.size 0 lo=0/\sIx items.size items.size hi=items.size))
  (h:Q (.ref s.heap.objs.size) { s with heap:=s.heap.push { cls:=.type "tuple",data:=.seq ((items.toList.drop (sIx items.size 0 lo)).take (sIx items.size items.size hi - sIx items.size 0 lo)).toArray } })
  (hsz:items.size<=sizeLine):wpAny (model prog w) A (getItem (.ref t) (.ref sl)) Q E s:=by
 have htake:sizeOk (.seq ((items.toList.drop (sIx items.size 0 lo)).take (sIx items.size items.size hi - sIx items.size 0 lo)).toArray):=by
  show ((items.toList.drop (sIx items.size 0 lo)).take (sIx items.size items.size hi - sIx items.size 0 lo)).toArray.size<=sizeLine
  rw [List.size_toArray,List.length_take,List.length_drop,Array.length_toList]
  omega
 have hj:sIx items.size items.size hi<=items.size:=sIx_le _ _ (Nat.le_refl _) hi
 obtain ⟨os,hos,hcs,hds⟩:=id hs
 have hTs:s.TypeIs (.ref sl) "slice":=⟨os,hos,hcs⟩
 unfold getItem
 try with_reducible refine wpAny_holding ?_
 first|refine wpAny_bind (wpAny_pure ?_)|skip
 refine wpAny_bind (wpAny_sequenceKey ht.typeIs (by decide) ?_)
 refine wpAny_bind (wpAny_callSpecial?_slot (name:=Str.ofString "__getitem__") ht.typeIs PyProof.Rows.slot_tuple_getitem
  (wpAny_call_entry PyProof.Rows.slot_tuple_getitem ht.typeIs entry_tuple_getitem ?_ (args_tuple_getitem _ _)))
 show wpAny _ _ (Builtin.Tuple.tupleItemsOf (.ref t) >>= _) _ _ s
 refine wpAny_bind (tupleItemsOf_ ht ?_)
 refine wpAny_bind (wpAny_typeOf hTs ?_)
 rw [if_pos (by decide)]
 refine wpAny_bind (sliceApplied_gen hs pl pu ?_)
 have hno:¬((((sIx items.size 0 lo:Nat):Int) == 0 && (1:Int) == 1 && (sIx items.size items.size hi - sIx items.size 0 lo) == items.size)=true):=by
  intro q
  rw [Bool.and_eq_true,Bool.and_eq_true] at q
  have q1:((sIx items.size 0 lo:Nat):Int)=0:=eq_of_beq q.1.1
  have q2:sIx items.size items.size hi - sIx items.size 0 lo=items.size:=eq_of_beq q.2
  exact hw ⟨by omega,by omega⟩
 show wpAny _ _ (if (((sIx items.size 0 lo:Nat):Int) == 0 && (1:Int) == 1 && (sIx items.size items.size hi - sIx items.size 0 lo) == items.size)=true then _ else _) _ _ s
 rw [if_neg hno,zlH]
 first
  | exact wpAny_bind (m:=Builtin.Tuple.tupleExact _) (wpAny_newObj_type (wpAny_pure ⟨_,rfl,wpAny_pure h⟩) htake)
  | exact wpAny_bind (m:=Builtin.Tuple.tupleExact _) (wpAny_newObj_type (wpAny_bind (wpAny_pure (wpAny_pure ⟨_,rfl,wpAny_pure h⟩))) htake)
  | exact wpAny_bind (wpAny_bind (m:=Builtin.Tuple.tupleExact _) (wpAny_newObj_type (wpAny_pure (wpAny_pure ⟨_,rfl,wpAny_pure h⟩)) htake))
  | exact wpAny_bind (wpAny_bind (m:=Builtin.Tuple.tupleExact _) (wpAny_newObj_type (wpAny_pure ⟨_,rfl,wpAny_pure h⟩) htake))
end
end HT
namespace L2
open PySem PySem.Spec PyProof.Rows
abbrev TO:=St->Hp->(Option Int->Hp->Prop)->Prop
def PO (X:Cx)(e:Option Expr)(t:TO):Prop :=
 ∀(pins:List (Addr×Obj)) (s:Shared) (σ:St) (H:Hp) (Q:Option Int->Hp->Prop),Inv X pins σ H s->t σ H Q ->
  wpAny (model X.prog X.w) X.A (evalPart e X.env) (fun u s'=>∃o H',Inv X pins σ H' s'/\IsPart u o/\Q o H') X.xe s
def ycO:TO:=fun _ H Q=>Q none H
section
variable {X:Cx}{e:Expr}{te:TE}{lo hi:Option Expr}{tl th:TO}{pos p2:Pos}
theorem znn:PO X none ycO:=by
 intro pins s σ H Q I h
 rw [evalPart_none]
 exact wpAny_pure ⟨none,H,I,.none,h⟩
def SlR (X:Cx)(r:V->Option Int->Option Int->Hp->VK->Prop):Prop :=
 ∀(pins:List (Addr×Obj)) (s:Shared) (σ:St) (H:Hp) (x:V) (v vl vu:Value) (lo hi:Option Int) (sl:Addr) (Q:VK),Inv X pins σ H s->RelV x v->s.heap.IsSliceOf sl vl vu .none->IsPart vl lo->IsPart vu hi->r x lo hi H Q ->
  ∃T id,typeLookup (.type T) "__getitem__"=pure (some (.builtin id))/\s.TypeIs v T/\wpAny (model X.prog X.w) X.A (getItem v (.ref sl)) (EP X pins σ Q) X.xe s
def tSl (r:V->Option Int->Option Int->Hp->VK->Prop)(te:TE)(tl th:TO):TE:=fun σ H Q=>te σ H fun x H1=>tl σ H1 fun l H2=>th σ H2 fun u H3=>r x l u H3 Q
theorem zmz {r:V->Option Int->Option Int->Hp->VK->Prop}(hr:SlR X r)(he:PE X e te)(hl:PO X lo tl)(hu:PO X hi th):PE X (.Subscript e (.Slice lo hi none p2) pos) (tSl r te tl th):=by
 intro pins s σ H Q I h
 refine Subscript_ (thn (he pins s σ H _ I h) fun v s1 ⟨x,H1,I1,r1,q1⟩=>?_)
 refine wpAny_Slice (thn (hl pins s1 σ H1 _ I1 q1) fun vl s2 ⟨l,H2,I2,pl,q2⟩=>thn (hu pins s2 σ H2 _ I2 q2) fun vu s3 ⟨u,H3,I3,pu,q3⟩=>?_)
 rw [evalPart_none]
 refine wpAny_pure ?_
 have I4:Inv X pins σ H3 { s3 with heap:=s3.heap.push { cls:=.type "slice",data:=.fields #[vl,vu,.none] } }:=I3.kept (t':=s3.toks) fun b ob q=>Heap.get?_push_of_some _ q
 obtain ⟨T,id,hT,ht,hg⟩:=hr pins { s3 with heap:=s3.heap.push { cls:=.type "slice",data:=.fields #[vl,vu,.none] } } σ H3 x v vl vu l u s3.heap.objs.size Q I4 r1 (Heap.IsSliceOf.new ..) pl pu q3
 show wpAny (model X.prog X.w) X.A (subscriptTail e (.Slice lo hi none p2) v (.ref s3.heap.objs.size)) (EP X pins σ Q) X.xe { s3 with heap:=s3.heap.push { cls:=.type "slice",data:=.fields #[vl,vu,.none] } }
 exact tail_any (ops:=[.ref s3.heap.objs.size,v]) ht hT hg (by with_unfolding_all rfl)
def yct (xs:List V)(lo hi:Option Int):List V:=(xs.drop (HT.sIx xs.length 0 lo)).take (HT.sIx xs.length xs.length hi - HT.sIx xs.length 0 lo)
theorem zfV (xs:List V)(lo hi:Option Int):(yct xs lo hi).length<=xs.length:=by
 unfold yct
 rw [List.length_take,List.length_drop]
 omega
def yfl (K:PySem.W.Frag):V->Option Int->Option Int->Hp->VK->Prop:=fun x lo hi H Q=>∃a xs,x=.ref a/\SqT K H a xs /\
 ¬(HT.sIx xs.length 0 lo=0/\HT.sIx xs.length xs.length hi=xs.length)/\∀p,H p=none->Q (.ref p) (upd H p (.tup (yct xs lo hi)))
theorem zoC:SlR X (yfl X.K):=by
 intro pins s σ H x v vl vu lo hi sl Q I rx hs pl pu h
 obtain ⟨a,xs,rfl,hx,hw,q⟩:=h
 cases rx
 obtain ⟨its,r,ht,hz⟩:=I.tuple hx
 have hlen:its.toArray.size=xs.length:=by rw [List.size_toArray];exact r.length.symm
 refine ⟨"tuple",_,PyProof.Rows.slot_tuple_getitem.lookup,ht.typeIs,?_⟩
 refine HT.getItem_tuple_cut ht hs pl pu (by rw [hlen];exact hw) ?_ (by rw [hlen];exact hz)
 rw [hlen]
 refine ⟨.ref s.heap.objs.size,_,I.laid (t':=s.toks) (o:=.tup (yct xs lo hi)) (fun b ob q=>Heap.get?_push_of_some _ q) (Nat.le_refl _) ?_,rfl,q _ (I.hok.fresh (Nat.le_refl _))⟩
 exact ⟨Nat.le_trans (zfV xs lo hi) hz,_,(r.drop (HT.sIx xs.length 0 lo)).take (HT.sIx xs.length xs.length hi - HT.sIx xs.length 0 lo),IsTup.new _ _⟩
def yec (K:PySem.W.Frag):R2:=fun x y H Q=>∃a b xs ys,x=.ref a/\y=.ref b/\SqT K H a xs/\SqT K H b ys/\xs≠[]/\xs.length+ys.length<=sizeLine /\
 (ys=[]->Q (.ref a) H)/\(ys≠[]->∀p,H p=none->Q (.ref p) (upd H p (.tup (xs++ys))))
theorem Vals.nil_iff {xs:List V}{us:List Value}(r:Vals xs us):us=[] ↔ xs=[]:=by
 cases r with
 |nil=>simp
 |cons _ _=>simp
theorem znX:OpR X (binaryOp .Add) (yec X.K):=by
 intro pins s σ H x y v u Q I rx ry h
 obtain ⟨a,b,xs,ys,rfl,rfl,ha,hb,hx,hz,q1,q2⟩:=h
 cases rx
 cases ry
 obtain ⟨its,r1,p1,_⟩:=I.tuple ha
 obtain ⟨its2,r2,p2,_⟩:=I.tuple hb
 refine HT.cat_tup p1 p2 (fun z=>hx (r1.nil_iff.mp z)) (fun z=>⟨.ref a,H,I,rfl,q1 (r2.nil_iff.mp z)⟩) (fun z=>?_) (by rw [<- r1.length,<- r2.length];exact hz)
 refine ⟨.ref s.heap.objs.size,_,I.laid (t':=s.toks) (o:=.tup (xs++ys)) (fun b ob q=>Heap.get?_push_of_some _ q) (Nat.le_refl _) ?_,rfl,q2 (fun w=>z (r2.nil_iff.mpr w)) _ (I.hok.fresh (Nat.le_refl _))⟩
 exact ⟨by rw [List.length_append];exact hz,_,r1.append r2,IsTup.new _ _⟩
end
def ixN (n:Nat)(i:Int):Option Nat:=if 0<=i then (if i<n then some i.toNat else none) else if -(n:Int)<=i then some (i+n).toNat else none
def atI {α:Type}(xs:List α)(i:Int):Option α:=(ixN xs.length i).bind fun j=>xs[j]?
theorem zkI {n:Nat}{i:Int}{j:Nat}(h:ixN n i=some j):seqIndex? i n=some j/\j<n/\-(n:Int)<=i/\i<n:=by
 unfold ixN at h
 by_cases h0:0<=i
 ·rw [if_pos h0] at h
  by_cases h1:i<n
  ·rw [if_pos h1] at h
   have e:i.toNat=j:=Option.some.inj h
   exact ⟨by rw [seqIndex_of h0 h1,e],by omega,by omega,h1⟩
  ·rw [if_neg h1] at h;cases h
 ·rw [if_neg h0] at h
  by_cases h1:-(n:Int)<=i
  ·rw [if_pos h1] at h
   have e:(i+n).toNat=j:=Option.some.inj h
   exact ⟨by rw [seqIndex_neg (by omega) h1,e],by omega,h1,by omega⟩
  ·rw [if_neg h1] at h;cases h
theorem zig {α:Type}{xs:List α}{i:Int}{v:α}(h:atI xs i=some v):∃j,seqIndex? i xs.length=some j/\xs[j]?=some v/\j<xs.length/\-(xs.length:Int)<=i/\i<xs.length:=by
 unfold atI at h
 cases e:ixN xs.length i with
 |none=>rw [e] at h;cases h
 |some j =>
  rw [e] at h
  obtain ⟨h1,h2,h3,h4⟩:=zkI e
  exact ⟨j,h1,h,h2,h3,h4⟩
def ybW (b:Expr):Prop:=∀o i,subscripted b false o i=operate [o,i] (getItem o i)
def IxR (X:Cx)(r:R2):Prop :=
 ∀(value slice:Expr) (pins:List (Addr×Obj)) (s:Shared) (σ:St) (H:Hp) (x y:V) (v u:Value) (Q:VK),Inv X pins σ H s->RelV x v->RelV y u->r x y H Q ->
  subscripted slice false v u=operate [v,u] (getItem v u)->wpAny (model X.prog X.w) X.A (subscriptTail value slice v u) (EP X pins σ Q) X.xe s
def MtR (X:Cx)(id:String)(r:V->List V->Hp->VK->Prop):Prop :=
 ∀(pins:List (Addr×Obj)) (s:Shared) (σ:St) (H:Hp) (x:V) (xs:List V) (v:Value) (us:List Value) (Q:VK),Inv X pins σ H s->RelV x v->Vals xs us->r x xs H Q ->
  wpAny (model X.prog X.w) X.A (call (.builtin id) (v::us)) (EP X pins σ Q) X.xe s
section
variable {X:Cx}{a b:Expr}{ta tb:TE}{pos:Pos}
theorem IxR.or {r r':R2}(h:IxR X r)(h':IxR X r'):IxR X (fun x y H Q=>r x y H Q \/ r' x y H Q):=by
 intro value slice pins s σ H x y v u Q I rx ry q hs
 rcases q with q|q
 ·exact h value slice pins s σ H x y v u Q I rx ry q hs
 ·exact h' value slice pins s σ H x y v u Q I rx ry q hs
theorem zpD {r:R2}(hr:IxR X r)(ha:PE X a ta)(hb:PE X b tb)(hs:ybW b):PE X (.Subscript a b pos) (tOp r ta tb):=by
 intro pins s σ H Q I h
 exact Subscript_ (yeh ha hb I h fun v u s2 x y H2 I2 rx ry q=>hr a b pins s2 σ H2 x y v u Q I2 rx ry q (hs _ _))
def yeZ (K:PySem.W.Frag):R2:=fun x y H Q=>∃p xs i v,x=.ref p/\y=.int i/\SqL K H p xs/\atI xs i=some v/\Q v H
def yeN (K:PySem.W.Frag):R2:=fun x y H Q=>∃p xs i v,x=.ref p/\y=.int i/\SqT K H p xs/\atI xs i=some v/\Q v H
def yeX:R2:=fun x y H Q=>∃z i c,x=.str z/\y=.int i/\z.length<=sizeLine/\atI z.cps.toList i=some c/\Q (.str ⟨#[c]⟩) H
theorem ycK:IxR X (yeZ X.K):=by
 intro value slice pins s σ H x y v u Q I rx ry h hs
 obtain ⟨p,xs,i,z,rfl,rfl,hq,he,q⟩:=h
 cases rx
 obtain ⟨t,rfl⟩:=ry
 obtain ⟨its,r,pl,hz⟩:=I.list hq
 obtain ⟨j,h1,h2,h3,h4,h5⟩:=zig he
 obtain ⟨w,ew,rw'⟩:=r.get h2
 have hl:=r.length
 have hn:=yaH
 have fin:EP X pins σ Q w s:=⟨z,H,I,rw',q⟩
 by_cases h0:0<=i
 ·have hj:i.toNat=j:=by
   rw [seqIndex_of h0 h5] at h1
   exact Option.some.inj h1
  exact item_listR pl.isList h0 (by omega) (by rw [hj];simpa using ew) fin hs
 ·have hj:(i+(its.toArray.size:Int)).toNat=j:=by
   rw [seqIndex_neg (by omega) h4] at h1
   rw [List.size_toArray,<- hl]
   exact Option.some.inj h1
  exact subscriptTail_builtinR (x:=w) pl.isList.typeIs slot_list_getitem.lookup
   (wpAny_getItem_list_neg (Q:=fun r s'=>r=w/\EP X pins σ Q r s') pl.isList (by omega) (by rw [List.size_toArray] <;> omega) (by omega) (by rw [hj];simpa using ew) ⟨rfl,fin⟩) hs
theorem ydk:IxR X (yeN X.K):=by
 intro value slice pins s σ H x y v u Q I rx ry h hs
 obtain ⟨p,xs,i,z,rfl,rfl,hq,he,q⟩:=h
 cases rx
 obtain ⟨t,rfl⟩:=ry
 obtain ⟨its,r,pl,hz⟩:=I.tuple hq
 obtain ⟨j,h1,h2,h3,h4,h5⟩:=zig he
 obtain ⟨w,ew,rw'⟩:=r.get h2
 have hl:=r.length
 have hn:=yaH
 have fin:EP X pins σ Q w s:=⟨z,H,I,rw',q⟩
 exact subscriptTail_builtinR (x:=w) pl.typeIs slot_tuple_getitem.lookup
  (getItem_tuple (j:=j) (Q:=fun r s'=>r=w/\EP X pins σ Q r s') pl (by omega) (by omega) (by rw [List.size_toArray,<- hl];exact h1) (by simpa using ew) ⟨rfl,fin⟩) hs
theorem zoF:IxR X yeX:=by
 intro value slice pins s σ H x y v u Q I rx ry h hs
 obtain ⟨z,i,c,rfl,rfl,hz,he,q⟩:=h
 obtain ⟨t,rfl⟩:=rx
 obtain ⟨t',rfl⟩:=ry
 obtain ⟨j,h1,h2,h3,h4,h5⟩:=zig he
 have hl:z.cps.toList.length=z.length:=by simp [Str.length]
 rw [hl] at h1 h4 h5
 have hn:=yaH
 exact tail_any (typeIs_str s z t) slot_str_getitem.lookup (getItem_str (c:=c) (by
  have e1:decide (i < -(2 ^ 63:Int))=false:=decide_eq_false (by omega)
  have e2:decide (i ≥ 2 ^ 63)=false:=decide_eq_false (by omega)
  rw [e1,e2,Bool.or_false]) (by rw [h1];simpa using h2) ⟨.str ⟨#[c]⟩,H,I.tok _,⟨_,rfl⟩,q⟩) hs
def rIx (K:PySem.W.Frag):R2:=fun x y H Q=>yeZ K x y H Q \/ yeN K x y H Q \/ yeX x y H Q
theorem zjc:IxR X (rIx X.K):=ycK.or (ydk.or zoF)
theorem zji (its:List Value)(n j:Nat)(u:Value):Obj.mapSeq (·.setIfInBounds j u) { cls:=.type "list",data:=.seq its.toArray n }={ cls:=.type "list",data:=.seq (its.set j u).toArray n }:=by
 simp [Obj.mapSeq]
theorem Inv.lst {pins:List (Addr×Obj)}{σ:St}{H:Hp}{s:Shared}{p:Addr}{xs:List V}(I:Inv X pins σ H s)(h:H p=some (.lst xs)) :
  ∃(its:List Value) (n:Nat),Vals xs its/\s.heap.get? p=some { cls:=.type "list",data:=.seq its.toArray n }/\xs.length<=sizeLine:=by
 obtain ⟨z,its,n,r,e⟩:=I.hok p _ h
 exact ⟨its,n,r,e,z⟩
theorem Inv.lstUpd {pins:List (Addr×Obj)}{σ:St}{H:Hp}{s:Shared}{p:Addr}{xs ys:List V}{its its':List Value}{n n':Nat}{f:Obj->Obj}(I:Inv X pins σ H s)(h:H p=some (.lst xs))
  (ho:s.heap.get? p=some { cls:=.type "list",data:=.seq its.toArray n }) (hf:f { cls:=.type "list",data:=.seq its.toArray n }={ cls:=.type "list",data:=.seq its'.toArray n' }) (r:Vals ys its') (hz:ys.length<=sizeLine) (t:Nat) :
  Inv X pins σ (upd H p (.lst ys)) { s with heap:=s.heap.update p f,toks:=t }:=by
 have e:(s.heap.update p f).get? p=some { cls:=.type "list",data:=.seq its'.toArray n' }:=by
  rw [Heap.get?_update_self f ho (by rw [hf] <;> rfl),hf]
 refine I.write (x:=p) (e:=p) (by rw [h];trivial) (.inl rfl) (fun b u hb q=>(Heap.get?_update_other _ _ (Ne.symm hb)).trans q) ⟨_,e⟩ ?_
 exact ⟨hz,its',n',r,e⟩
def ybY:V->V->V->Hp->(Hp->Prop)->Prop:=fun o i v H Q=>∃p xs k j,o=.ref p/\i=.int k/\H p=some (.lst xs)/\ixN xs.length k=some j/\Q (upd H p (.lst (xs.set j v)))
theorem zbw:yef X ybY:=by
 intro pins s σ H o i v ov iv u Q I ro ri rv h
 obtain ⟨p,xs,k,j,rfl,rfl,hp,hj,q⟩:=h
 cases ro
 obtain ⟨t,rfl⟩:=ri
 obtain ⟨its,n,r,ho,hz⟩:=I.lst hp
 obtain ⟨h1,h2,h3,h4⟩:=zkI hj
 have hl:=r.length
 have hn:=yaH
 have I':Inv X pins σ (upd H p (.lst (xs.set j v))) { s with heap:=s.heap.update p (Obj.mapSeq (·.setIfInBounds j u)) } :=
  I.lstUpd hp ho (zji its n j u) (r.set rv j) (by rw [List.length_set];exact hz) s.toks
 by_cases h0:0<=k
 ·have hk:k.toNat=j:=by
   rw [seqIndex_of h0 h4] at h1
   exact Option.some.inj h1
  exact PySem.W.ki_setAt ho h0 (by omega) (by rw [List.size_toArray,<- hl];exact h4) (by rw [hk];exact ⟨_,I',q⟩)
 ·have hk:(k+(its.toArray.size:Int)).toNat=j:=by
   rw [seqIndex_neg (by omega) h3] at h1
   rw [List.size_toArray,<- hl]
   exact Option.some.inj h1
  exact PySem.W.ki_setBack ho (by omega) (by rw [List.size_toArray,<- hl];exact h3) (by omega) (by rw [hk];exact ⟨_,I',q⟩)
theorem zhk (lo hi:Option Int)(n:Nat):(sliceBounds lo hi none n).1=((HT.sIx n 0 lo:Nat):Int)/\(sliceBounds lo hi none n).2.1=((HT.sIx n n hi:Nat):Int)/\(sliceBounds lo hi none n).2.2=1:=by
 refine ⟨?_,?_,rfl⟩
 ·cases lo with
  |none=>simp [sliceBounds,HT.sIx]
  |some i =>
   simp only [sliceBounds,HT.sIx,Option.getD_none,show (1:Int) > 0 by decide,if_true]
   by_cases h:i<0
   ·simp only [h,if_true] <;> omega
   ·simp only [h,if_false] <;> omega
 ·cases hi with
  |none=>simp [sliceBounds,HT.sIx]
  |some i =>
   simp only [sliceBounds,HT.sIx,Option.getD_none,show (1:Int) > 0 by decide,if_true]
   by_cases h:i<0
   ·simp only [h,if_true] <;> omega
   ·simp only [h,if_false] <;> omega
theorem zgP (its:List Value)(lo hi:Option Int):slicePick its.toArray lo hi none=((its.drop (HT.sIx its.length 0 lo)).take (HT.sIx its.length its.length hi - HT.sIx its.length 0 lo)).toArray:=by
 obtain ⟨h1,h2,h3⟩:=zhk lo hi its.toArray.size
 unfold slicePick
 rw [h1,h2,h3]
 simp only [sliceRange_one,pick_run,List.size_toArray] <;> rfl
def yfa (K:PySem.W.Frag):V->Option Int->Option Int->Hp->VK->Prop:=fun x lo hi H Q=>∃a xs,x=.ref a/\SqL K H a xs/\∀p,H p=none->Q (.ref p) (upd H p (.lst (yct xs lo hi)))
theorem zjV:SlR X (yfa X.K):=by
 intro pins s σ H x v vl vu lo hi sl Q I rx hs pl pu h
 obtain ⟨a,xs,rfl,hx,q⟩:=h
 cases rx
 obtain ⟨its,r,ht,hz⟩:=I.list hx
 have hlen:=r.length
 refine ⟨"list",_,slot_list_getitem.lookup,ht.isList.typeIs,?_⟩
 refine wpAny_getItem_list_slice ht.isList hs pl pu .none (by simp) ?_ (by rw [List.size_toArray] <;> omega)
 rw [zgP,<- hlen]
 refine ⟨.ref s.heap.objs.size,_,I.laid (t':=s.toks) (o:=.lst (yct xs lo hi)) (fun b ob q=>Heap.get?_push_of_some _ q) (Nat.le_refl _) ?_,rfl,q _ (I.hok.fresh (Nat.le_refl _))⟩
 exact ⟨Nat.le_trans (zfV xs lo hi) hz,_,0,(r.drop (HT.sIx xs.length 0 lo)).take (HT.sIx xs.length xs.length hi - HT.sIx xs.length 0 lo),Heap.get?_push_size _ rfl⟩
def yap:V->Bool
 | .non=>true
 | .bl _=>true
 | .int _=>true
 | .str _=>true
 |_=>false
def eqV:V->V->Bool
 | .non,.non=>true
 | .bl a,.bl b=>a == b
 | .bl a,.int b=>(if a then 1 else 0) == b
 | .int a,.bl b=>a == (if b then 1 else 0)
 | .int a,.int b=>a == b
 | .str a,.str b=>a == b
 |_,_=>false
theorem zpf {A:Around}{s:Shared}{y x:V}{u v:Value}(ry:RelV y u)(rx:RelV x v)(fy:yap y=true)(fx:yap x=true):SeqAt.EqAt A s u v (eqV y x):=by
 cases y with
 |non =>
  cases ry
  cases x with
  |non=>cases rx;exact SeqAt.EqAt.same _
  |bl b=>cases rx;exact SeqAt.EqAt.none_bool b
  |int b=>obtain ⟨t,rfl⟩:=rx;exact SeqAt.EqAt.none_int b t
  |str b=>obtain ⟨t,rfl⟩:=rx;exact SeqAt.EqAt.none_str b t
  |_=>exact absurd (show false=true from fx) Bool.false_ne_true
 |bl a =>
  cases ry
  cases x with
  |non=>cases rx;exact SeqAt.EqAt.bool_none a
  |bl b=>cases rx;exact SeqAt.EqAt.bool_bool a b
  |int b=>obtain ⟨t,rfl⟩:=rx;exact SeqAt.EqAt.bool_int a b t
  |str b=>obtain ⟨t,rfl⟩:=rx;exact SeqAt.EqAt.bool_str a b t
  |_=>exact absurd (show false=true from fx) Bool.false_ne_true
 |int a =>
  obtain ⟨t',rfl⟩:=ry
  cases x with
  |non=>cases rx;exact SeqAt.EqAt.int_none a t'
  |bl b=>cases rx;exact SeqAt.EqAt.int_bool a t' b
  |int b=>obtain ⟨t,rfl⟩:=rx;exact SeqAt.EqAt.int_int a t' b t
  |str b=>obtain ⟨t,rfl⟩:=rx;exact SeqAt.EqAt.int_str a t' b t
  |_=>exact absurd (show false=true from fx) Bool.false_ne_true
 |str a =>
  obtain ⟨t',rfl⟩:=ry
  cases x with
  |non=>cases rx;exact SeqAt.EqAt.str_none a t'
  |bl b=>cases rx;exact SeqAt.EqAt.str_bool a t' b
  |int b=>obtain ⟨t,rfl⟩:=rx;exact SeqAt.EqAt.str_int a t' b t
  |str b=>obtain ⟨t,rfl⟩:=rx;exact SeqAt.EqAt.str_str a t' b t
  |_=>exact absurd (show false=true from fx) Bool.false_ne_true
 |_=>exact absurd (show false=true from fy) Bool.false_ne_true
def eqU (x:V)(u:Value):Bool:=match u with
 | .none=>eqV .non x
 | .bool b=>eqV (.bl b) x
 | .int i _=>eqV (.int i) x
 | .str z _=>eqV (.str z) x
 |_=>false
theorem zho {x y:V}{u:Value}(r:RelV y u)(f:yap y=true):eqU x u=eqV y x:=by
 cases y with
 |non=>cases r;rfl
 |bl b=>cases r;rfl
 |int i=>obtain ⟨t,rfl⟩:=r;rfl
 |str z=>obtain ⟨t,rfl⟩:=r;rfl
 |_=>exact absurd (show false=true from f) Bool.false_ne_true
theorem zir {x:V}:∀{xs:List V} {us:List Value},Vals xs us->xs.all yap=true->us.any (eqU x)=xs.any fun y=>eqV y x
 |_,_,.nil,_=>rfl
 |y::xs,u::us,.cons r t,f=>by
  rw [List.all_cons,Bool.and_eq_true] at f
  rw [List.any_cons,List.any_cons,zho r f.1,zir t f.2]
theorem zev {A:Around}{s:Shared}{x:V}{v:Value}(rx:RelV x v)(fx:yap x=true):∀{xs:List V} {us:List Value},Vals xs us->xs.all yap=true->∀u∈us,SeqAt.EqAt A s u v (eqU x u)
 |_,_,.nil,_=>fun u hu=>by cases hu
 |y::xs,u::us,.cons r t,f=>fun u' hu=>by
  rw [List.all_cons,Bool.and_eq_true] at f
  rcases List.mem_cons.mp hu with rfl|hu
  ·rw [zho r f.1];exact zpf r rx f.1 fx
  ·exact zev rx fx t f.2 u' hu
def inV (x:V)(xs:List V):Bool:=xs.any fun y=>eqV y x
def rIn (K:PySem.W.Frag)(neg:Bool):R2:=fun x y H Q=>∃p xs,y=.ref p/\(SqL K H p xs \/ SqT K H p xs)/\yap x=true/\xs.all yap=true/\Q (.bl (if neg then !inV x xs else inV x xs)) H
theorem zhr:OpR X (compareOp .In) (rIn X.K false):=by
 intro pins s σ H x y v u Q I rx ry h
 obtain ⟨p,xs,rfl,hq,fx,fs,q⟩:=h
 cases ry
 rcases hq with hq|hq
 ·obtain ⟨its,r,pl,hz⟩:=I.list hq
  refine SeqAt.in_listAt (eqU x) pl.isList (fun w hw=>zev rx fx r fs w (by simpa using hw)) ⟨.bl _,H,I,rfl,?_⟩
  rw [show its.toArray.any (eqU x)=its.any (eqU x) by simp,zir r fs]
  exact q
 ·obtain ⟨its,r,pl,hz⟩:=I.tuple hq
  refine SeqAt.in_tupleAt (eqU x) pl (fun w hw=>zev rx fx r fs w (by simpa using hw)) ⟨.bl _,H,I,rfl,?_⟩
  rw [show its.toArray.any (eqU x)=its.any (eqU x) by simp,zir r fs]
  exact q
theorem zhh:yad X (.builtin "len") (fun xs H Q=>∃p ys,xs=[.ref p]/\(SqL X.K H p ys \/ SqT X.K H p ys)/\Q (.int ys.length) H):=by
 intro pins s σ H xs us Q I r h
 obtain ⟨p,ys,rfl,hq,q⟩:=h
 obtain ⟨u,rfl,rx⟩:=vals1 r
 cases rx
 have hn:=yaH
 rcases hq with hq|hq
 ·obtain ⟨its,r',pl,hz⟩:=I.list hq
  have hlen:=r'.length
  exact Calls.call_len_list pl.isList (by simp only [List.size_toArray] <;> omega) ⟨.int ys.length,H,I.tok _,⟨s.toks+1,by rw [List.size_toArray,hlen]⟩,q⟩
 ·obtain ⟨its,r',pl,hz⟩:=I.tuple hq
  have hlen:=r'.length
  exact len_tuple pl (by simp only [List.size_toArray] <;> omega) ⟨.int ys.length,H,I.tok _,⟨s.toks+1,by rw [List.size_toArray,hlen]⟩,q⟩
theorem zhj:yad X (.builtin "len") (fun xs H Q=>∃z,xs=[.str z]/\z.length<=sizeLine/\Q (.int z.length) H):=by
 intro pins s σ H xs us Q I r h
 obtain ⟨z,rfl,hz,q⟩:=h
 obtain ⟨u,rfl,t,rfl⟩:=vals1 r
 have hn:=yaH
 exact len_str (by omega) ⟨.int z.length,H,I.tok _,⟨_,rfl⟩,q⟩
theorem ze6:yad X (.type "list") (fun xs H Q=>∃p ys,xs=[.ref p]/\(SqL X.K H p ys \/ SqT X.K H p ys)/\∀l,H l=none->Q (.ref l) (upd H l (.lst ys))):=by
 intro pins s σ H xs us Q I r h
 obtain ⟨p,ys,rfl,hq,q⟩:=h
 obtain ⟨u,rfl,rx⟩:=vals1 r
 cases rx
 have fin:∀(its:List Value),Vals ys its->ys.length<=sizeLine->∀(h':Heap) (c':Nat),(∀b o',s.heap.get? b=some o'->h'.get? b=some o') ->
   h'.get? s.heap.objs.size=some { cls:=.type "list",dict:=none,data:=.seq its.toArray c',slots:=#[] }->EP X pins σ Q (.ref s.heap.objs.size) { s with heap:=h' }:=fun its r' hz h' c' kp e =>
  ⟨.ref s.heap.objs.size,_,I.laid (t':=s.toks) kp (Nat.le_refl _) (show yI X.prog X.w _ h' _ (.lst ys) from ⟨hz,its,c',r',e⟩),rfl,q _ (I.hok.fresh (Nat.le_refl _))⟩
 rcases hq with hq|hq
 ·obtain ⟨its,r',pl,hz⟩:=I.list hq
  have hlen:=r'.length
  obtain ⟨o,ho,hc,n,hd⟩:=pl.isList
  exact call_list_seq p (.inl rfl) ho hc hd (fun h' c' kp e=>fin its r' hz h' c' kp e) (by simp only [List.size_toArray] <;> omega)
 ·obtain ⟨its,r',pl,hz⟩:=I.tuple hq
  have hlen:=r'.length
  obtain ⟨o,ho,hc,n,hd⟩:=pl
  exact call_list_seq p (.inr rfl) ho hc hd (fun h' c' kp e=>fin its r' hz h' c' kp e) (by simp only [List.size_toArray] <;> omega)
theorem zeE:yad X (.type "tuple") (fun xs H Q=>∃p ys,xs=[.ref p]/\((SqL X.K H p ys/\∀l,H l=none->Q (.ref l) (upd H l (.tup ys))) \/ (SqT X.K H p ys/\Q (.ref p) H))):=by
 intro pins s σ H xs us Q I r h
 obtain ⟨p,ys,rfl,h⟩:=h
 obtain ⟨u,rfl,rx⟩:=vals1 r
 cases rx
 rcases h with ⟨hq,q⟩|⟨hq,q⟩
 ·obtain ⟨its,r',pl,hz⟩:=I.list hq
  have hlen:=r'.length
  refine call_tuple_list pl.isList (fun h' kp=>?_) (by simp only [List.size_toArray] <;> omega)
  have I1:Inv X pins σ H { s with heap:=h' }:=I.kept (t':=s.toks) kp
  have I2:Inv X pins σ (upd H h'.objs.size (.tup ys)) { s with heap:=h'.push { cls:=.type "tuple",data:=.seq its.toArray } } :=
   I1.laid (t':=s.toks) (fun b o e=>Heap.get?_push_of_some _ e) (Nat.le_refl _) (show yI X.prog X.w _ _ _ (.tup ys) from ⟨hz,its,r',IsTup.new _ _⟩)
  exact ⟨.ref h'.objs.size,_,I2,rfl,q _ (I1.hok.fresh (Nat.le_refl _))⟩
 ·obtain ⟨its,r',pl,hz⟩:=I.tuple hq
  exact call_tuple_same pl ⟨.ref p,H,I,rfl,q⟩
def tyV (K:PySem.W.Frag)(T:String)(x:V)(H:Hp):Prop:=match x with
 | .str _=>T="str"
 | .int _=>T="int"
 | .ref p=>(T="list"/\∃xs,SqL K H p xs) \/ (T="tuple"/\∃o,K.lookup p=some o/\o.cls=.type "tuple"/\o.dict=none) \/
   (T="dict"/\((∃kvs,H p=some (.dK kvs)) \/ ∃kvs,H p=some (.dT kvs))) \/ (T="set"/\∃S n,H p=some (.set S n))
 |_=>False
theorem zoH {pins:List (Addr×Obj)}{σ:St}{H:Hp}{s:Shared}{T:String}{x:V}{v:Value}(I:Inv X pins σ H s)(r:RelV x v)(ty:tyV X.K T x H) :
  s.TypeIs v T/\∀a,v=.ref a->∃ob,s.heap.get? a=some ob/\ob.dict=none:=by
 cases x with
 |str z =>
  obtain ⟨t,rfl⟩:=r
  cases (show T="str" from ty)
  exact ⟨typeIs_str s z t,fun _ e=>nomatch e⟩
 |int i =>
  obtain ⟨t,rfl⟩:=r
  cases (show T="int" from ty)
  exact ⟨typeIs_int s i t,fun _ e=>nomatch e⟩
 |ref p =>
  cases r
  rcases ty with ⟨rfl,xs,hq⟩|⟨rfl,o,hk,hc,hd⟩|⟨rfl,hk⟩|⟨rfl,S,n,hk⟩
  ·obtain ⟨its,_,pl,_⟩:=I.list hq
   refine ⟨pl.isList.typeIs,fun a e=>?_⟩
   cases e
   obtain ⟨o,n,e,c,hd,_⟩:=pl
   exact ⟨o,e,hd⟩
  ·refine ⟨⟨o,I.kIn p o hk,hc⟩,fun a e=>?_⟩
   cases e
   exact ⟨o,I.kIn _ o hk,hd⟩
  ·have z:∃o,s.heap.get? p=some o/\o.ExactDict:=by
    rcases hk with ⟨kvs,hk⟩|⟨kvs,hk⟩
    ·obtain ⟨_,_,_,_,o,_,_,e,ex,_⟩:=I.hok p _ hk
     exact ⟨o,e,ex⟩
    ·obtain ⟨_,_,_,_,o,_,_,e,ex,_⟩:=I.hok p _ hk
     exact ⟨o,e,ex⟩
   obtain ⟨o,e,ex⟩:=z
   refine ⟨⟨o,e,ex.1⟩,fun a e2=>?_⟩
   cases e2
   exact ⟨o,e,ex.2.1⟩
  ·obtain ⟨o,_,_,_,e,ex,_⟩:=I.hok p _ hk
   refine ⟨⟨o,e,ex.1⟩,fun a e2=>?_⟩
   cases e2
   exact ⟨o,e,ex.2.1⟩
 |_=>exact False.elim ty
def tBM (K:PySem.W.Frag)(T:String)(r:V->List V->Hp->VK->Prop)(to:TE)(t:TA):TE:=fun σ H Q=>to σ H fun x H1=>tyV K T x H1/\t σ H1 fun xs H2=>r x xs H2 Q
variable {o e:Expr}{es:List Expr}{to:TE}{t:TA}{name:Str}{apos cpos:Pos}{T id:String}{r:V->List V->Hp->VK->Prop}
theorem zmx (pa:PlainAttrs T)(slot:Slot T name id)(hty:typeOf (.builtin id)=pure (.type "method_descriptor"))(hm:MtR X id r)(ho:PE X o to)(ha:PA X (e::es) t)
  (hbase:attributeBase o name X.env (eval o X.env)=eval o X.env:=by rfl)
  (hfew:((backTo cpos (starEach (e::es) X.env)).all (fun x=>!x.1) && (backToKw cpos (keywordEach [] X.env)).all (fun x=>x.1.isSome)
   && decide ((e::es).length+([]:List Keyword).length+(if ([]:List Keyword).isEmpty then 0 else 1)<30))=true:=by rfl)
  (hline:(apos.endLine == cpos.line)=true:=by rfl) (hs:starEach (e::es) X.env=(false,eval e X.env)::starEach es X.env:=by rfl) (hplain:(backTo cpos (starEach es X.env)).any (·.1)=false:=by rfl) :
  PE X (.Call (.Attribute o name apos) (e::es) [] cpos) (tBM X.K T r to t):=by
 intro pins s σ H Q I h
 refine wpAny_Call_method_late hbase hfew hline rfl (thn (ho pins s σ H _ I h) fun v s1 ⟨x,H1,I1,r1,ty,q1⟩=>?_)
 obtain ⟨h1,h2⟩:=zoH I1 r1 ty
 refine ⟨T,id,pa,slot,hty,h1,h2,?_⟩
 have hA:=ha cpos pins s1 σ H1 _ I1 q1
 rw [hs] at hA ⊢
 refine Calls.callWith_builtin (by show (false || (backTo cpos (starEach es X.env)).any (·.1))=false;rw [hplain] <;> rfl) (Calls.evalArgs_plain ?_)
 exact thn hA fun us s2 ⟨vs,H2,I2,r2,q2⟩=>hm pins s2 σ H2 x vs v us Q I2 r1 r2 q2
/- xs.append(e),list.index on a module's tuple .. are MtR facts of 06m -/
end
def MtM (X:Cx)(id:String)(r:V->List V->Hp->VK->Prop):Prop :=
 ∀(pins:List (Addr×Obj)) (s:Shared) (σ:St) (H:Hp) (x:V) (xs:List V) (v:Value) (us:List Value) (Q:VK),Inv X pins σ H s->RelV x v->Vals xs us->r x xs H Q ->
  wpAny (model X.prog X.w) X.A (call (.builtin id) (v::us)) (EP X pins σ Q) X.xe s
theorem Vals.one:∀{x:V} {us:List Value},Vals [x] us->∃u,us=[u]/\RelV x u
 |_,_,.cons r .nil=>⟨_,rfl,r⟩
section
variable {X:Cx}{pins:List (Addr×Obj)}{σ:St}{H:Hp}{s:Shared}{l b:Addr}{xs ys zs:List V}
theorem Inv.lset {its its':List Value}{n:Nat}{f:Array Value->Array Value}{t':Nat}(I:Inv X pins σ H s)(hH:H l=some (.lst xs))
  (e:s.heap.get? l=some { cls:=.type "list",data:=.seq its.toArray n }) (hf:f its.toArray=its'.toArray) (hv:Vals ys its') (hz:ys.length<=sizeLine) :
  Inv X pins σ (upd H l (.lst ys)) { s with heap:=s.heap.update l (Obj.mapSeq f),toks:=t' }:=by
 have q:=PySem.IsL.update e f
 rw [hf] at q
 refine I.write (x:=l) (e:=l) (by rw [hH];exact trivial) (.inl rfl) (fun b' u hb hu=>(Heap.get?_update_other s.heap (Obj.mapSeq f) (Ne.symm hb)).trans hu) ⟨_,q⟩ ?_
 exact ⟨hz,its',_,hv,q⟩
theorem Inv.lnew {its:List Value}{t':Nat}(I:Inv X pins σ H s)(hv:Vals ys its)(hz:ys.length<=sizeLine) :
  Inv X pins σ (upd H s.heap.objs.size (.lst ys)) { s with heap:=s.heap.push { cls:=.type "list",data:=.seq its.toArray },toks:=t' } :=
 I.laid (fun _ _ q=>Heap.get?_push_of_some _ q) (Nat.le_refl _) ⟨hz,its,0,hv,Heap.get?_push_size _ rfl⟩
theorem Inv.fresh (I:Inv X pins σ H s):H s.heap.objs.size=none:=I.hok.fresh (Nat.le_refl _)
theorem Inv.lstM (I:Inv X pins σ H s)(hH:H l=some (.lst xs)):xs.length<=sizeLine/\∃(its:List Value) (n:Nat),Vals xs its/\xs.length=its.length/\s.heap.get? l=some { cls:=.type "list",data:=.seq its.toArray n }:=by
 obtain ⟨z,its,n,r,e⟩:=I.hok l _ hH
 exact ⟨z,its,n,r,r.length,e⟩
theorem ycl {n:Nat}(h:n<=sizeLine):Builtin.List.listTooLong n=false:=by
 unfold Builtin.List.listTooLong
 exact decide_eq_false (by omega)
end
section
variable {X:Cx}
def ycC:V->List V->Hp->VK->Prop:=fun x vs H Q=>∃l xs y,x=.ref l/\vs=[y]/\H l=some (.lst xs)/\xs.length<sizeLine/\Q .non (upd H l (.lst (xs++[y])))
theorem zhK:MtM X "list.append" ycC:=by
 intro pins s σ H x vs v us Q I rx rv h
 obtain ⟨l,xs,y,rfl,rfl,hH,hz,q⟩:=h
 cases rx
 obtain ⟨u,rfl,ru⟩:=rv.one
 obtain ⟨z,its,n,r,hl,e⟩:=I.lstM hH
 refine call_meets F.slot_list_append ⟨_,e,rfl⟩ F.entry_list_append (F.args_list_append_2 _ _) (PySem.list_append l its.toArray n u (by rw [List.size_toArray];omega)) ⟨e,?_⟩
 refine ⟨.non,_,I.lset (its':=its++[u]) hH e (by simp) (r.append (.cons ru .nil)) ?_,rfl,q⟩
 rw [List.length_append,List.length_singleton]
 omega
def ycB:V->List V->Hp->VK->Prop:=fun x vs H Q=>∃l b xs zs,x=.ref l/\vs=[.ref b]/\H l=some (.lst xs)/\H b=some (.lst zs)/\xs.length+zs.length<=sizeLine/\Q .non (upd H l (.lst (xs++zs)))
theorem zkm:MtM X "list.extend" ycB:=by
 intro pins s σ H x vs v us Q I rx rv h
 obtain ⟨l,b,xs,zs,rfl,rfl,hH,hB,hz,q⟩:=h
 cases rx
 obtain ⟨u,rfl,ru⟩:=rv.one
 cases ru
 obtain ⟨z,its,n,r,hl,e⟩:=I.lstM hH
 obtain ⟨z2,its2,n2,r2,hl2,e2⟩:=I.lstM hB
 have hsz:its.toArray.size+its2.toArray.size<=sizeLine:=by rw [List.size_toArray,List.size_toArray];omega
 have hlong:¬(!its.toArray.isEmpty && Builtin.List.listTooLong (its.toArray.size+its2.toArray.size))=true:=by
  rw [ycl hsz,Bool.and_false]
  exact Bool.false_ne_true
 refine call_meets F.slot_list_extend ⟨_,e,rfl⟩ F.entry_list_extend (F.args_list_extend_2 _ _)
  (AutoSeq1.list_extend_list_list_0 l its.toArray n b its2.toArray n2 hlong (by rw [List.size_toArray];omega) (by omega)) ⟨e,e2,?_⟩
 refine ⟨.non,_,I.lset (its':=its++its2) hH e (by simp) (r.append r2) ?_,rfl,q⟩
 rw [List.length_append]
 omega
def yfQ:R2:=fun x y H Q=>∃l b xs zs,x=.ref l/\y=.ref b/\H l=some (.lst xs)/\H b=some (.lst zs)/\xs.length+zs.length<=sizeLine/\∀p,H p=none->Q (.ref p) (upd H p (.lst (xs++zs)))
theorem zoK:OpR X (binaryOp .Add) yfQ:=by
 intro pins s σ H x y v u Q I rx ry h
 obtain ⟨l,b,xs,zs,rfl,rfl,hH,hB,hz,q⟩:=h
 cases rx
 cases ry
 obtain ⟨z,its,n,r,hl,e⟩:=I.lstM hH
 obtain ⟨z2,its2,n2,r2,hl2,e2⟩:=I.lstM hB
 refine PySem.P.add_list e e2 ?_ (by rw [List.size_toArray,List.size_toArray];omega)
 have ea:its.toArray++its2.toArray=(its++its2).toArray:=by simp
 rw [ea]
 exact ⟨.ref _,_,I.lnew (t':=s.toks) (r.append r2) (by rw [List.length_append];omega),rfl,q _ I.fresh⟩
end
section
variable {prog:Program}{w:World}{A:Around}{E:Value->Shared->Prop}{s:Shared}
end
section
variable {X:Cx}
end
end L2
namespace Att
open PySem PySem.W PySem.Calls PyProof.Rows
theorem zf0 {P:Params}{h:Heap}:∀(ns:List Int) (vs:List Value),WellAll P h vs (ns.map WData.int)->IntsAre vs ns:=by
 intro ns
 induction ns with
 |nil =>
  intro vs w
  rw [List.map_nil] at w
  cases w
  exact .nil
 |cons n ns ih =>
  intro vs w
  rw [List.map_cons] at w
  cases w with
  |cons a b =>
   cases a
   exact .cons _ _ (ih _ b)
theorem zke {l:OpenLaw}{n:Nat}(hn:l.most=some n){P:Params}{h:Heap}{args:List WData}{vals:List Value}
  (hpre:l.row.toRowW.claim.pre args=true) (hwl:WellAll P h vals args) :
  ∃a vs ns,vals=[Value.ref a]/\args=[WData.list (ns.map WData.int)]/\h.get? a=some { cls:=.type "list",data:=.seq vs.toArray }/\IntsAre vs ns/\ns.length<=n:=by
 have hsh:WShape.hasAll [] args [.list .int]=true:=(pre_splitW hpre).1
 have hc:l.pre.holds [] { args:=args }=true:=(pre_splitW hpre).2
 obtain ⟨d,r,rfl,h1,h2⟩:=hasAllW_cons hsh
 obtain rfl:=hasAllW_nil h2
 obtain ⟨xs,rfl,h3⟩:=hasW_list h1
 obtain ⟨ns,rfl⟩:=items_int h3
 have hlen:ns.length<=n:=by
  unfold OpenLaw.pre at hc
  have h4:(WTm.not (.lt (.lit (.int (n:Int))) (.len (.arg 0)))).holds [] { args:=[.list (ns.map .int)] }=true:=by
   have h4:=(holds_andW hc).1
   rw [hn] at h4
   exact h4
  have h5:=condW_of h4 (w_not (w_lt w_lit (w_len_list (w_arg rfl))))
  rw [List.length_map] at h5
  refine Nat.le_of_not_lt fun q=>?_
  have q':(n:Int)<((ns.length:Nat):Int):=by omega
  first
   | (rw [decide_eq_true q'] at h5;exact absurd h5 (by decide))
   | (simp at h5;omega)
 cases hwl with
 |cons w1 w2 =>
  cases w2
  cases w1 with
  |list ho hall=>exact ⟨_,_,ns,rfl,rfl,ho,zf0 ns _ hall,hlen⟩
theorem zkn (l:OpenLaw)(args:List WData):l.row.toRowW.claim.post args (.bool true) args=true :=
 postW_of (r:=l.row.toRowW) (X:=(true == true))
  (show WShape.has [] (.bool true) .bool=true by first|rfl|decide|simp [WShape.has,WShape.arms,WShape.armsAll])
  (show (WTm.eq .res (.lit (.bool true))).value [] { args:=args,res:=some (.bool true),after:=args }=some (.bool (true == true)) from w_eq_bool (w_res rfl) w_lit) rfl
theorem attach_call {l:OpenLaw}{n:Nat}{q:Program}{loose:List Str}{XP:(Str->Option Value)->Heap->Prop}{YP:World->Heap->Prop}{d:DefRec}
  (hn:l.most=some n) (hdf:d.params.defaults=[])
  (call:∀(w:World) (s₀ s₁:Shared) (mg mb:Str->Option Value) (fa:Addr) (o:Obj) (pm cd doc:Value) (a:Addr) (vs:List Value) (ns:List Int),
   Ground q loose [] XP w s₀ mg mb s₁.heap->YP w s₁.heap ->
   s₁.heap.get? fa=some o->o.data=.func (docDef d.name d.params d.body d.scope pm cd doc)->s₁.heap.CodeRec cd d.name->mg d.name=some (.ref fa) ->
   s₁.heap.get? a=some { cls:=.type "list",data:=.seq vs.toArray }->IntsAre vs ns->ns.length<=n->s₁.gens=#[] ->
   codeAny (model l.prog w) callerA (.call (.ref fa) ⟨[.ref a],[]⟩) (fun r s'=>r=.ok (.ret (.bool true))/\OldK s₁.heap s'.heap/\s'.os=s₁.os/\AllBare s'.gens) s₁) :
  WalkO q loose XP YP l.row.toRowW d [] (fun f vs=>PySem.call f vs):=by
 intro w s₀ s₁ mg mb G Y fa o pm cd doc dV kV ho hd hcd hD hmg hg args vals as hpre hlay hrd hwl hlo
 obtain rfl:dV=.none:=Dflts.none hD hdf
 obtain rfl:kV=.none:=Dflts.noKw hD
 obtain ⟨a,vs,ns,rfl,rfl,hobj,hints,hlen⟩:=zke hn hpre hwl
 refine enter_call (codeAny_mono (call w s₀ s₁ mg mb fa o pm cd doc a vs ns G Y ho (fd_plain hd) hcd hmg hobj hints hlen hg) fun r s' hq=>?_)
 obtain ⟨rfl,h2,h3,h4⟩:=hq
 exact ⟨.inl ⟨.bool true,.bool true,[],rfl,fun _=>rfl,.bool true,zkn l _,fun _=>⟨List.Pairwise.nil,fun _ hm=>(nomatch hm)⟩⟩,h2,h3,h4⟩
section
variable {prog:Program}{w:World}{A:Around}{E:Value->Shared->Prop}{s:Shared}{K:Frag}
end
end Att
namespace L2
open PySem PySem.Spec PyProof.Rows
theorem zhs:∀{vs:List Value} {ns:List Int},IntsAre vs ns->Vals (ns.map V.int) vs
 |_,_,.nil=>.nil
 |_,_,.cons n t h=>.cons ⟨t,rfl⟩ (zhs h)
def Only (H:Hp):Prop:=∀b,H b=none \/ ∃o xs,H b=some (.frz o (.lst xs))
theorem zlP {P:Program}{w:World}{K:PySem.W.Frag}{mg mb:Str->Option Value}{CX:CXT}{k:Nat}{fa a:Addr}{fd:FuncData}{x:Str}{sp:Sp}{s₁:Shared}{vs:List Value}{ns:List Int}
  (KX:K.In s₁.heap) (hns:s₁.heap.Ns mainGlobals mg) (hb:s₁.heap.Ns builtinsNs mb) (hbb:∀x:Str,x ≠ "__name__"->mb x=bootBuiltins x) (hlim:s₁.heap.NoLimit) (hg:s₁.gens=#[])
  (ha:s₁.heap.get? a=some { cls:=.type "list",data:=.seq vs.toArray }) (hi:IntsAre vs ns) (hl:ns.length<=sizeLine) (hr:yaj k callerA)
  (F:∀base:Heap,K.In base->base.Ns mainGlobals mg->yaE P w K mg base CX k fa fd [x] sp) (hbind:∀(s:Shared) (u:Value),BindsTo s fd ⟨[u],[]⟩ [(x,u)])
  (hsp:∀H:Hp,Only H->SqL K H a (ns.map V.int)->sp [.ref a] H (fun v _=>v=.bl true) fun _ _ _=>False)
  (hCX:∀H e s',CX [] H s₁ (fun _ _ _=>False) e s'->False) :
  codeAny (model P w) callerA (.call (.ref fa) ⟨[.ref a],[]⟩) (fun r s'=>r=.ok (.ret (.bool true))/\OldK s₁.heap s'.heap/\s'.os=s₁.os/\AllBare s'.gens) s₁:=by
 have rv:=zhs hi
 have lenV:=hi.length
 have core:∀H:Hp,Only H->SqL K H a (ns.map V.int)->HOk P w H s₁.heap->(∀b,H b≠none->b=a)->(H a≠none->K.lookup a=none) ->
   codeAny (model P w) callerA (.call (.ref fa) ⟨[.ref a],[]⟩) (fun r s'=>r=.ok (.ret (.bool true))/\OldK s₁.heap s'.heap/\s'.os=s₁.os/\AllBare s'.gens) s₁:=by
  intro H hO hS hok hA hK
  have base_of:∀{b:Addr} {o:Obj},s₁.heap.get? b=some o->H b=none->(ycj s₁.heap H).get? b=some o:=fun e n=>zlY e n
  have noA:∀{b:Addr} {o:Obj} {es:Array DictEntry} {ep:Nat},s₁.heap.get? b=some o->o.data=.dict es ep->H b=none:=fun {b o es ep} e d=>by
   cases q:H b with
   |none=>rfl
   |some u =>
    have e':b=a:=hA b (by rw [q];simp)
    subst e'
    rw [ha] at e;cases e
    have d':Data.seq vs.toArray _=Data.dict es ep:=d
    cases d'
  have nsK:∀{b:Addr} {m:Str->Option Value},s₁.heap.Ns b m->(ycj s₁.heap H).Ns b m:=fun {b m} ⟨o,es,ep,e,d,r⟩=>⟨o,es,ep,base_of e (noA e d),d,r⟩
  have hKb:K.In (ycj s₁.heap H):=fun b o e=>base_of (KX b o e) (by
   cases q:H b with
   |none=>rfl
   |some u =>
    have e':b=a:=hA b (by rw [q];simp)
    subst e'
    rw [hK (by rw [q];simp)] at e;cases e)
  have hM:Mod K mg (ycj s₁.heap H):=⟨hKb,nsK hns,⟨mb,nsK hb,hbb⟩,let ⟨mc,h1,h2⟩:=hlim;⟨mc,nsK h1,h2⟩⟩
  have e0:ycp P w K mg (ycj s₁.heap H) callerA [] s₁ H:=⟨rfl,hM,fun b o e=>znF e,Nat.le_of_eq (zkK _ _),trivial,fun b hb=>absurd (show b∈([]:List Addr) from hb) (by simp),hok,.of_eq hg⟩
  refine codeAny_mono ((F _ hKb (nsK hns)).run callerA [] s₁ H ⟨[.ref a],[]⟩ [.ref a] [.ref a] _ _ hr e0 (hbind s₁ (.ref a)) (.cons rfl .nil) (hsp H hO hS)) fun r s' h=>?_
  cases r with
  |error e=>exact (hCX H e s' h).elim
  |ok fl =>
   cases fl with
   |next=>exact False.elim h
   |brk=>exact False.elim h
   |cont=>exact False.elim h
   |ret u =>
    obtain ⟨v,H',os,bare,un,hok',r',q⟩:=h
    have q':v=.bl true:=q
    subst q'
    obtain rfl:u=Value.bool true:=r'
    refine ⟨rfl,OldK.of_keep fun b o e=>?_,os,bare⟩
    cases q:H b with
    |none=>exact un.keep b o e q (by intro z;exact absurd (show b∈([]:List Addr) from z) (by simp)) (by simp)
    |some u =>
     rcases hO b with z|⟨ob,xs,z⟩
     ·rw [q] at z;cases z
     ·have z2:=un.frzs b ob _ z
      obtain ⟨e1,_⟩:=hok b _ z
      obtain ⟨e2,_⟩:=hok' b _ z2
      rw [e] at e1;cases e1
      exact e2
 cases hk:K.lookup a with
 |some o =>
  have e:=KX a o hk
  rw [ha] at e
  cases e
  refine core (fun _=>none) (fun _=>.inl rfl) (.inr ⟨_,vs.toArray,_,hk,rfl,rfl,rfl,by rw [List.size_toArray,lenV];exact hl,by simpa using rv⟩) (fun b u z=>by have z':(none:Option HO)=some u:=z;cases z') (fun b z=>absurd rfl z) fun z=>absurd rfl z
 |none =>
  refine core (fun b=>if b=a then some (.frz { cls:=.type "list",data:=.seq vs.toArray } (.lst (ns.map V.int))) else none) (fun b=>?_) (.inl (.inr ⟨{ cls:=.type "list",data:=.seq vs.toArray },if_pos rfl⟩)) (fun b u z=>?_) (fun b z=>?_) fun _=>hk
  ·by_cases hb:b=a
   ·exact .inr ⟨_,_,if_pos hb⟩
   ·exact .inl (if_neg hb)
  ·by_cases hb:b=a
   ·have z':=(if_pos hb).symm.trans z
    cases z'
    subst hb
    exact ⟨ha,by rw [List.length_map];exact hl,vs,_,rv,ha⟩
   ·have z':=(if_neg hb).symm.trans z
    cases z'
  ·by_cases hb:b=a
   ·exact hb
   ·exact absurd (if_neg hb) z
theorem walk_of {l:PySem.W.OpenLaw}{n k:Nat}{q:Program}{loose:List Str}{XP:(Str->Option Value)->Heap->Prop}{YP:World->Heap->Prop}{d:DefRec}{K:Params->PySem.W.Frag}{CX:World->CXT}{sp:World->Sp}{x:Str}
  (hn:l.most=some n) (hn2:n<=sizeLine) (hdf:d.params.defaults=[]) (hr:yaj k callerA)
  (hY:∀(w:World) (h:Heap),YP w h->(K w.params).In h)
  (F:∀(w:World) (mg:Str->Option Value) (fa:Addr) (h:Heap),(K w.params).In h->h.Ns mainGlobals mg->mg d.name=some (.ref fa) ->
   ∃fd:FuncData,(∀(s:Shared) (u:Value),BindsTo s fd ⟨[u],[]⟩ [(x,u)]) /\
    ∀base:Heap,(K w.params).In base->base.Ns mainGlobals mg->yaE l.prog w (K w.params) mg base (CX w) k fa fd [x] (sp w))
  (hsp:∀(w:World) (H:Hp) (a:Addr) (ns:List Int),ns.length<=n->Only H->SqL (K w.params) H a (ns.map V.int)->sp w [.ref a] H (fun v _=>v=.bl true) fun _ _ _=>False)
  (hCX:∀(w:World) (H:Hp) (s:Shared) (e:Value) (s':Shared),CX w [] H s (fun _ _ _=>False) e s'->False) :
  PySem.W.WalkO q loose XP YP l.row.toRowW d [] (fun f vs=>PySem.call f vs):=by
 refine Att.attach_call hn hdf fun w s₀ s₁ mg mb fa o pm cd doc a vs ns G Y ho hd hcd hmg hobj hints hlen hg=>?_
 have KX:=hY w _ Y
 obtain ⟨fd,hb,hF⟩:=F w mg fa _ KX G.T.g hmg
 exact zlP KX G.T.g G.T.b G.T.builtins G.T.nolimit hg hobj hints (Nat.le_trans hlen hn2) hr hF hb (fun H hO hS=>hsp w H a ns hlen hO hS) fun H e s'=>hCX w H s₁ e s'
def inClass (s:Stmt)(j:Nat):Stmt:=match s with
 | .ClassDef _ _ _ body _ _ _ _ _ _ _=>body.getD j (.Pass ⟨0,0,0,0⟩)
 |_=>.Pass ⟨0,0,0,0⟩
def yaa (s:Stmt):Arguments:=match s with
 | .FunctionDef _ a _ _ _ _ _ _ _ _=>a
 |_=>{ posonlyargs:=[],args:=[],vararg:=none,kwonlyargs:=[],kw_defaults:=[],kwarg:=none,defaults:=[] }
def yK (s:Stmt):List Stmt:=match s with
 | .FunctionDef _ _ b _ _ _ _ _ _ _=>b
 |_=>[]
def yc (s:Stmt):Scope:=match s with
 | .FunctionDef _ _ _ _ _ _ sc _ _ _=>sc
 |_=>{ kind:=.function,names:=[],isGenerator:=false,isCoroutine:=false }
abbrev CX0:CXT:=fun _ _ _ _ _ _=>False
abbrev E0:XK:=fun _ _ _=>False
structure Fun (K:PySem.W.Frag)(x qual:Str)(st:Stmt)(f:Addr)(fd:FuncData):Prop where
 ex:∃(oc:Value) (od:Option Addr) (kV doc pm:Value) (an:Option Addr) (cdv ct:Value) (osl:Array (Option Value)),
  fd=PySem.W.fnOf x qual (yaa st) (yK st) (yc st) .none kV doc pm an cdv ct/\K.lookup f=some ⟨oc,od,.func fd,osl⟩/\PySem.W.codeIn K cdv qual=true
 kp:PySem.W.keepIn K (.ref f)=true
section
variable {P:Program}{w:World}{K:PySem.W.Frag}{mg:Str->Option Value}{base:Heap}
theorem Fun.binds {x qual:Str}{st:Stmt}{f:Addr}{fd:FuncData}{ps:List Str}(F:Fun K x qual st f fd)
  (h:∀(kV doc pm:Value) (an:Option Addr) (cdv ct:Value) (us:List Value),us.length=ps.length->bindArgs (PySem.W.fnOf x qual (yaa st) (yK st) (yc st) .none kV doc pm an cdv ct) ⟨us,[]⟩=pure (ps.zip us)):Binds K fd ps []:=by
 obtain ⟨oc,od,kV,doc,pm,an,cdv,ct,osl,rfl,lk,hcd⟩:=F.ex
 exact .all (h kV doc pm an cdv ct)
theorem zbx {x qual:Str}{st:Stmt}{f:Addr}{oc:Value}{od an:Option Addr}{osl:Array (Option Value)}{kV doc pm cdv ct:Value}(l:K.lookup f=some ⟨oc,od,.func (PySem.W.fnOf x qual (yaa st) (yK st) (yc st) .none kV doc pm an cdv ct),osl⟩)
  (c:PySem.W.codeIn K cdv qual=true) (k:PySem.W.keepIn K (.ref f)=true):Fun K x qual st f (PySem.W.fnOf x qual (yaa st) (yK st) (yc st) .none kV doc pm an cdv ct):=⟨⟨oc,od,kV,doc,pm,an,cdv,ct,osl,rfl,l,c⟩,k⟩
end
theorem zaD {A:Around}{k:Nat}(hr:yaj k A):A.units+1<cLine:=Nat.lt_of_le_of_lt (Nat.add_le_add_left (by decide:1<=64) _) hr.units
section
variable {X:Cx}
end
section
variable {κ:Type}[DecidableEq κ]
def yba (kvs:List (κ×V))(k:κ):Option V:=(kvs.find? fun kv=>decide (kv.1=k)).map (·.2)
def putK (kvs:List (κ×V))(k:κ)(v:V):List (κ×V) :=
 if (kvs.any fun kv=>decide (kv.1=k))=true then kvs.map (fun kv=>if kv.1=k then (kv.1,v) else kv) else kvs++[(k,v)]
theorem zel {p:κ×V}{r:List (κ×V)}{k:κ}(e:p.1=k):yba (p::r) k=some p.2:=by simp [yba,List.find?_cons,e]
theorem zeA {p:κ×V}{r:List (κ×V)}{k:κ}(e:¬p.1=k):yba (p::r) k=yba r k:=by simp [yba,List.find?_cons,e]
theorem ziE (k:κ):∀kvs:List (κ×V),(kvs.any fun kv=>decide (kv.1=k))=(yba kvs k).isSome
 | []=>rfl
 |p::r=>by
  rw [List.any_cons]
  by_cases e:p.1=k
  ·simp only [zel e,decide_eq_true e,Bool.true_or,Option.isSome_some]
  ·rw [zeA e,decide_eq_false e,Bool.false_or];exact ziE k r
theorem zd7 (kvs:List (κ×V))(k:κ)(v:V):(putK kvs k v).length<=kvs.length+1:=by
 unfold putK
 split
 ·rw [List.length_map];omega
 ·rw [List.length_append,List.length_cons,List.length_nil];omega
theorem ybb.isSome_eq {o:Option V}{u:Option Value}(r:ybb o u):o.isSome=u.isSome:=by
 cases o with
 |none=>cases u with
  |none=>rfl
  |some _=>exact (show False from r).elim
 |some _=>cases u with
  |none=>exact (show False from r).elim
  |some _=>rfl
theorem ybb.getD {o:Option V}{u:Option Value}{d:V}{d':Value}(r:ybb o u)(rd:RelV d d'):RelV (o.getD d) (u.getD d'):=by
 cases o with
 |none=>cases u with
  |none=>exact rd
  |some _=>exact (show False from r).elim
 |some _=>cases u with
  |none=>exact (show False from r).elim
  |some _=>exact r
theorem KV.val {kvs:List (κ×V)}{vs:List (κ×Value)}(r:KV kvs vs)(k:κ):ybb (yba kvs k) (valueAt vs k):=by
 unfold KV at r
 induction r with
 |nil=>exact True.intro
 | @cons p q ps qs h t ih =>
  obtain ⟨h1,h2⟩:=h
  by_cases e:p.1=k
  ·have e':q.1=k:=h1.symm.trans e
   have b:valueAt (q::qs) k=some q.2:=by simp [valueAt,List.find?_cons,e']
   rw [zel e,b];exact h2
  ·have e':¬q.1=k:=fun z=>e (h1.trans z)
   have b:valueAt (q::qs) k=valueAt qs k:=by simp [valueAt,List.find?_cons,e']
   rw [zeA e,b];exact ih
theorem KV.any {kvs:List (κ×V)}{vs:List (κ×Value)}(r:KV kvs vs)(k:κ):(kvs.any fun kv=>decide (kv.1=k))=vs.any fun kv=>decide (kv.1=k):=by
 unfold KV at r
 induction r with
 |nil=>rfl
 |cons h t ih=>rw [List.any_cons,List.any_cons,ih,h.1]
theorem KV.repl {kvs:List (κ×V)}{vs:List (κ×Value)}(r:KV kvs vs)(k:κ){y:V}{u:Value}(ry:RelV y u) :
  KV (kvs.map fun kv=>if kv.1=k then (kv.1,y) else kv) (vs.map fun kv=>if kv.1=k then (kv.1,u) else kv):=by
 unfold KV at r ⊢
 induction r with
 |nil=>exact .nil
 | @cons p q ps qs h t ih =>
  rw [List.map_cons,List.map_cons]
  refine .cons ?_ ih
  obtain ⟨h1,h2⟩:=h
  by_cases e:p.1=k
  ·rw [if_pos e,if_pos (h1.symm.trans e)];exact ⟨h1,ry⟩
  ·rw [if_neg e,if_neg (fun z=>e (h1.trans z))];exact ⟨h1,h2⟩
theorem KV.put {kvs:List (κ×V)}{vs:List (κ×Value)}(r:KV kvs vs)(k:κ){y:V}{u:Value}(ry:RelV y u):KV (putK kvs k y) (stored vs k u):=by
 unfold putK stored
 rw [r.any k]
 by_cases e:(vs.any fun kv=>decide (kv.1=k))=true
 ·rw [if_pos e,if_pos e];exact r.repl k ry
 ·rw [if_neg e,if_neg e];exact Paired.snoc r ⟨rfl,ry⟩
theorem KV.length {kvs:List (κ×V)}{vs:List (κ×Value)}(r:KV kvs vs):kvs.length=vs.length:=Paired.length r
end
theorem zkJ {P:Program}{w:World}{k:Key}{u:Value}(r:RelV (kV k) u):(yH P w).is k u=true:=by
 cases k with
 |inl i=>obtain ⟨t,e⟩:=(show ∃t,u=Value.int i t from r);subst e;exact zhY P w i t
 |inr x=>obtain ⟨t,e⟩:=(show ∃t,u=Value.str x t from r);subst e;exact zic P w x t
theorem zhI {P:Program}{w:World}:∀{ks:List Key} {us:List Value},Vals (ks.map kV) us->ItemsAre (yH P w) ks us
 | [],_,r=>by rw [List.map_nil] at r;cases r;exact .nil
 |k::ks,_,r=>by
  rw [List.map_cons] at r
  cases r with
  |cons h t=>exact .cons (zkJ h) (zhI t)
abbrev KT (H:Hp):List (List Key×V)->List (List Key×Addr×Value)->Prop:=Paired fun p q=>p.1=q.1/\H q.2.1=some (.tup (p.1.map kV))/\RelV p.2 q.2.2
theorem KT.val {H:Hp}{kvs:List (List Key×V)}{xs:List (List Key×Addr×Value)}(r:KT H kvs xs)(k:List Key):ybb (yba kvs k) ((atKey xs k).map (·.2)):=by
 induction r with
 |nil=>exact True.intro
 | @cons p q ps qs h t ih =>
  obtain ⟨h1,_,h2⟩:=h
  by_cases e:p.1=k
  ·have e':q.1=k:=h1.symm.trans e
   have b:atKey (q::qs) k=some q.2:=by simp [atKey,List.find?_cons,e']
   rw [zel e,b];exact h2
  ·have e':¬q.1=k:=fun z=>e (h1.trans z)
   have b:atKey (q::qs) k=atKey qs k:=by simp [atKey,List.find?_cons,e']
   rw [zeA e,b];exact ih
theorem KT.repl {H:Hp}{kvs:List (List Key×V)}{xs:List (List Key×Addr×Value)}(r:KT H kvs xs)(k:List Key){y:V}{u:Value}(ry:RelV y u) :
  KT H (kvs.map fun kv=>if kv.1=k then (kv.1,y) else kv) (xs.map (putAt k u)):=by
 induction r with
 |nil=>exact .nil
 | @cons p q ps qs h t ih =>
  rw [List.map_cons,List.map_cons]
  refine .cons ?_ ih
  obtain ⟨h1,h2,h3⟩:=h
  unfold putAt
  by_cases e:p.1=k
  ·rw [if_pos e,if_pos (h1.symm.trans e)];exact ⟨h1,h2,ry⟩
  ·rw [if_neg e,if_neg (fun z=>e (h1.trans z))];exact ⟨h1,h2,h3⟩
theorem KT.put {H:Hp}{kvs:List (List Key×V)}{xs:List (List Key×Addr×Value)}(r:KT H kvs xs)(k:List Key){b:Addr}{y:V}{u:Value}(hb:H b=some (.tup (k.map kV)))(ry:RelV y u) :
  KT H (putK kvs k y) (storedH xs k b u):=by
 have e:(kvs.any fun kv=>decide (kv.1=k))=(atKey xs k).isSome:=by
  rw [ziE,(r.val k).isSome_eq,Option.isSome_map]
 unfold putK storedH
 rw [e]
 by_cases q:(atKey xs k).isSome=true
 ·rw [if_pos q,if_pos q];exact r.repl k ry
 ·rw [if_neg q,if_neg q];exact Paired.snoc r ⟨rfl,hb,ry⟩
theorem KT.keeps {H H':Hp}{kvs:List (List Key×V)}{xs:List (List Key×Addr×Value)}(r:KT H kvs xs)(ht:∀b ys,H b=some (.tup ys)->H' b=some (.tup ys)):KT H' kvs xs :=
 Paired.mapP r fun _ _ z=>⟨z.1,ht _ _ z.2.1,z.2.2⟩
section
variable {P:Program}{w:World}{H:Hp}{h:Heap}{a:Addr}
theorem zpm {u:HO}(ok:HOk P w H h)(e:Rd H a u):yI P w H h a u:=e.ok ok
theorem zkM {kvs:List (Key×V)}(ok:HOk P w H h)(e:Rd H a (.dK kvs)):kvs.length<=sizeLine/\(a == sysModules)=false/\∃vs,KV kvs vs/\h.DictOf (yH P w) a vs :=
 show yI P w H h a (.dK kvs) from zpm ok e
theorem zo9 {kvs:List (Key×V)}(ok:HOk P w H h)(e:H a=some (.dK kvs)):kvs.length<=sizeLine/\(a == sysModules)=false/\∃vs,KV kvs vs/\h.DictOf (yH P w) a vs:=zkM ok (.inl e)
theorem ziV {ks:List Key}(ok:HOk P w H h)(e:H a=some (.tup (ks.map kV))):(tupleKind (yH P w)).is h ks a:=by
 obtain ⟨_,its,r,o,h1,h2,n,h3⟩:=(show yI P w H h a (.tup (ks.map kV)) from ok a _ e)
 exact ⟨o,its.toArray,n,h1,h2,h3,by simpa using zhI r⟩
theorem zkh {kvs:List (List Key×V)}(ok:HOk P w H h)(e:Rd H a (.dT kvs)):kvs.length<=sizeLine/\(a == sysModules)=false /\
  ∃xs,KT H kvs xs/\h.DictOfH (tupleKind (yH P w)) a xs:=by
 obtain ⟨z,y,xs,r,o,es,ep,h1,h2,h3,h4,h5⟩:=(show yI P w H h a (.dT kvs) from zpm ok e)
 refine ⟨z,y,xs,r,o,es,ep,h1,h2,h3,h4,fun x hx=>?_,h5⟩
 have all:∀{l:List (List Key×V)} {m:List (List Key×Addr×Value)},KT H l m->∀x∈m,(tupleKind (yH P w)).is h x.1 x.2.1:=by
  intro l m q
  induction q with
  |nil=>intro x hx;exact nomatch hx
  | @cons p q ps qs hq t ih =>
   intro x hx
   rcases List.mem_cons.mp hx with e|hx
   ·subst e
    exact ziV ok (by rw [<- hq.1];exact hq.2.1)
   ·exact ih x hx
 exact all r x hx
theorem zpy {kvs:List (List Key×V)}(ok:HOk P w H h)(e:H a=some (.dT kvs)):kvs.length<=sizeLine/\(a == sysModules)=false /\
  ∃xs,KT H kvs xs/\h.DictOfH (tupleKind (yH P w)) a xs:=zkh ok (.inl e)
end
def yc9 (H:Hp)(a:Addr)(y:V)(r:Option V):Prop :=
 (∃kvs k,Rd H a (.dK kvs)/\y=kV k/\r=yba kvs k) \/ ∃kvs k b,Rd H a (.dT kvs)/\y=.ref b/\H b=some (.tup (k.map kV))/\r=yba kvs k
def yeL (H:Hp)(a:Addr)(y v:V)(H':Hp):Prop :=
 (∃kvs k,H a=some (.dK kvs)/\y=kV k/\kvs.length<sizeLine/\H'=upd H a (.dK (putK kvs k v))) \/
 ∃kvs k b,H a=some (.dT kvs)/\y=.ref b/\H b=some (.tup (k.map kV))/\kvs.length<sizeLine/\H'=upd H a (.dT (putK kvs k v))
section
variable {X:Cx}{pins:List (Addr×Obj)}{σ:St}{H:Hp}{s:Shared}{a:Addr}{y v:V}{u r:Value}{o:Option V}{A:Around}{E:Value->Shared->Prop}
theorem Inv.big (I:Inv X pins σ H s):sysModules<s.heap.objs.size:=by
 have h:mainGlobals<s.heap.objs.size:=(I.mod.glob.keeps I.bk).lt
 exact Nat.lt_trans (by decide) h
theorem zk4 {Q:Value->Shared->Prop}(hu:A.units+1<cLine)(I:Inv X pins σ H s)(g:yc9 H a y (some v))(ry:RelV y u)(h:∀w' s',Inv X pins σ H s'->RelV v w'->Q w' s') :
  wpAny (model X.prog X.w) A (getItem (.ref a) u) Q E s:=by
 rcases g with ⟨kvs,k,e,ey,l⟩|⟨kvs,k,b,e,ey,eb,l⟩
 ·subst ey
  obtain ⟨z,hd,vs,rel,dd⟩:=zkM I.hok e
  obtain ⟨w',hw,rw'⟩:=ybb.some_of (v:=v) (o:=valueAt vs k) (by rw [l];exact rel.val k)
  exact wpAny_getItem_of (zkJ ry) dd.mapOf hw (h w' _ (I.tok _) rw')
 ·subst ey
  cases (show u=Value.ref b from ry)
  obtain ⟨z,hd,xs,rel,dd⟩:=zkh I.hok e
  obtain ⟨w',hw,rw'⟩:=ybb.some_of (v:=v) (o:=(atKey xs k).map (·.2)) (by rw [l];exact rel.val k)
  obtain ⟨p,hp,hp2⟩:=Option.map_eq_some_iff.mp hw
  refine wpAny_getItem_heap (tupleKind_room_in1 hu) (ziV I.hok eb) dd hp ?_
  rw [hp2]
  exact h w' _ (I.tok _) rw'
theorem zia {h':Heap}{t':Nat}{ob:HO}(I:Inv X pins σ H s)(mu:Mut (H a))(hs:Heap.SameBut a s.heap h')(he:∃q,h'.get? a=some q)(new:yI X.prog X.w (upd H a ob) h' a ob) :
  Inv X pins σ (upd H a ob) { s with heap:=h',toks:=t' } :=
 I.write (x:=a) (e:=a) mu (.inl rfl) (fun b q hb z=>(hs.2 b hb).trans z) he new
theorem zm0 {P:Program}{w:World}{H':Hp}{h':Heap}{kvs:List (Key×V)}{vs:List (Key×Value)}(z:kvs.length<=sizeLine)(hd:(a == sysModules)=false)(rel:KV kvs vs)(dd:h'.DictOf (yH P w) a vs) :
  yI P w H' h' a (.dK kvs):=⟨z,hd,vs,rel,dd⟩
theorem zka {H':Hp}{Q:Unit->Shared->Prop}(hu:A.units+1<cLine)(I:Inv X pins σ H s)(g:yeL H a y v H')(ry:RelV y u)(rv:RelV v r)(h:∀s',Inv X pins σ H' s'->Q () s') :
  wpAny (model X.prog X.w) A (setItem (.ref a) u r) Q E s:=by
 rcases g with ⟨kvs,k,e,ey,l,eH⟩|⟨kvs,k,b,e,ey,eb,l,eH⟩
 ·subst ey eH
  obtain ⟨z,hd,vs,rel,dd⟩:=zo9 I.hok e
  have hz:vs.length<=sizeLine:=by rw [<- rel.length];exact z
  have hl:(putK kvs k v).length<=sizeLine:=by have:=zd7 kvs k v;omega
  refine wpAny_setItem_pairs (hsz:=hz) (zkJ ry) dd fun h' dd' hs=>h _ ?_
  have he:∃q,h'.get? a=some q:=let ⟨q,_,_,hq,_⟩:=dd';⟨q,hq⟩
  exact zia I (by rw [e];exact True.intro) hs he (zm0 hl hd (rel.put k rv) dd')
 ·subst ey eH
  cases (show u=Value.ref b from ry)
  obtain ⟨z,hd,xs,rel,dd⟩:=zpy I.hok e
  have hz:xs.length<=sizeLine:=by rw [<- Paired.length rel];exact z
  have hl:(putK kvs k v).length<=sizeLine:=by have:=zd7 kvs k v;omega
  refine wpAny_setItem_heap (hsz:=hz) (tupleKind_room_in1 hu) (ziV I.hok eb) dd fun h' dd' hs=>h _ ?_
  obtain ⟨q,es,ep,hq,h2,h3,h4,_,h5⟩:=dd'
  refine zia I (by rw [e];exact True.intro) hs ⟨q,hq⟩ ⟨hl,hd,_,(rel.put k eb rv).keeps fun c ys ec=>?_,q,es,ep,hq,h2,h3,h4,h5⟩
  rw [zH (zpt ec e (fun z=>nomatch z))]
  exact ec
end
section
variable {X:Cx}{pins:List (Addr×Obj)}{σ:St}{H:Hp}{s:Shared}{a:Addr}{kvs:List (Key×V)}{k:Key}{u:Value}{A:Around}{E:Value->Shared->Prop}
end
def yc1 (i:Expr):Prop:=∀ov iv,subscripted i false ov iv=operate [ov,iv] (getItem ov iv)
theorem zln {prog:Program}{w:World}{A:Around}{E:Value->Shared->Prop}{s:Shared}{env:Env}{value slice:Expr}{pos:Pos}{T id:String}{Q:Value->Shared->Prop}
  (hl:typeLookup (.type T) "__getitem__"=pure (some (.builtin id))) (hs:yc1 slice)
  (h:wpAny (model prog w) A (eval value env) (fun o s₁=>wpAny (model prog w) A (eval slice env) (fun i s₂=>s₂.TypeIs o T/\wpAny (model prog w) A (getItem o i) Q E s₂) E s₁) E s) :
  wpAny (model prog w) A (eval (.Subscript value slice pos) env) Q E s:=by
 refine Subscript_ (wpAny_mono h (fun o s₁ h₁=>wpAny_mono h₁ (fun i s₂ h₂=>?_) fun _ _ x=>x) fun _ _ x=>x)
 obtain ⟨hT,h₂⟩:=h₂
 unfold subscriptTail
 refine wpAny_bind ?_
 rw [getitemInPython_of_ne hT.not_modules]
 refine wpAny_bind (wpAny_specialOf hT hl ?_)
 have fin:wpAny (model prog w) A (subscripted slice false o i) (fun r s₃=>wpAny (model prog w) A (letTemporaryGo value o r >>= fun _=>pure r) Q E s₃) E s₂:=by
  rw [hs o i]
  exact wpAny_operating (wpAny_mono h₂ (fun r s₃ h₃=>wpAny_bind (wpAny_letTemporaryGo (wpAny_pure h₃))) fun _ _ x=>x)
 first
  | exact wpAny_pure (wpAny_bind fin)
  | exact wpAny_bind (wpAny_pure (wpAny_bind fin))
  | exact wpAny_bind fin
theorem zhV {X:Cx}{pins:List (Addr×Obj)}{σ:St}{H:Hp}{s:Shared}{a:Addr}{y:V}{o:Option V}(I:Inv X pins σ H s)(g:yc9 H a y o):s.TypeIs (.ref a) "dict":=by
 rcases g with ⟨kvs,k,e,_,_⟩|⟨kvs,k,b,e,_,_,_⟩
 ·obtain ⟨_,_,vs,_,dd⟩:=zkM I.hok e
  exact dd.typeIs
 ·obtain ⟨_,_,xs,_,dd⟩:=zkh I.hok e
  exact dd.typeIs
def yd4 (td ty:TE):TE:=fun σ H Q=>td σ H fun x H1=>ty σ H1 fun y H2=>∃a v,x=.ref a/\yc9 H2 a y (some v)/\Q v H2
def yeG (td ty tv:TE):TS:=fun D σ H=>tv σ H fun v H1=>td σ H1 fun x H2=>ty σ H2 fun y H3=>∃a H4,x=.ref a/\yeL H3 a y v H4/\D.nx σ H4
section
variable {X:Cx}{o i e value:Expr}{pos pos' tpos:Pos}{td ty tv:TE}
theorem znK (hu:X.A.units+1<cLine)(ho:PE X o td)(hi:PE X i ty)(hs:yc1 i):PE X (.Subscript o i pos) (yd4 td ty):=by
 intro pins s σ H Q I h
 refine zln PySem.F.slot_dict_getitem.lookup hs (thn (ho pins s σ H _ I h) fun u s1 ⟨x,H1,I1,rx,q1⟩=>thn (hi pins s1 σ H1 _ I1 q1) fun iv s2 ⟨y,H2,I2,ry,a,v,ex,g,q2⟩=>?_)
 subst ex
 obtain rfl:u=Value.ref a:=rx
 exact ⟨zhV I2 g,zk4 hu I2 g ry fun w' s3 I3 rw'=>⟨v,H2,I3,rw',q2⟩⟩
theorem znQ (hu:X.A.units+1<cLine)(ho:PE X o td)(hi:PE X i ty)(hv:PE X value tv)(hs:swapsWith value (some (.Subscript o i pos')) pos.line X.env=pure false) :
  PS X (.Assign [.Subscript o i pos'] value pos) (yeG td ty tv):=by
 intro pins s σ H D I h
 refine wpAny_Assign_Subscript (thn (hv pins s σ H _ I h) fun r s1 ⟨v,H1,I1,rv,q1⟩=>thn (ho pins s1 σ H1 _ I1 q1) fun u s2 ⟨x,H2,I2,rx,q2⟩=>thn (hi pins s2 σ H2 _ I2 q2) fun iv s3 ⟨y,H3,I3,ry,a,H4,ex,g,q3⟩=>?_) hs
 subst ex
 obtain rfl:u=Value.ref a:=rx
 exact zka hu I3 g ry rv fun s4 I4=>⟨σ,H4,I4,q3⟩
end
theorem zlN {P:Program}{w:World}{H:Hp}(h:Heap)(hb:sysModules<h.objs.size):yI P w H (h.push { cls:=.type "dict",data:=.dict #[] }) h.objs.size (.dK []) :=
 ⟨Nat.zero_le _,beq_eq_false_iff_ne.mpr (Ne.symm (Nat.ne_of_lt hb)),[],.nil,Heap.DictOf.new h⟩
theorem zlO {P:Program}{w:World}{H:Hp}(h:Heap)(hb:sysModules<h.objs.size):yI P w H (h.push { cls:=.type "dict",data:=.dict #[] }) h.objs.size (.dT []) :=
 ⟨Nat.zero_le _,beq_eq_false_iff_ne.mpr (Ne.symm (Nat.ne_of_lt hb)),[],.nil,_,#[],0,Heap.get?_push_size _ rfl,⟨rfl,rfl,rfl⟩,rfl,rfl,List.nodup_nil⟩
def ycX:TE:=fun _ H Q=>∀p,H p=none->Q (.ref p) (upd H p (.dT []))
section
variable {X:Cx}{pos:Pos}
theorem ycf:PE X (.Dict [] [] pos) ycX:=fun pins s σ H Q I h =>
 wpAny_Dict_empty ⟨.ref s.heap.objs.size,_,I.laid (a:=s.heap.objs.size) (o:=.dT []) (t':=s.toks) (fun _ _ q=>Heap.get?_push_of_some _ q) (Nat.le_refl _) (zlO s.heap I.big),rfl,h _ (I.hok.fresh (Nat.le_refl _))⟩
end
def ybu:List (TE×TE)->St->Hp->(List (V×V)->Hp->Prop)->Prop
 | [],_,H,Q=>Q [] H
 | (tk,tv)::r,σ,H,Q=>tk σ H fun x H1=>tv σ H1 fun y H2=>ybu r σ H2 fun ps H3=>Q ((x,y)::ps) H3
abbrev VV:List (V×V)->List (Value×Value)->Prop:=Paired fun p q=>RelV p.1 q.1/\RelV p.2 q.2
def PPs (X:Cx)(pos:Pos)(keys:List (Option Expr))(values:List Expr)(trs:List (TE×TE)):Prop :=
 ∀(pins:List (Addr×Obj)) (s:Shared) (σ:St) (H:Hp) (Q:List (V×V)->Hp->Prop),Inv X pins σ H s->ybu trs σ H Q ->
  wpAny (model X.prog X.w) X.A (evalPairs (pairTrees keys values X.env pos)) (fun vs s'=>∃ps H',Inv X pins σ H' s'/\VV ps vs/\Q ps H') X.xe s
theorem znb {X:Cx}{pos:Pos}:PPs X pos [] [] []:=fun pins s σ H Q I h=>pairTrees_nil_walk ⟨[],H,I,.nil,h⟩
theorem zlA {X:Cx}{pos:Pos}{k v:Expr}{ks:List (Option Expr)}{vs:List Expr}{tk tv:TE}{trs:List (TE×TE)}(hk:PE X k tk)(hv:PE X v tv)(hr:PPs X pos ks vs trs) :
  PPs X pos (some k::ks) (v::vs) ((tk,tv)::trs):=fun pins s σ H Q I h =>
 pairTrees_cons_walk (thn (hk pins s σ H _ I h) fun u s1 ⟨x,H1,I1,rx,q1⟩=>thn (hv pins s1 σ H1 _ I1 q1) fun w2 s2 ⟨y,H2,I2,ry,q2⟩ =>
  thn (hr pins s2 σ H2 _ I2 q2) fun ws s3 ⟨ps,H3,I3,rel,q3⟩=>⟨(x,y)::ps,H3,I3,.cons ⟨rx,ry⟩ rel,q3⟩)
def yaJ (kvs more:List (Key×V)):List (Key×V):=more.foldl (fun acc kv=>putK acc kv.1 kv.2) kvs
theorem KV.merge:∀{more:List (Key×V)} {rs:List (Key×Value)} {kvs:List (Key×V)} {vs:List (Key×Value)},KV more rs->KV kvs vs->KV (yaJ kvs more) (merged vs rs):=by
 intro more rs kvs vs r
 unfold KV at r
 induction r generalizing kvs vs with
 |nil=>intro q;exact q
 | @cons p q ps qs h t ih =>
  intro r0
  have e:KV (putK kvs p.1 p.2) (stored vs q.1 q.2):=by
   have:=r0.put p.1 h.2
   rw [<- h.1];exact this
  exact ih e
theorem zey:∀(more kvs:List (Key×V)),(yaJ kvs more).length<=kvs.length+more.length
 | [],kvs=>by show kvs.length<=kvs.length+0;omega
 |p::r,kvs=>by
  have h1:=zey r (putK kvs p.1 p.2)
  have h2:=zd7 kvs p.1 p.2
  show (yaJ (putK kvs p.1 p.2) r).length<=_
  rw [List.length_cons];omega
theorem zgm {P:Program}{w:World}:∀{kvs:List (Key×V)} {ws:List (Value×Value)},VV (kvs.map fun kv=>(kV kv.1,kv.2)) ws->∃rs,Carries (yH P w) ws rs/\KV kvs rs
 | [],_,r=>by rw [List.map_nil] at r;cases r;exact ⟨[],True.intro,.nil⟩
 |p::kvs,_,r=>by
  rw [List.map_cons] at r
  cases r with
  | @cons a b as bs h t =>
   obtain ⟨rs,c,q⟩:=zgm (P:=P) (w:=w) t
   obtain ⟨b1,b2⟩:=b
   exact ⟨(p.1,b2)::rs,⟨zkJ h.1,rfl,c⟩,.cons ⟨rfl,h.2⟩ q⟩
def yeA (trs:List (TE×TE)):TE:=fun σ H Q=>∀p,H p=none->ybu trs σ (upd H p (.dK [])) fun ps H2=>H2 p=some (.dK [])/\∃kvs:List (Key×V),ps=kvs.map (fun kv=>(kV kv.1,kv.2))/\kvs.length<=15/\Q (.ref p) (upd H2 p (.dK (yaJ [] kvs)))
theorem zm5 {X:Cx}{pos:Pos}{keys:List (Option Expr)}{values:List Expr}{trs:List (TE×TE)}(h:PPs X pos keys values trs)(hall:keys.all (·.isSome)=true)(hl:keys.length=values.length)(h0:keys≠[])
  (h15:keys.length<=15):PE X (.Dict keys values pos) (yeA trs):=by
 intro pins s σ H Q I q
 have hn:=I.hok.fresh (Nat.le_refl s.heap.objs.size)
 have I1:=I.laid (a:=s.heap.objs.size) (o:=.dK []) (h':=s.heap.push { cls:=.type "dict",data:=.dict #[] }) (t':=s.toks) (fun _ _ q=>Heap.get?_push_of_some _ q) (Nat.le_refl _) (zlN s.heap I.big)
 refine wpAny_Dict_walk (knd:=yH X.prog X.w) hall hl h0 h15 (thn (h pins _ σ _ _ I1 (q _ hn)) fun ws s2 ⟨ps,H2,I2,rel,e,kvs,ep,lk,q2⟩=>?_)
 subst ep
 obtain ⟨rs,c,rk⟩:=zgm (P:=X.prog) (w:=X.w) rel
 obtain ⟨z,hd,vs0,r0,dd⟩:=zo9 I2.hok e
 cases r0
 refine ⟨rs,c,dd,fun h' dd' hs=>⟨.ref s.heap.objs.size,_,?_,rfl,q2⟩⟩
 have hz:(yaJ [] kvs).length<=sizeLine:=by
  have h1:=zey kvs []
  rw [List.length_nil] at h1
  rw [sizeLine_eq];omega
 have he:∃q,h'.get? s.heap.objs.size=some q:=let ⟨q,_,_,hq,_⟩:=dd';⟨q,hq⟩
 exact zia I2 (by rw [e];exact True.intro) hs he (zm0 hz hd (rk.merge .nil) dd')
structure M2 (X:Cx)(o:Expr)(m:Str)(apos:Pos)(e f:Expr)(cpos:Pos):Prop where
 base:attributeBase o m X.env (eval o X.env)=eval o X.env
 few:((backTo cpos (starEach [e,f] X.env)).all (fun x=>!x.1) && (backToKw cpos (keywordEach [] X.env)).all (fun x=>x.1.isSome)
  && decide (([e,f]:List Expr).length+([]:List Keyword).length+(if ([]:List Keyword).isEmpty then 0 else 1)<30))=true
 line:(apos.endLine == cpos.line)=true
 trees:backTo cpos (starEach [e,f] X.env)=[(false,eval e X.env),(false,eval f X.env)]
def IsD (H:Hp)(a:Addr):Prop:=(∃kvs,Rd H a (.dK kvs)) \/ ∃kvs,Rd H a (.dT kvs)
theorem zo4 {X:Cx}{pins:List (Addr×Obj)}{σ:St}{H:Hp}{s:Shared}{a:Addr}(I:Inv X pins σ H s)(d:IsD H a) :
  s.TypeIs (.ref a) "dict"/\(∀b,Value.ref a=.ref b->∃ob,s.heap.get? b=some ob/\ob.dict=none)/\(a == sysModules)=false:=by
 rcases d with ⟨kvs,e⟩|⟨kvs,e⟩
 ·obtain ⟨_,hd,vs,_,dd⟩:=zkM I.hok e
  refine ⟨dd.typeIs,fun b q=>?_,hd⟩
  cases q
  obtain ⟨ob,_,_,h1,h2,_⟩:=dd
  exact ⟨ob,h1,h2.2.1⟩
 ·obtain ⟨_,hd,xs,_,dd⟩:=zkh I.hok e
  refine ⟨dd.typeIs,fun b q=>?_,hd⟩
  cases q
  obtain ⟨ob,_,_,h1,h2,_⟩:=dd
  exact ⟨ob,h1,h2.2.1⟩
section
variable {X:Cx}{pins:List (Addr×Obj)}{σ:St}{H:Hp}{s:Shared}{a:Addr}{y d:V}{u r:Value}{o:Option V}{A:Around}{E:Value->Shared->Prop}
theorem zpo {Q:Value->Shared->Prop}(hu:A.units+1<cLine)(I:Inv X pins σ H s)(g:yc9 H a y o)(ry:RelV y u)(rd:RelV d r)(h:∀w' s',Inv X pins σ H s'->RelV (o.getD d) w'->Q w' s') :
  wpAny (model X.prog X.w) A (call (.builtin "dict.get") [.ref a,u,r]) Q E s:=by
 rcases g with ⟨kvs,k,e,ey,l⟩|⟨kvs,k,b,e,ey,eb,l⟩
 ·subst ey
  obtain ⟨z,hd,vs,rel,dd⟩:=zkM I.hok e
  refine call_meetsIn PySem.F.slot_dict_get dd.typeIs PySem.F.entry_dict_get (PySem.F.args_dict_get_3 _ _ _) (meets_dict_get_default (yH X.prog X.w) a (zkJ ry) hd r) ⟨_,dd.mapOf,h _ _ (I.tok _) ?_⟩
  rw [l]
  exact (rel.val k).getD rd
 ·subst ey
  cases (show u=Value.ref b from ry)
  obtain ⟨z,hd,xs,rel,dd⟩:=zkh I.hok e
  refine call_meetsIn PySem.F.slot_dict_get dd.typeIs PySem.F.entry_dict_get (PySem.F.args_dict_get_3 _ _ _) (meetsH_dict_get_default (tupleKind (yH X.prog X.w)) a b hd r) ⟨tupleKind_room_in1 hu,k,xs,ziV I.hok eb,dd,h _ _ (I.tok _) ?_⟩
  rw [l]
  exact (rel.val k).getD rd
end
def ydq (td ty tx:TE):TE:=fun σ H Q=>td σ H fun x H1=>∃a,x=.ref a/\IsD H1 a/\ty σ H1 fun y H2=>tx σ H2 fun z H3=>∃o,yc9 H3 a y o/\Q (o.getD z) H3
section
variable {X:Cx}{o e f:Expr}{apos cpos:Pos}{td ty tx:TE}
theorem zl8 (hu:X.A.units+1<cLine)(ho:PE X o td)(he:PE X e ty)(hf:PE X f tx)(m:M2 X o "get" apos e f cpos):PE X (.Call (.Attribute o "get" apos) [e,f] [] cpos) (ydq td ty tx):=by
 intro pins s σ H Q I h
 refine wpAny_Call_method m.base m.few m.line PySem.F.plainAttrs_dict PySem.F.slot_dict_get PySem.F.type_dict_get (thn (ho pins s σ H _ I h) fun u s1 ⟨x,H1,I1,rx,a,ex,d,q1⟩=>?_)
 subst ex
 obtain rfl:u=Value.ref a:=rx
 obtain ⟨t1,t2,_⟩:=zo4 I1 d
 refine ⟨t1,t2,?_⟩
 rw [m.trees]
 refine Calls.callWith_builtin rfl (Calls.evalArgs_plain (Calls.spliced_cons (thn (he pins s1 σ H1 _ I1 q1) fun iv s2 ⟨y,H2,I2,ry,q2⟩ =>
  Calls.spliced_cons (thn (hf pins s2 σ H2 _ I2 q2) fun fv s3 ⟨z,H3,I3,rz,ov,g,q3⟩=>Calls.spliced_nil ?_))))
 exact zpo hu I3 g ry rz fun w' s4 I4 rw'=>⟨_,H3,I4,rw',q3⟩
end
section
variable {X:Cx}{pins:List (Addr×Obj)}{σ:St}{H:Hp}{s:Shared}{a:Addr}{kvs:List (Key×V)}{A:Around}{E:Value->Shared->Prop}
end
section
variable {X:Cx}{pins:List (Addr×Obj)}{σ:St}{H:Hp}{s:Shared}{a:Addr}{y:V}{u:Value}{A:Around}{E:Value->Shared->Prop}
end
end L2
namespace WE
open PySem PySem.Spec PyProof.Rows
open AutoSeq1 (wpAny_loadPart')
section
variable {pg:Program}{wd:World}{A:Around}{Er:Value->Shared->Prop}{s:Shared}
theorem zeO {it t:Addr}{i:Nat}{xs:Array Value}{x:Value}{Q:Value->Shared->Prop}(hi:s.heap.IsTupleIter it t i)(ht:s.heap.IsTuple t xs)(hx:xs[i]?=some x)
  (k:∀h',h'.IsTupleIter it t (i+1)->Heap.SameBut it s.heap h'->Q x { s with heap:=h' }):wpAny (model pg wd) A (Builtin.SmallTypes.nextOf (.ref it)) Q Er s:=by
 obtain ⟨oi,gi,ci,di⟩:=id hi
 obtain ⟨ot,gt,_,nt,dt⟩:=ht
 unfold Builtin.SmallTypes.nextOf
 refine wpAny_bind (wpAny_callSpecial?_slot (name:=Str.ofString "__next__") hi.typeIs F.slot_tuple_iterator_next (wpAny_call_entry F.slot_tuple_iterator_next hi.typeIs F.entry_tuple_iterator_next ?_ (F.args_tuple_iterator_next_1 _)))
 show wpAny _ _ (field (.ref it) 0 >>= _) _ _ _
 refine wpAny_bind (wpAny_field gi di (x:=.ref t) rfl ?_);show wpAny _ _ (if (Value.ref t == Value.none)=true then _ else _) _ _ _
 rw [if_neg (show ¬((Value.ref t == Value.none)=true) from fun z=>Bool.false_ne_true z)];show wpAny _ _ (field (.ref it) 1 >>= _) _ _ _
 refine wpAny_bind (wpAny_field gi di (x:=.int i 0) rfl ?_);show wpAny _ _ (seqItems? (.ref t) >>= _) _ _ _
 refine wpAny_bind (wpAny_seqItems gt dt ?_)
 simp only [Int.toNat_natCast,hx]
 refine wpAny_bind (wpAny_setField gi di (by simp) (wpAny_pure ⟨x,rfl,wpAny_pure (k _ ?_ (Heap.SameBut.update ..))⟩))
 refine ⟨_,Heap.get?_update_self _ gi (Obj.isFreed_of_fields (Obj.data_mapFields di _)),(Obj.cls_mapFields ..).trans ci,?_⟩
 rw [Obj.data_mapFields di];simp [rawInt]
theorem zhU {it t:Addr}{i:Nat}{xs:Array Value}{Q:Value->Shared->Prop}(hh:A.handled=none)(hi:s.heap.IsTupleIter it t i)(ht:s.heap.IsTuple t xs)(hx:xs[i]?=none)
  (k:∀h' e,Heap.ExtBut it s.heap h'->(∃o,h'.get? e=some o/\o.cls=.type "StopIteration")->Er (.ref e) { s with heap:=h' }):wpAny (model pg wd) A (Builtin.SmallTypes.nextOf (.ref it)) Q Er s:=by
 obtain ⟨oi,gi,ci,di⟩:=id hi
 obtain ⟨ot,gt,_,nt,dt⟩:=ht
 unfold Builtin.SmallTypes.nextOf
 refine wpAny_bind (wpAny_callSpecial?_slot (name:=Str.ofString "__next__") hi.typeIs F.slot_tuple_iterator_next (wpAny_call_entry F.slot_tuple_iterator_next hi.typeIs F.entry_tuple_iterator_next ?_ (F.args_tuple_iterator_next_1 _)))
 show wpAny _ _ (field (.ref it) 0 >>= _) _ _ _
 refine wpAny_bind (wpAny_field gi di (x:=.ref t) rfl ?_);show wpAny _ _ (if (Value.ref t == Value.none)=true then _ else _) _ _ _
 rw [if_neg (show ¬((Value.ref t == Value.none)=true) from fun z=>Bool.false_ne_true z)];show wpAny _ _ (field (.ref it) 1 >>= _) _ _ _
 refine wpAny_bind (wpAny_field gi di (x:=.int i 0) rfl ?_);show wpAny _ _ (seqItems? (.ref t) >>= _) _ _ _
 refine wpAny_bind (wpAny_seqItems gt dt ?_)
 simp only [Int.toNat_natCast,hx]
 refine wpAny_bind (wpAny_rule (wpAny_bind (wpAny_setField gi di (by simp) ?_)));show wpAny _ _ (newExc (.type "StopIteration") [] >>= _) _ _ _
 refine wpAny_bind ?_;simp only [newExc,newTuple]
 refine wpAny_bind (wpAny_newObj_type ?_ (by size_fits));refine wpAny_bind (m:=firstArgMember _ _) (wpAny_of_eq (a:=Value.none) (by first|rfl|(simp only [firstArgMember];rfl)) ?_)
 refine wpAny_newObj_type ?_ (by size_fits);simp only [raiseNew]
 refine wpAny_bind (wpAny_handled ?_);first|rw [show A.in1.handled=none from hh]|rw [hh]
 refine wpAny_bind (wpAny_pure (wpAny_throw ?_))
 exact k _ _ (((Heap.SameBut.update ..).extBut.push _).push _) ⟨_,Heap.get?_push_size _ rfl,rfl⟩
end
theorem draws_tuple {pg:Program}{wd:World}{A:Around}(hh:A.handled=none)(it t:Addr)(hne:t≠it)(xs:Array Value) :
  Draws pg wd A it [it,t] xs.size (fun i v=>xs[i]?=some v) (fun i h=>h.IsTupleIter it t i/\h.IsTuple t xs) where
 live:=fun _ _ st=>let ⟨o,g,_⟩:=st.1;⟨o,g⟩
 frame:=fun _ _ _ st kp=>⟨let ⟨o,g,r⟩:=st.1;⟨o,kp it (by simp) o g,r⟩,let ⟨o,g,r⟩:=st.2;⟨o,kp t (by simp) o g,r⟩⟩
 item:=fun i s Q E hi st hQ=>zeO st.1 st.2 (x:=xs[i]) (by simp [hi]) fun h' hit' hs'=>hQ _ h' s.toks (by simp [hi]) ⟨hit',st.2.extBut hs'.extBut hne⟩ hs'
 done:=fun s Q E st hE=>zhU hh st.1 st.2 (by simp) hE
theorem zhX (l:Addr)(xs:Array Value)(n:Nat)(dc:Option Addr)(sl:Array (Option Value)) :
  Meets (Builtin.«enumerate.__new__» ⟨[.type "enumerate",.ref l],[]⟩) (fun _ R s=>s.heap.get? l=some { cls:=.type "tuple",dict:=dc,data:=.seq xs n,slots:=sl } /\
   R (.ok (.ret (.ref (s.heap.push { cls:=.type "tuple_iterator",data:=.fields #[.ref l,.int 0 0] }).objs.size)))
    { s with heap:=(s.heap.push { cls:=.type "tuple_iterator",data:=.fields #[.ref l,.int 0 0] }).push { cls:=.type "enumerate",data:=.fields #[.none,.bool false,.ref s.heap.objs.size,rawInt 0,.none,.none] } }) :=
 .of_wp fun prog w A R s h=>by
  obtain ⟨hp,g,d,tk,os⟩:=s;obtain ⟨gl,h⟩:=h
  have hsub:=sub_enumerate
  have hT:Heap.IsTuple (Shared.heap ⟨hp,g,d,tk,os⟩) l xs:=⟨_,gl,rfl,n,rfl⟩
  wp_walk using wpAny_loadPart' gl
  refine wpAny_stack_any fun st=>wpAny_pure ?_
  split
  ·rename_i c _ _ _ _ _
   cases (c == Value.type "enumerate")
   ·wp_walk using wpAny_loadPart' gl,wpAny_pyIter_tuple hT
    exact ⟨_,rfl,h⟩
   ·wp_walk using wpAny_loadPart' gl,wpAny_pyIter_tuple hT
    exact ⟨_,rfl,h⟩
  ·wp_walk using wpAny_loadPart' gl,wpAny_pyIter_tuple hT
   exact ⟨_,rfl,h⟩
theorem call_enumT {pg:Program}{wd:World}{A:Around}{Er:Value->Shared->Prop}{s:Shared}{l:Addr}{xs:Array Value}{Q:Value->Shared->Prop}(hT:s.heap.IsTuple l xs)
  (k:∀h',IsEnum h' (s.heap.objs.size+1) s.heap.objs.size 0 .none->h'.IsTupleIter s.heap.objs.size l 0->h'.objs.size=s.heap.objs.size+2 ->
   (∀b o,s.heap.get? b=some o->h'.get? b=some o)->Q (.ref (s.heap.objs.size+1)) { s with heap:=h' }):wpAny (model pg wd) A (call (.type "enumerate") [.ref l]) Q Er s:=by
 obtain ⟨⟨c,dct,dt,sl⟩,gl,hc,n,hd⟩:=hT
 cases (show c=.type "tuple" from hc)
 cases (show dt=.seq xs n from hd)
 refine callType_new F.called_enumerate (by decide) (F.typeCall_enumerate_1 _) (F.newCall_enumerate_1 _) (fun obj=>F.args_object_init_2 obj _) F.entry_enumerate_new (zhX l xs n dct sl) ⟨gl,?_⟩
 have hz:(s.heap.push { cls:=.type "tuple_iterator",data:=.fields #[.ref l,.int 0 0] }).objs.size=s.heap.objs.size+1:=Heap.size_push ..
 show _/\_
 rw [hz]
 have he:IsEnum ((s.heap.push { cls:=.type "tuple_iterator",data:=.fields #[.ref l,.int 0 0] }).push { cls:=.type "enumerate",data:=.fields #[.none,.bool false,.ref s.heap.objs.size,rawInt 0,.none,.none] }) (s.heap.objs.size+1) s.heap.objs.size 0 .none:=by
  have q:=Heap.get?_push_size (s.heap.push { cls:=.type "tuple_iterator",data:=.fields #[.ref l,.int 0 0] }) (o:={ cls:=.type "enumerate",data:=.fields #[.none,.bool false,.ref s.heap.objs.size,rawInt 0,.none,.none] }) rfl
  rw [hz] at q;exact q
 exact ⟨⟨_,he,rfl⟩,k _ he ⟨_,Heap.get?_push_of_some _ (Heap.get?_push_size _ rfl),rfl,rfl⟩ (by rw [Heap.size_push,hz]) fun b o y=>Heap.get?_push_of_some _ (Heap.get?_push_of_some _ y)⟩
end WE
namespace L2
open PySem PySem.Spec PyProof.Rows
section
variable {X:Cx}
def yc2 (i j:Int):Prop:=0<j/\j<10000000000000000000000000000000000000000000000000000000000000000000000
theorem zl2:OpR X (binaryOp .FloorDiv) (rI yc2 fun i j=>.int (i / j)):=opI fun i j _ _ _ _ _ hc q=>by
 obtain ⟨h1,h2⟩:=hc
 refine floordiv_int (by omega) (by rw [Int.fdiv_eq_ediv_of_nonneg i (by omega)];exact q) (.inl (PyProof.noPylong_of_log2 ?_))
 have h0:j.natAbs≠0:=by omega
 refine Nat.lt_of_lt_of_le ((Nat.log2_lt h0).mpr (?_:j.natAbs<2 ^ 250)) (by decide)
 have e:(10000000000000000000000000000000000000000000000000000000000000000000000:Nat)<2 ^ 250:=by decide
 omega
end
section
variable {X:Cx}{pins:List (Addr×Obj)}{σ:St}{H:Hp}{s:Shared}{h':Heap}
theorem Inv.turnLaid {t':Nat}{ch:List Addr}{T:Addr}{o:HO}(I:Inv X pins σ H s)(hf:∀b∈ch,ybh X pins H b)(k:∀b u,b∉ch->s.heap.get? b=some u->h'.get? b=some u)
  (hp:s.heap.objs.size<=T) (new:yI X.prog X.w (upd H T o) h' T o):Inv X pins σ (upd H T o) { s with heap:=h',toks:=t' }:=by
 have hn:H T=none:=I.hok.fresh hp
 have nch:∀b u,H b=some u->b∉ch:=fun b u e z=>by
  have q:=(hf b z).1
  rw [e] at q
  cases q
 refine I.step (g':=s.gens) (d':=s.drawn) (ch:=ch) (fun b hb=>?_) (fun b u _ _ hc e _=>k b u hc e) (fun b u _ _ hc e _=>⟨u.slots,k b u hc e⟩) (fun b u _ e n=>?_) (fun b u hc e=>⟨u,k b u hc e⟩) (fun b xs e=>?_) (fun b u v e=>?_) (fun b ps e=>⟨#[],?_⟩) (fun m hm=>?_) (fun b u e=>?_) I.bare
 ·obtain ⟨f0,f1,f2,f3,f4,f5⟩:=hf b hb
  exact ⟨f3,f1,f4,f5⟩
 ·rw [zH (Nat.ne_of_lt (Nat.lt_of_lt_of_le (Heap.lt_size e) hp))]
  exact n
 ·rw [zH (zO e hn)]
  exact e
 ·rw [zH (zO e hn)]
  exact e
 ·rw [zH (zO e hn),e]
  simp
 ·obtain ⟨ob,es,ep,ho,r⟩:=hm
  exact ⟨ob,es,ep,k _ ob (fun z=>(hf _ z).2.1 rfl) ho,r⟩
 ·by_cases hb:b=T
  ·subst hb
   rw [zU] at e
   cases e
   exact new
  ·rw [zH hb] at e
   refine (I.hok b u e).stay (fun c v hc q=>k c v ?_ q) (fun c q=>by rw [zH (zO q hn)];exact q) fun c xs q=>by rw [zH (zO q hn)];exact q
   rcases hc with z|z
   ·rw [z]
    exact nch b u e
   ·exact nch c _ z
theorem Inv.turnedL {t':Nat}{ch:List Addr}(I:Inv X pins σ H s)(hf:∀b∈ch,ybh X pins H b)(k:∀b u,b∉ch->s.heap.get? b=some u->h'.get? b=some u):Inv X pins σ H { s with heap:=h',toks:=t' }:=by
 have nch:∀b u,H b=some u->b∉ch:=fun b u e z=>by
  have q:=(hf b z).1
  rw [e] at q
  cases q
 refine I.step (g':=s.gens) (d':=s.drawn) (ch:=ch) (fun b hb=>?_) (fun b u _ _ hc e _=>k b u hc e) (fun b u _ _ hc e _=>⟨u.slots,k b u hc e⟩) (fun _ _ _ _ n=>n) (fun b u hc e=>⟨u,k b u hc e⟩) (fun _ _ e=>e) (fun _ _ _ e=>e) (fun b ps e=>⟨#[],by rw [e];simp⟩) (fun m hm=>?_) (fun b u e=>?_) I.bare
 ·obtain ⟨f0,f1,f2,f3,f4,f5⟩:=hf b hb
  exact ⟨f3,f1,f4,f5⟩
 ·obtain ⟨ob,es,ep,ho,r⟩:=hm
  exact ⟨ob,es,ep,k _ ob (fun z=>(hf _ z).2.1 rfl) ho,r⟩
 ·refine (I.hok b u e).stay (fun c v hc q=>k c v ?_ q) (fun _ q=>q) fun _ _ q=>q
  rcases hc with z|z
  ·rw [z]
   exact nch b u e
  ·exact nch c _ z
end
def Ite (K:PySem.W.Frag)(a:Addr):It :=
 ⟨fun i H=>∃xs x,SqT K H a xs/\xs[i]?=some x,fun i H x H'=>∃T,H T=none/\x=.ref T/\∀xs y,SqT K H a xs->xs[i]?=some y->H'=upd H T (.tup [.int i,y]),fun i H=>∃xs,SqT K H a xs/\xs.length=i⟩
theorem zgp {h:Heap}{a b:Addr}{o u:Obj}(x:h.get? a=some o)(y:h.get? b=some u)(z:o.cls≠u.cls):a≠b:=fun e=>by
 subst e
 rw [x] at y
 cases y
 exact z rfl
theorem zjk {P:Program}{w:World}{K:PySem.W.Frag}{es:List Expr}{kk:Nat}{pos:Pos}(a e it:Addr) :
  Turn P w K (.Tuple es kk pos) (Ite K a) [e,it] e (fun i h=>(∃old,IsEnum h e it i old)/\h.IsTupleIter it a i) where
 mem:=by simp
 obj:=fun i h st b hb=>by
  obtain ⟨⟨old,he⟩,oi,gi,ci,di⟩:=st
  rcases List.mem_cons.mp hb with z|z
  ·subst z
   exact ⟨_,he,fun v y=>nomatch y⟩
  ·have z:b=it:=by simpa using z
   subst z
   exact ⟨oi,gi,fun v y=>by rw [di] at y;cases y⟩
 keep:=fun i h h' st k=>by
  obtain ⟨⟨old,he⟩,oi,gi,r⟩:=st
  exact ⟨⟨old,k e (by simp) _ he⟩,oi,k it (by simp) _ gi,r⟩
 item:=by
  intro X hP hw hK hc i pins s σ H E I hf st hg
  subst hP hw hK
  obtain ⟨xs,x,hq,hx⟩:=hg
  obtain ⟨its,rv,p,hz⟩:=I.tuple hq
  obtain ⟨⟨old,he⟩,hi⟩:=st
  obtain ⟨oi,gi,ci,di⟩:=id hi
  obtain ⟨oa,ga,ca,na,da⟩:=id p
  have nai:a≠it:=zgp ga gi (by rw [ca,ci];exact fun z=>absurd (Value.type.inj z) (by decide))
  have nei:e≠it:=zgp he gi (by rw [ci];exact fun z=>absurd (Value.type.inj z) (by decide))
  have nea:e≠a:=zgp he ga (by rw [ca];exact fun z=>absurd (Value.type.inj z) (by decide))
  have hl:=rv.length
  have hil:i<its.toArray.size:=by
   have:=(List.getElem?_eq_some_iff.mp hx).1
   simpa using (by omega:i<its.length)
  have W:=WalksT.enumerateD (prog:=X.prog) (w:=X.w) (A:=X.A) (WE.draws_tuple (pg:=X.prog) (wd:=X.w) (A:=X.A.in1) (I.ok.hd hc) it a nai its.toArray) e nei (by simp [nei,nea]) (by simp)
  refine W.item i s _ E hil ⟨⟨old,he⟩,hi,p⟩ fun T vals h1 tk hP hsz hT mid kp=>⟨.ref T,rfl,?_⟩
  refine W.go es kk pos i T _ _ E mid fun h2 st2 kp2=>?_
  obtain ⟨t,y,hy,rfl⟩:=hP
  obtain ⟨u,hu,ru⟩:=rv.get hx
  have ey:y=u:=Option.some.inj (hy.symm.trans (by simpa using hu))
  subst ey
  have hch:∀b o,b∉[e,it]->s.heap.get? b=some o->h2.get? b=some o:=fun b o hb q=>kp2 b o hb (kp b o hb q)
  have hTw:=W.apart i T h1 mid
  have new:yI X.prog X.w (upd H T (.tup [.int i,x])) h2 T (.tup [.int i,x]):=by
   obtain ⟨o,g,r⟩:=hT
   exact ⟨by show 2<=sizeLine;decide,[.int i t,y],.cons ⟨t,rfl⟩ (.cons ru .nil),o,kp2 T o hTw g,r⟩
  have I2:=I.turnLaid (t':=tk) hf hch hsz new
  refine ⟨.ref T,_,I2,rfl,⟨T,I.hok.fresh hsz,rfl,fun ys z hy' hz'=>?_⟩,⟨st2.1,st2.2.1⟩,fun b hb=>?_⟩
  ·rw [I.tuple_inj hy' hq] at hz'
   rw [hx] at hz'
   cases hz'
   rfl
  ·rw [zH (fun z:b=T=>hTw (z ▸ hb))]
   exact (hf b hb).1
 done:=by
  intro X hP hw hK hc i pins s σ H E I hf st hg
  subst hP hw hK
  obtain ⟨xs,hq,hx⟩:=hg
  obtain ⟨its,rv,p,hz⟩:=I.tuple hq
  obtain ⟨⟨old,he⟩,hi⟩:=st
  obtain ⟨oi,gi,ci,di⟩:=id hi
  obtain ⟨oa,ga,ca,na,da⟩:=id p
  have nai:a≠it:=zgp ga gi (by rw [ca,ci];exact fun z=>absurd (Value.type.inj z) (by decide))
  have nei:e≠it:=zgp he gi (by rw [ci];exact fun z=>absurd (Value.type.inj z) (by decide))
  have nea:e≠a:=zgp he ga (by rw [ca];exact fun z=>absurd (Value.type.inj z) (by decide))
  have hl:=rv.length
  have W:=WalksT.enumerateD (prog:=X.prog) (w:=X.w) (A:=X.A) (WE.draws_tuple (pg:=X.prog) (wd:=X.w) (A:=X.A.in1) (I.ok.hd hc) it a nai its.toArray) e nei (by simp [nei,nea]) (by simp)
  have en:its.toArray.size=i:=by simp;omega
  refine W.done s _ E (by rw [en];exact ⟨⟨old,he⟩,hi,p⟩) fun h2 tk kp=>⟨rfl,I.turnedL (t':=tk) hf kp⟩
 self:=fun _ _ _ _ _ st q=>by
  obtain ⟨⟨old,he⟩,_⟩:=st
  exact wpAny_pyIter_enum he q
def yfk (K:PySem.W.Frag)(ta:TA):TI:=fun σ H R=>ta σ H fun vs H1=>∃a,vs=[.ref a]/\(∃xs,SqT K H1 a xs)/\R (Ite K a) H1
theorem zlJ {X:Cx}{a:Expr}{es:List Expr}{kk:Nat}{tp:Pos}{ta:TA}{p pos:Pos}(hg:Gl X "enumerate")(hm:X.mg "enumerate"=none)(ha:PA X [a] ta)(hs:starEach [a] X.env=[(false,eval a X.env)]:=by rfl) :
  PI X (.Tuple es kk tp) (.Call (.Name "enumerate" p) [a] [] pos) (yfk X.K ta):=by
 intro pins s σ H R I h
 refine wpAny_Call_Name_kw (zgv I hg hm boot_enumerate ?_)
 refine PyProof.Rows.callWith_type1 (thn (ha pos pins s σ H _ I h) fun us s1 ⟨vs,H1,I1,r1,q1⟩=>?_) hs rfl
 obtain ⟨l,rfl,⟨xs,hq⟩,q⟩:=q1
 obtain ⟨u,rfl,ru⟩:=Vals.one r1
 cases (show u=Value.ref l from ru)
 obtain ⟨its,rv,pt,hz⟩:=I1.tuple hq
 refine WE.call_enumT (show s1.heap.IsTuple l its.toArray from pt) fun h1 he hi hsz kp=>?_
 refine wpAny_pyIter_enum he ?_
 refine ⟨_,[s1.heap.objs.size+1,s1.heap.objs.size],_,_,H1,rfl,I1.kept (t':=s1.toks) kp,zjk l _ s1.heap.objs.size,⟨⟨_,he⟩,hi⟩,fun b hb=>?_,q⟩
 have hb2:s1.heap.objs.size<=b:=by
  rcases List.mem_cons.mp hb with z|z
  ·subst z
   exact Nat.le_succ _
  ·have z:b=s1.heap.objs.size:=by simpa using z
   subst z
   exact Nat.le_refl _
 exact I1.fpOk hb2 (I1.hok.fresh hb2)
abbrev No:Value->Shared->Prop:=fun _ _=>False
abbrev ydh (ifs:List Expr)(env:Env):Sem Bool:=forIn ifs true fun c r=>if r=true then do let ok <- isTrue c env (eval c env);pure (ForInStep.yield ok) else pure (ForInStep.yield r)
section
variable {pg:Program}{wd:World}{A:Around}{R:Result->Shared->Prop}{s:Shared}
theorem zlt {elt tg iter:Expr}{ifs:List Expr}{sc:Scope}{pos:Pos}{it acc:Value}{env:Env}(I:Nat->Shared->Prop)
  (turn:∀n s,I n s->wpAny (model pg wd) A (pyNext it) (fun r s1=>match r with
   |none=>R (.ok .next) s1
   |some v=>wpAny (model pg wd) A (letOwnedTupleGo tg it v) (fun _ s2=>wpAny (model pg wd) A (assign tg env v) (fun _ s3=>wpAny (model pg wd) A (ydh ifs env) (fun ok s4 =>
     if ok=true then wpAny (model pg wd) A (eval elt env) (fun x s5=>wpAny (model pg wd) A (call (.builtin "list.append") [acc,x]) (fun _ s6=>∃m,m<n/\I m s6) No s5) No s4
     else ∃m,m<n/\I m s4) No s3) No s2) No s1) No s)
  (n:Nat) (h:I n s):codeAny (model pg wd) A (.compLoop (.ListComp elt [⟨tg,iter,ifs,0⟩] sc pos) 0 it acc env) R s:=by
 refine codeAny_loop rfl I (fun n s hI=>?_) n h
 show wpAny _ A ((compTurn (.ListComp elt [⟨tg,iter,ifs,0⟩] sc pos) 0 it acc env).onRaise (fun x=>do noteFrame x env;theTreesLotGoes x)) _ _ s
 refine wpAny_noted ?_
 rw [compTurn_list]
 refine wpAny_bind (wpAny_standAt (wpAny_bind (wpAny_mono (turn n s hI) (fun r s1 h1=>?_) fun _ _ f=>f.elim)))
 cases r with
 |none=>exact wpAny_pure h1
 |some v =>
  refine wpAny_bind (wpAny_mono h1 (fun _ s2 h2=>wpAny_bind (wpAny_mono h2 (fun _ s3 h3=>wpAny_bind (wpAny_mono h3 (fun ok s4 h4=>?_) fun _ _ f=>f.elim)) fun _ _ f=>f.elim)) fun _ _ f=>f.elim)
  cases ok with
  |false=>exact wpAny_pure ⟨rfl,h4⟩
  |true=>exact wpAny_bind (wpAny_bind (wpAny_mono h4 (fun x s5 h5=>wpAny_bind (wpAny_mono h5 (fun _ s6 h6=>wpAny_pure (wpAny_pure ⟨rfl,h6⟩)) fun _ _ f=>f.elim)) fun _ _ f=>f.elim))
end
def yX (env:Env)(r:List (Str×Addr))(x:Str×NameKind):List (Str×Addr):=if x.2=.free then (x.1,(env.cells.lookup x.1).getD 0)::r else r
def yds (sc:Scope)(env:Env):List (Str×Addr):=sc.names.foldl (yX env) []
theorem zjD {α β:Type}{l:List α}{f:α->β->Sem (ForInStep β)}{g:β->α->β}(h:∀x∈l,∀c,f x c=pure (.yield (g c x))):∀c:β,forIn l c f=pure (l.foldl g c):=by
 induction l with
 |nil=>exact fun _=>rfl
 |cons x l ih =>
  intro c
  rw [List.forIn_cons,h x List.mem_cons_self,pure_bind,List.foldl_cons]
  exact ih (fun y hy=>h y (List.mem_cons_of_mem _ hy)) (g c x)
theorem zdD {sc:Scope}{env:Env}(hf:∀y∈sc.names,y.2=.free->∃c,env.cells.lookup y.1=some c):closureFor sc env=pure (yds sc env):=by
 simp only [closureFor]
 rw [zjD (g:=yX env) (fun x hx c=>?_)]
 ·rfl
 ·obtain ⟨n,k⟩:=x
  by_cases hk:k=.free
  ·subst hk
   obtain ⟨a,ha⟩:=hf _ hx rfl
   have ha':env.cells.lookup n=some a:=ha
   simp [yX,cellOf,ha']
  ·have hb:(k == NameKind.free)=false:=by simpa using hk
   simp [yX,hk,hb]
theorem zgA {env:Env}:∀(l:List (Str×NameKind)) (r:List (Str×Addr)),(∀y∈l,y.2=.free->∃c,env.cells.lookup y.1=some c)->(∀x c,r.lookup x=some c->env.cells.lookup x=some c) ->
  ∀x c,(l.foldl (yX env) r).lookup x=some c->env.cells.lookup x=some c
 | [],r,_,h=>h
 |y::l,r,hf,h=>by
  refine zgA l (yX env r y) (fun z hz=>hf z (List.mem_cons_of_mem _ hz)) fun x c e=>?_
  unfold yX at e
  by_cases hk:y.2=.free
  ·obtain ⟨a,ha⟩:=hf y List.mem_cons_self hk
   rw [if_pos hk,List.lookup_cons] at e
   cases hx:x == y.1 with
   |true =>
    rw [hx,ha] at e
    rw [eq_of_beq hx,ha]
    exact e
   |false =>
    rw [hx] at e
    exact h x c e
  ·rw [if_neg hk] at e
   exact h x c e
theorem zfD {env:Env}{x:Str}:∀(l:List (Str×NameKind)) (r:List (Str×Addr)),(∃c,r.lookup x=some c)->∃c,(l.foldl (yX env) r).lookup x=some c
 | [],r,h=>h
 |y::l,r,h=>by
  refine zfD l (yX env r y) ?_
  unfold yX
  by_cases hk:y.2=.free
  ·rw [if_pos hk,List.lookup_cons]
   cases hx:x == y.1 with
   |true=>exact ⟨_,rfl⟩
   |false=>exact h
  ·rw [if_neg hk]
   exact h
theorem zeQ {env:Env}:∀(l:List (Str×NameKind)) (r:List (Str×Addr)),∀y∈l,y.2=.free->∃c,(l.foldl (yX env) r).lookup y.1=some c
 | [],_,y,hy,_=>nomatch hy
 |z::l,r,y,hy,hk=>by
  rcases List.mem_cons.mp hy with e|e
  ·subst e
   refine zfD l (yX env r y) ?_
   unfold yX
   rw [if_pos hk,List.lookup_cons,beq_self_eq_true]
   exact ⟨_,rfl⟩
  ·exact zeQ l (yX env r z) y e hk
theorem mem_of_lookup {β:Type}{x:Str}{k:β}:∀{l:List (Str×β)},l.lookup x=some k->(x,k)∈l
 | [],h=>nomatch h
 |y::l,h=>by
  rw [List.lookup_cons] at h
  cases hx:x == y.1 with
  |true =>
   rw [hx] at h
   cases h
   rw [eq_of_beq hx]
   exact List.mem_cons_self
  |false =>
   rw [hx] at h
   exact List.mem_cons_of_mem _ (mem_of_lookup h)
def ycS (env:Env)(x:Str)(k:NameKind):NameKind:=if (k == .free && env.scope.kind == .function && env.kindOf x == some .cell)=true then .cell else k
theorem zgl {sc:Scope}{env:Env}(x:Str):(relabel sc env).names.lookup x=(sc.names.lookup x).map (ycS env x):=by
 unfold relabel
 show (sc.names.map fun (n,k)=>if (k == NameKind.free && env.scope.kind == .function && env.kindOf n == some .cell) then (n,NameKind.cell) else (n,k)).lookup x=_
 induction sc.names with
 |nil=>rfl
 |cons y l ih =>
  obtain ⟨n,k⟩:=y
  rw [List.map_cons]
  show List.lookup x ((if (k == NameKind.free && env.scope.kind == .function && env.kindOf n == some .cell)=true then (n,NameKind.cell) else (n,k))::_)=_
  cases hx:x == n with
  |true =>
   have e:=eq_of_beq hx
   subst e
   by_cases hc:(k == NameKind.free && env.scope.kind == .function && env.kindOf x == some .cell)=true
   ·rw [if_pos hc,List.lookup_cons,beq_self_eq_true]
    simp [ycS,hc]
   ·rw [if_neg hc,List.lookup_cons,beq_self_eq_true]
    simp [ycS,hc]
  |false =>
   by_cases hc:(k == NameKind.free && env.scope.kind == .function && env.kindOf n == some .cell)=true
   ·rw [if_pos hc]
    simp only [List.lookup_cons,hx]
    exact ih
   ·rw [if_neg hc]
    simp only [List.lookup_cons,hx]
    exact ih
structure CI where
 C:Addr
 s:Shared
 H:Hp
 fp:List Addr
def cxC (X:Cx)(sc:Scope)(NC:List Str)(j:CI):Cx where
 prog:=X.prog
 w:=X.w
 K:=X.K
 mg:=X.mg
 base:=X.base
 A:=X.A
 N:=NC
 s₀:=j.s
 H₀:=j.H
 env:=compEnvC sc (yds sc X.env) j.C X.env
 outer:=X.stack
 stack:=X.stack
 ex:=j.fp
 fn:=fun _=>false
 calm:=X.calm
 pn:=[]
 xe:=No
def inn (slots:List (Option Nat))(σ:St):St:=slots.map fun o=>o.bind fun j=>(σ[j]?).join
structure yZ (X:Cx)(sc:Scope)(NC:List Str)(slots:List (Option Nat)):Prop where
 kind:sc.kind=.function
 names:∀y∈sc.names,y.2=.local->sc.names.lookup y.1=some .local
 nocell:∀y∈sc.names,y.2 ≠ .cell
 free:∀y∈sc.names,y.2=.free->X.env.scope.names.lookup y.1=some .cell
 slot:∀(i:Nat) (x:Str) (j:Nat),NC[i]?=some x->slots[i]?=some (some j)->X.N[j]?=some x/\sc.names.lookup x=some .free
 len:slots.length=NC.length
theorem ybA {X:Cx}{sc:Scope}{NC:List Str}{slots:List (Option Nat)}(N:List Str)(so:Scope)(hN:X.N=N)(hs:X.env.scope=so)(kind:sc.kind=.function)
  (names:∀y∈sc.names,y.2=.local->sc.names.lookup y.1=some .local) (nocell:∀y∈sc.names,y.2 ≠ .cell) (free:∀y∈sc.names,y.2=.free->so.names.lookup y.1=some .cell)
  (slot:∀p∈NC.zip slots,(p.2.all fun j=>decide (N[j]?=some p.1/\sc.names.lookup p.1=some .free))=true) (len:slots.length=NC.length):yZ X sc NC slots:=by
 subst hN hs
 refine ⟨kind,names,nocell,free,fun i x j e1 e2=>?_,len⟩
 have hm:(x,some j)∈NC.zip slots:=List.mem_of_getElem? (i:=i) (by rw [List.getElem?_zip_eq_some];exact ⟨e1,e2⟩)
 have:=slot _ hm
 simpa using this
section
variable {X:Cx}{sc:Scope}{NC:List Str}{slots:List (Option Nat)}{pins:List (Addr×Obj)}{σ:St}{H:Hp}{s:Shared}
theorem yZ.cells (O:yZ X sc NC slots)(ok:X.Ok):∀y∈sc.names,y.2=.free->∃c,X.env.cells.lookup y.1=some c:=fun y hy hk=>ok.has y.1 (.inl (O.free y hy hk))
theorem yZ.sub (O:yZ X sc NC slots)(ok:X.Ok):∀x c,(yds sc X.env).lookup x=some c->X.env.cells.lookup x=some c:=zgA sc.names [] (O.cells ok) fun _ _ e=>nomatch e
theorem yZ.rel (O:yZ X sc NC slots)(ok:X.Ok){x:Str}(h:sc.names.lookup x=some .free):(relabel sc X.env).names.lookup x=some .cell:=by
 rw [zgl,h]
 have e:X.env.kindOf x=some .cell:=O.free _ (mem_of_lookup h) rfl
 simp [ycS,ok.kind,e]
theorem zjy (I:Inv X pins σ H s)(O:yZ X sc NC slots){fp:List Addr}(hf:∀b∈fp,ybh X pins H b)(hob:∀b∈fp,∃o,s.heap.get? b=some o){h1:Heap}{t':Nat}{m:Str->Option Value}(hns:h1.Ns s.heap.objs.size m)
  (hk:∀b o,s.heap.get? b=some o->h1.get? b=some o):Inv (cxC X sc NC ⟨s.heap.objs.size,s,H,fp⟩) [] (inn slots σ) H { s with heap:=h1,toks:=t' }:=by
 have sub:=O.sub I.ok
 have fss:∀b,b≠X.env.locals->b∉X.fs->b∉frs X.stack:=fun b h1 h2 hb=>(List.mem_cons.mp (I.stkSub b hb)).elim h1 h2
 have ltC:∀x c,(yds sc X.env).lookup x=some c->c<s.heap.objs.size:=fun x c e=>by
  obtain ⟨v,q⟩:=I.cell x c (sub x c e)
  exact q.lt
 refine ⟨⟨I.ok.mod,O.kind,I.ok.glob,I.ok.blt,Nat.le_refl _,fun x y c e1 e2=>I.ok.inj x y c (sub x c e1) (sub y c e2),fun x hx=>?_,fun _ _ z=>(nomatch z),I.ok.hd,I.ok.frames,.inl rfl,fun b hb=>⟨?_,fun x c e=>(hf b hb).2.2.2.2.1 x c (sub x c e)⟩,I.bs,Nat.le_trans I.ok.bsz I.sz,fun b o e hb=>?_,fun b hb=>fss b (hf b hb).2.1 (hf b hb).2.2.1,I.stack,I.stkFree⟩,
  rfl,I.bare,Un.kept hk,⟨m,hns,fun i x v e1 e2 e3=>?_⟩,fun x c e=>?_,I.hok.fresh (Nat.le_refl _),fun x c e=>I.freeC x c (sub x c e),fun p hp=>(nomatch hp),I.hok.kept hk,?_⟩
 ·have hx':(relabel sc X.env).names.lookup x=some .cell \/ (relabel sc X.env).names.lookup x=some .free:=hx
  rw [zgl] at hx'
  cases q:sc.names.lookup x with
  |none =>
   rw [q] at hx'
   rcases hx' with z|z <;> cases z
  |some k =>
   have hm:=mem_of_lookup q
   have hkf:k=.free:=by
    rw [q] at hx'
    have nc:=O.nocell _ hm
    by_cases hk:k=.free
    ·exact hk
    ·exfalso
     have hb:(k == NameKind.free)=false:=by simpa using hk
     rcases hx' with z|z
     ·simp [ycS,hb] at z
      exact nc z
     ·simp [ycS,hb] at z
      exact hk z
   subst hkf
   exact zeQ sc.names [] _ hm rfl
 ·obtain ⟨o,e⟩:=hob b hb
  exact Nat.ne_of_lt (Heap.lt_size e)
 ·rcases (hf b hb).2.2.2.1 with z|z
  ·exact I.ok.noex b o e z
  ·exact absurd (Nat.lt_of_lt_of_le (Heap.lt_size e) (Nat.le_trans I.ok.bsz z)) (Nat.lt_irrefl _)
 ·obtain ⟨j,e4,e5⟩:∃j,slots[i]?=some (some j)/\σ[j]?=some (some v):=by
   have e2':(slots.map fun o=>o.bind fun j=>(σ[j]?).join)[i]?=some (some v):=e2
   rw [List.getElem?_map] at e2'
   cases q:slots[i]? with
   |none =>
    rw [q] at e2'
    cases e2'
   |some o =>
    rw [q] at e2'
    cases o with
    |none=>cases e2'
    |some j =>
     refine ⟨j,rfl,?_⟩
     have e6:(σ[j]?).join=some v:=Option.some.inj e2'
     cases q2:σ[j]? with
     |none =>
      rw [q2] at e6
      cases e6
     |some w =>
      rw [q2] at e6
      have e7:w=some v:=e6
      rw [e7]
  obtain ⟨e6,e7⟩:=O.slot i x j e1 e4
  have kc:X.env.scope.names.lookup x=some .cell:=O.free _ (mem_of_lookup e7) rfl
  obtain ⟨m0,hn0,hl⟩:=I.loc
  obtain ⟨u,r,lk⟩:=hl j x v e6 e5 (.inr (.inl kc))
  refine ⟨u,r,.inr ⟨.inl (O.rel I.ok e7),?_⟩⟩
  rcases lk with ⟨z,_⟩|⟨_,c,hc,o,ho,hd⟩
  ·rw [show X.env.kindOf x=some .cell from kc] at z
   cases z
  ·obtain ⟨c',hc'⟩:=zeQ (env:=X.env) sc.names [] _ (mem_of_lookup e7) rfl
   have e8:c'=c:=Option.some.inj ((sub x c' hc').symm.trans hc)
   subst e8
   exact ⟨c',hc',o,hk _ _ ho,hd⟩
 ·obtain ⟨v,o,ho,hd⟩:=I.cell x c (sub x c e)
  exact ⟨v,o,hk _ _ ho,hd⟩
 ·show (slots.map fun o=>o.bind fun j=>(σ[j]?).join).length=NC.length
  rw [List.length_map,O.len]
theorem zjm (I:Inv X pins σ H s){fp:List Addr}(hf:∀b∈fp,ybh X pins H b){C:Addr}(hC:s.heap.objs.size<=C){pl:List (Addr×Obj)}{σ':St}{H':Hp}{s':Shared}(J:Inv (cxC X sc NC ⟨C,s,H,fp⟩) pl σ' H' s')
  {h2:Heap} (hb:Heap.SameBut C s'.heap h2):Inv X pins σ H' { s' with heap:=h2 }:=by
 have nC:∀b o,s.heap.get? b=some o->b≠C:=fun b o e=>Nat.ne_of_lt (Nat.lt_of_lt_of_le (Heap.lt_size e) hC)
 have B:Un (frs X.stack) fp H H' s.heap s'.heap:=J.base
 have fC:H' C=none:=J.free
 refine I.call' (ch:=fp) J.os ⟨fun b o e n h3 h4=>(hb.2 b (nC b o e)).trans (B.keep b o e n h3 h4),fun b o e n h3 h4=>?_,B.free,fun b o e h4=>?_,B.tups,B.frzs,B.tbls⟩ (fun b u e=>?_) J.bare fun b h3=>⟨(hf b h3).2.2.2.1,(hf b h3).2.1,(hf b h3).2.2.2.2.1,(hf b h3).2.2.2.2.2⟩
 ·obtain ⟨sl,q⟩:=B.slot b o e n h3 h4
  exact ⟨sl,(hb.2 b (nC b o e)).trans q⟩
 ·obtain ⟨o',q⟩:=B.there b o e h4
  exact ⟨o',(hb.2 b (nC b o e)).trans q⟩
 ·refine (J.hok b u e).stay (fun c v hc q=>(hb.2 c fun z=>?_).trans q) (fun _ q=>q) fun _ _ q=>q
  subst z
  rcases hc with z|z
  ·rw [z,e] at fC
   cases fC
  ·rw [z] at fC
   cases fC
end
def PTs (X:Cx)(ifs:List Expr)(t:TT):Prop :=
 ∀(pins:List (Addr×Obj)) (s:Shared) (σ:St) (H:Hp) (Q:Bool->Hp->Prop),Inv X pins σ H s->t σ H Q->wpAny (model X.prog X.w) X.A (ydh ifs X.env) (TP X pins σ Q) X.xe s
def yfB:TT:=fun _ H Q=>Q true H
theorem znc {X:Cx}:PTs X [] yfB:=fun _ _ _ H _ I h=>wpAny_tests_nil ⟨H,I,h⟩
def ycI (J:It)(D:Addr)(g:TG)(ti:TT)(te:TE)(W:Nat->Nat->St->List V->Hp->Prop)(Q:Hp->Prop):Prop :=
 ∀i m σc ys H2,W i m σc ys H2->H2 D=some (.lst ys)/\((J.stop i H2/\Q H2) \/ (J.go i H2/\ys.length<sizeLine/\∃N:St->List V->Hp->Prop,(∀σ' ys' H',N σ' ys' H'->∃m',m' < m/\W (i+1) m' σ' ys' H') /\
  ∀x H3,J.yld i H2 x H3->g x σc H3 fun σ4 H4=>ti σ4 H4 fun b H5=>if b=true then te σ4 H5 fun y H6=>H6 D=some (.lst ys)/\N σ4 (ys++[y]) (upd H6 D (.lst (ys++[y]))) else N σ4 ys H5))
def ych (slots:List (Option Nat))(wi:TI)(g:TG)(ti:TT)(te:TE):TE:=fun σ H Q=>wi σ H fun J H1=>∀D,H1 D=none->∃W:Nat->Nat->St->List V->Hp->Prop,(∃m,W 0 m (inn slots σ) [] (upd H1 D (.lst [])))/\ycI J D g ti te W (Q (.ref D))
section
variable {X:Cx}{sc:Scope}{NC:List Str}{slots:List (Option Nat)}{elt tg iter:Expr}{ifs:List Expr}{pos:Pos}{g:TG}{ti:TT}{te:TE}
theorem zmw (hc:X.calm=true)(hg:∀j,PG (cxC X sc NC j) tg g)(ht:∀j,PTs (cxC X sc NC j) ifs ti)(he:∀j,PE (cxC X sc NC j) elt te){cj:CI}{it D:Addr}{tn:Nat->Heap->Prop}{J:It}
  {W:Nat->Nat->St->List V->Hp->Prop} {Q:Hp->Prop} {R:Result->Shared->Prop} {s:Shared} {σc:St} {ys:List V} {H:Hp} (T:Turn X.prog X.w X.K tg J cj.fp it tn)
  (I:Inv (cxC X sc NC cj) [] σc H s) (hf:∀b∈cj.fp,ybh (cxC X sc NC cj) [] H b) (st:tn 0 s.heap) {m:Nat} (w0:W 0 m σc ys H) (step:ycI J D g ti te W Q)
  (fin:∀σ' H' s',Inv (cxC X sc NC cj) [] σ' H' s'->Q H'->R (.ok .next) s') :
  codeAny (model X.prog X.w) X.A (.compLoop (.ListComp elt [⟨tg,iter,ifs,0⟩] sc pos) 0 (.ref it) (.ref D) (cxC X sc NC cj).env) R s:=by
 have stat:∀{H':Hp},(∀b∈cj.fp,H' b=none)->∀b∈cj.fp,ybh (cxC X sc NC cj) [] H' b:=fun hn b hb=>⟨hn b hb,(hf b hb).2⟩
 refine zlt (fun n s'=>∃i σ' ys' H',Inv (cxC X sc NC cj) [] σ' H' s'/\tn i s'.heap/\(∀b∈cj.fp,H' b=none)/\W i n σ' ys' H') ?_ m ⟨0,σc,ys,H,I,st,fun b hb=>(hf b hb).1,w0⟩
 rintro n s3 ⟨i,σ3,ys3,H3,I3,st3,fr3,w3⟩
 obtain ⟨hD,q⟩:=step i n σ3 ys3 H3 w3
 rcases q with ⟨stop,qn⟩|⟨go,hz,N,hN,turn⟩
 ·refine thn (T.done (cxC X sc NC cj) rfl rfl rfl hc i [] s3 σ3 H3 No I3 (stat fr3) st3 stop) fun r s4 ⟨hr,I4⟩=>?_
  subst hr
  exact fin σ3 H3 s4 I4 qn
 ·refine thn (T.item (cxC X sc NC cj) rfl rfl rfl hc i [] s3 σ3 H3 No I3 (stat fr3) st3 go) fun r s4 ⟨u,hr,h4⟩=>?_
  subst hr
  refine thn h4 fun _ s5 ⟨x,H5,I5,r5,y5,st5,fr5⟩=>?_
  have I5':=I5.pinned (stat fr5) (T.obj _ _ st5)
  refine thn (hg cj _ s5 σ3 H5 x u _ I5' r5 (turn x H5 y5)) fun _ s6 ⟨σ6,H6,I6,q6⟩=>?_
  refine thn (ht cj _ s6 σ6 H6 _ I6 q6) fun ok s7 ⟨H7,I7,q7⟩=>?_
  have again:∀{σ8:St} {ys8:List V} {H8:Hp} {s8:Shared},Inv (cxC X sc NC cj) ([]++ybe cj.fp s5.heap) σ8 H8 s8->N σ8 ys8 H8->∃m,m<n/\∃i σ' ys' H',Inv (cxC X sc NC cj) [] σ' H' s8/\tn i s8.heap/\(∀b∈cj.fp,H' b=none)/\W i m σ' ys' H':=fun {σ8 ys8 H8 s8} I8 n8=>by
   obtain ⟨m',hm,w8⟩:=hN σ8 ys8 H8 n8
   refine ⟨m',hm,i+1,σ8,ys8,H8,I8.unpinned,T.keep _ _ _ st5 fun b hb o e=>(I8.pin (b,o) (List.mem_append_right _ (List.mem_append_right _ (zdI hb e)))).1,fun b hb=>?_,w8⟩
   obtain ⟨o,e,d⟩:=T.obj _ _ st5 b hb
   exact (I8.pin (b,o) (List.mem_append_right _ (List.mem_append_right _ (zdI hb e)))).2.1
  cases ok with
  |false =>
   rw [if_neg Bool.false_ne_true] at q7 ⊢
   exact again I7 q7
  |true =>
   rw [if_pos rfl] at q7 ⊢
   refine thn (he cj _ s7 σ6 H7 _ I7 q7) fun y s8 ⟨v,H8,I8,r8,hD8,q8⟩=>?_
   refine thn (zhK (X:=cxC X sc NC cj) _ s8 σ6 H8 (.ref D) [v] (.ref D) [y] (fun z H'=>z=.non/\H'=upd H8 D (.lst (ys3++[v]))) I8 rfl (.cons r8 .nil) ⟨D,ys3,v,rfl,rfl,hD8,hz,rfl,rfl⟩) fun z s9 ⟨zv,H9,I9,r9,e1,e2⟩=>?_
   subst e2
   exact again I9 q8
theorem zgD (hc:X.calm=true)(O:yZ X sc NC slots)(hg:∀j,PG (cxC X sc NC j) tg g)(ht:∀j,PTs (cxC X sc NC j) ifs ti)(he:∀j,PE (cxC X sc NC j) elt te){pins:List (Addr×Obj)}{s:Shared}{σ:St}{H:Hp}(I:Inv X pins σ H s)
  {it:Addr} {fp:List Addr} {tn:Nat->Heap->Prop} {J:It} (T:Turn X.prog X.w X.K tg J fp it tn) (st:tn 0 s.heap) (hf:∀b∈fp,ybh X pins H b) {Q:VK}
  (h:∀D,H D=none->∃W:Nat->Nat->St->List V->Hp->Prop,(∃m,W 0 m (inn slots σ) [] (upd H D (.lst [])))/\ycI J D g ti te W (Q (.ref D))) {RR:Value->Addr->Result->Shared->Prop}
  (fin:∀D C s' H',Q (.ref D) H'->(∃o m,s'.heap.get? C=some o/\s'.heap.Ns C m/\∀v,o.data ≠ .cell v)->ybh X pins H' C->(∀h2,Heap.SameBut C s'.heap h2->Inv X pins σ H' { s' with heap:=h2 })->RR (.ref D) C (.ok .next) s') :
  wpAny (model X.prog X.w) X.A (newList []) (fun acc s3=>wpAny (model X.prog X.w) X.A (newFunctionEnv sc X.env.globals (yds sc X.env) [] X.env.qual none .none (some X.env)) (fun cenv s4 =>
   codeAny (model X.prog X.w) X.A (.compStart (.ListComp elt [⟨tg,iter,ifs,0⟩] sc pos) 0 (.ref it) acc { cenv with scope:=relabel sc X.env }) (RR acc cenv.locals) s4) X.xe s3) X.xe s:=by
 refine wpAny_newObj_type (wpAny_newFunctionEnv O.nocell (by intro y hy;simp at hy) (fun h1 hns1 hsb1=>?_) O.kind)
 dsimp only at hns1 hsb1 ⊢
 have hDn:H s.heap.objs.size=none:=I.hok.fresh (Nat.le_refl _)
 obtain ⟨W,⟨m,w0⟩,step⟩:=h s.heap.objs.size hDn
 obtain ⟨s3,hs3⟩:∃x:Shared,x=({ s with heap:=s.heap.push { cls:=.type "list",dict:=none,data:=.seq ([]:List Value).toArray } }:Shared):=⟨_,rfl⟩
 have e3:s3.heap=s.heap.push { cls:=.type "list",dict:=none,data:=.seq ([]:List Value).toArray }:=by rw [hs3]
 rw [<- e3] at hns1 hsb1
 have hp3:∀b o,s.heap.get? b=some o->s3.heap.get? b=some o:=fun b o e=>by
  rw [e3]
  exact Heap.get?_push_of_some _ e
 have I3:Inv X pins σ (upd H s.heap.objs.size (.lst [])) s3:=by
  have q:=I.laid (a:=s.heap.objs.size) (o:=.lst []) (h':=s3.heap) (t':=s.toks) hp3 (Nat.le_refl _) ⟨Nat.zero_le _,[],_,.nil,by rw [e3];exact Heap.get?_push_size _ rfl⟩
  rw [hs3] at q ⊢
  exact q
 have hf3:∀b∈fp,ybh X pins (upd H s.heap.objs.size (.lst [])) b:=fun b hb=>by
  obtain ⟨o,e,_⟩:=T.obj _ _ st b hb
  refine ⟨?_,(hf b hb).2⟩
  rw [zH (Nat.ne_of_lt (Heap.lt_size e))]
  exact (hf b hb).1
 have st3:tn 0 s3.heap:=T.keep _ _ _ st fun b _ o e=>hp3 b o e
 have hob:∀b∈fp,∃o,s3.heap.get? b=some o:=fun b hb=>by
  obtain ⟨o,e,_⟩:=T.obj _ _ st3 b hb
  exact ⟨o,e⟩
 have hk1:∀b o,s3.heap.get? b=some o->h1.get? b=some o:=fun b o e=>hsb1.extBut b o (Nat.ne_of_lt (Heap.lt_size e)) (Heap.get?_push_of_some _ e)
 have J1:=zjy (t':=s3.toks+([]:List (Str×Value)).length) I3 O hf3 hob hns1 hk1
 have hfc:∀b∈fp,ybh (cxC X sc NC ⟨s3.heap.objs.size,s3,upd H s.heap.objs.size (.lst []),fp⟩) [] (upd H s.heap.objs.size (.lst [])) b:=fun b hb =>
  ⟨(hf3 b hb).1,(J1.ok.exf b hb).1,J1.ok.exfs b hb,.inl hb,(J1.ok.exf b hb).2,fun p hp=>nomatch hp⟩
 have loop:codeAny (model X.prog X.w) X.A (.compLoop (.ListComp elt [⟨tg,iter,ifs,0⟩] sc pos) 0 (.ref it) (.ref s.heap.objs.size) (cxC X sc NC ⟨s3.heap.objs.size,s3,upd H s.heap.objs.size (.lst []),fp⟩).env) (RR (.ref s.heap.objs.size) s3.heap.objs.size)
   { s3 with heap:=h1,toks:=s3.toks+([]:List (Str×Value)).length }:=by
  refine zmw (D:=s.heap.objs.size) (Q:=Q (.ref s.heap.objs.size)) hc hg ht he T J1 hfc (T.keep _ _ _ st3 fun b _ o e=>hk1 b o e) w0 step fun σ' H' s' J' q'=>?_
  have fC:H' s3.heap.objs.size=none:=J'.free
  refine fin _ _ s' H' q' ?_ (I3.fpOk (Nat.le_refl _) fC) fun h2 hb=>zjm I3 hf3 (Nat.le_refl _) J' hb
  obtain ⟨m',hn',_⟩:=J'.loc
  obtain ⟨o,es,ep,ho,hd,r⟩:=id hn'
  exact ⟨o,m',ho,hn',fun v z=>by rw [hd] at z;cases z⟩
 have self:=fun (RQ:Value->Shared->Prop) (EE:Value->Shared->Prop)=>T.self X.A 0 { s3 with heap:=h1,toks:=s3.toks+([]:List (Str×Value)).length } RQ EE (T.keep _ _ _ st3 fun b _ o e=>hk1 b o e)
 subst hs3
 exact codeAny_compStart_list loop (self _ _ loop)
variable {wi:TI}
theorem znN (hc:X.calm=true)(O:yZ X sc NC slots)(hi:PI X tg iter wi)(hg:∀j,PG (cxC X sc NC j) tg g)(ht:∀j,PTs (cxC X sc NC j) ifs ti)(he:∀j,PE (cxC X sc NC j) elt te)
  (hs:∀x,foldedSetIterable iter X.env x=pure x:=by intro _;rfl):PE X (.ListComp elt [⟨tg,iter,ifs,0⟩] sc pos) (ych slots wi g ti te):=by
 intro pins s σ H Q I h
 rw [eval_ListComp]
 refine wpAny_comprehension_free (use:=none) rfl hs (zdD (O.cells I.ok)) O.kind O.names (thn (hi pins s σ H _ I h) fun v s1 h1=>thn h1 fun itv s2 h2=>?_)
 obtain ⟨it,fp,tn,J,H2,rfl,I2,T,st2,f2,q2⟩:=h2
 refine zgD hc O hg ht he I2 T st2 f2 q2 fun D C s' H' q' ⟨o,m,ho,hn,_⟩ _ out=>⟨m,hn,fun h2 hb=>⟨.ref D,H',out h2 hb,rfl,q'⟩⟩
theorem zlp {i:Nat}{x:Str}{px spos:Pos}(hN:X.N.Nodup)(hix:X.N[i]?=some x)(hx:Loc X.env.scope x)(hc:X.calm=true)(O:yZ X sc NC slots)(hi:PI X tg iter wi)(hg:∀j,PG (cxC X sc NC j) tg g)(ht:∀j,PTs (cxC X sc NC j) ifs ti)(he:∀j,PE (cxC X sc NC j) elt te)
  (hsw:swapsWith (.ListComp elt [⟨tg,iter,ifs,0⟩] sc pos) (some (.Name x px)) spos.line X.env=pure true:=by rfl) (hs:∀x,foldedSetIterable iter X.env x=pure x:=by intro _;rfl)
  (hf:X.fn x=true \/ X.env.scope.names.lookup x=some .local:=by first|exact .inl rfl|exact .inr rfl|assumption):PS X (.Assign [.Name x px] (.ListComp elt [⟨tg,iter,ifs,0⟩] sc pos) spos) (ydZ (ych slots wi g ti te) (yci i)):=by
 intro pins s σ H Dd I h
 rw [exec_Assign_Name_used _ _ _ _ hsw,arm_evalThenUse_ListComp]
 refine wpAny_bind (wpAny_standAt (wpAny_bind (wpAny_bind ?_)))
 refine wpAny_comprehension_free (Q:=fun _ s'=>wpAny (model X.prog X.w) X.A (pure ()) (fun _ s''=>wpAny (model X.prog X.w) X.A (pure Flow.next) (SP X pins Dd) X.xe s'') X.xe s') rfl hs (zdD (O.cells I.ok)) O.kind O.names (thn (hi pins s σ H _ I h) fun v s1 h1=>thn h1 fun itv s2 h2=>?_)
 obtain ⟨it,fp,tn,J,H2,rfl,I2,T,st2,f2,q2⟩:=h2
 refine zgD (Q:=fun x H1=>yci i x σ H1 Dd.nx) hc O hg ht he I2 T st2 f2 q2 fun D C s' H' q' ⟨o,m,ho,hn,hd⟩ FC out=>?_
 have I':Inv X pins σ H' s':=out s'.heap (Heap.SameBut.refl ..)
 have Ip:Inv X (pins++[(C,o)]) σ H' s':=I'.pins_of fun p hp=>(List.mem_append.mp hp).elim (fun z=>I'.pin p (List.mem_append_right _ z)) fun z=>by
  have e:p=(C,o):=by simpa using z
  subst e
  exact ⟨ho,FC.1,FC.2.1,FC.2.2.1,hd⟩
 show wpAny (model X.prog X.w) X.A (assign (.Name x px) X.env (.ref D)) _ _ s'
 refine wpAny_assign_Name (zcj Ip hN hix hx (show RelV (.ref D) (.ref D) from rfl) (fun s6 I6=>?_) hf)
 have g6:=(I6.pin (C,o) (List.mem_append_right _ (List.mem_append_right _ List.mem_cons_self))).1
 obtain ⟨o',es,ep,ho',r⟩:=hn
 rw [ho] at ho'
 cases ho'
 refine ⟨m,⟨o,es,ep,g6,r⟩,fun h2 hb=>wpAny_pure (wpAny_pure ?_)⟩
 exact ⟨_,H',I6.unpinned.turned (t':=s6.toks) (fun b u hb' e=>(hb.2 b hb').trans e) FC.1 FC.2.1 FC.2.2.2.1 FC.2.2.2.2.1 FC.2.2.2.2.2,q'⟩
end
theorem zi6:∀{bs:List Bool} {us:List Value},Vals (bs.map V.bl) us->LSm.BoolsAre us bs
 | [],_,.nil=>.nil
 |b::bs,_,.cons r q=>by
  cases (show _=Value.bool b from r)
  exact .cons b (zi6 q)
section
variable {X:Cx}
def yfi (K:PySem.W.Frag):List V->Hp->VK->Prop:=fun xs H Q=>∃(l:Addr) (bs:List Bool),xs=[.ref l]/\SqL K H l (bs.map V.bl)/\Q (.bl (bs.all id)) H
theorem zmi (hc:X.calm=true):yad X (.builtin "all") (yfi X.K):=by
 intro pins s σ H xs us Q I r h
 obtain ⟨l,bs,rfl,hq,q⟩:=h
 obtain ⟨u,rfl,ru⟩:=Vals.one r
 cases (show u=Value.ref l from ru)
 obtain ⟨its,rv,pl,hz⟩:=I.list hq
 have hb:=zi6 rv
 have hl:=pl.isList
 have hlt:l<s.heap.objs.size:=by
  obtain ⟨_,e,_⟩:=hl
  exact Heap.lt_size e
 refine call_all_walk (wpAny_pyIter_list hl ?_)
 refine ⟨s.heap.objs.size,[s.heap.objs.size,l],[s.heap.objs.size],its.toArray.size,_,_,fun i=>(bs[i]?).getD true,rfl,Walks.list (A:=X.A.in1) (I.ok.hd hc) _ l (Nat.ne_of_lt hlt) its.toArray,⟨⟨_,Heap.get?_push_size _ rfl,rfl,rfl⟩,hl.push _⟩,fun i v s' Q' E' hP hQ=>?_,fun h' tk hk=>?_⟩
 ·obtain ⟨b,e,rfl⟩:=hb.get i v (by simpa using hP)
  simp only [e,Option.getD_some] at hQ
  exact wpAny_truthy_bool hQ
 ·have e:((List.range its.toArray.size).all fun i=>(bs[i]?).getD true)=bs.all id:=by
   rw [List.size_toArray,hb.length]
   exact LSm.range_all bs
  rw [e]
  exact ⟨.bl _,H,I.kept (t':=tk) (LSm.kept_iter hk),rfl,q⟩
end
section
variable {X:Cx}{pins:List (Addr×Obj)}{σ:St}{H:Hp}{s:Shared}
end
section
variable {X:Cx}{a:Expr}{ta:TE}{K:PySem.W.Frag}
end
end L2
namespace L2
end L2
namespace L2
open PySem PySem.Spec PyProof.Rows
section
variable {X:Cx}
end
end L2
namespace WE
open PySem PySem.Spec PyProof.Rows
section
variable {pg:Program}{wd:World}{A:Around}{Er:Value->Shared->Prop}{s:Shared}
theorem tit_keep {h h':Heap}{i t:Addr}{j:Nat}(u:h.IsTupleIter i t j)(k:∀o,h.get? i=some o->h'.get? i=some o):h'.IsTupleIter i t j:=let ⟨o,g,r⟩:=u;⟨o,k o g,r⟩
theorem zff {h h':Heap}{t:Addr}{xs:Array Value}(u:h.IsTuple t xs)(k:∀o,h.get? t=some o->h'.get? t=some o):h'.IsTuple t xs:=let ⟨o,g,r⟩:=u;⟨o,k o g,r⟩
def Kz (z TO i1 i2:Addr)(h h':Heap):Prop:=∀c o,c≠z->c≠TO->c≠i1->c≠i2->h.get? c=some o->h'.get? c=some o
theorem zld {z TI TO i1 i2 l1 l2:Addr}{j:Nat}{xs ys:Array Value}{x y a b:Value}{Q:Value->Shared->Prop}(D:ZipApart z TI TO i1 i2 l1 l2)
  (gz:IsZip s.heap z TI TO .none) (gI:IsPair s.heap TI (.ref i1) (.ref i2)) (gO:IsPair s.heap TO a b) (u1:s.heap.IsTupleIter i1 l1 j) (u2:s.heap.IsTupleIter i2 l2 j) (t1:s.heap.IsTuple l1 xs) (t2:s.heap.IsTuple l2 ys) (ex:xs[j]?=some x) (ey:ys[j]?=some y)
  (k:∀h',IsZip h' z TI TO (rawInt s.heap.objs.size)->IsPair h' TO x y->h'.IsTupleIter i1 l1 (j+1)->h'.IsTupleIter i2 l2 (j+1)->IsPair h' s.heap.objs.size x y->h'.objs.size=s.heap.objs.size+1->Kz z TO i1 i2 s.heap h'->Q (.ref s.heap.objs.size) { s with heap:=h' }) :
  wpAny (model pg wd) A (Builtin.«zip.__next__» ⟨[.ref z],[]⟩) (fun f s'=>∃v,f=.done (.ret v)/\Q v s') Er s:=by
 show wpAny _ _ (field (.ref z) 2 >>= _) _ _ _;refine wpAny_bind (wpAny_field gz rfl (x:=.bool false) rfl ?_)
 show wpAny _ _ (field (.ref z) 3 >>= _) _ _ _;refine wpAny_bind (wpAny_field gz rfl (x:=.ref TI) rfl ?_);refine wpAny_bind (wpAny_seqItems gI rfl ?_)
 show wpAny _ _ (Builtin.SmallTypes.ownedTupleIsFree (.ref z) >>= _) _ _ _;refine wpAny_bind ?_;unfold Builtin.SmallTypes.ownedTupleIsFree
 refine wpAny_bind (wpAny_field gz rfl (x:=.none) rfl (wpAny_pure ?_));simp only [if_true]
 refine wpAny_bind (wpAny_rule ?_);refine wpAny_bind (wpAny_field gz rfl (x:=.ref TO) rfl ?_);refine wpAny_bind (wpAny_setField_rec gz (by simp) fun ha za sa=>?_)
 replace za:IsZip ha z TI TO .ellipsis:=za
 refine wpAny_bind ?_;simp only [List.zipIdx_cons,List.zipIdx_nil,List.forIn_cons,List.forIn_nil];refine wpAny_bind (wpAny_bind (wpAny_onRaise ?_))
 show wpAny _ _ (Builtin.SmallTypes.nextOf (.ref i1) >>= _) _ _ _
 refine wpAny_bind (zeO (tit_keep u1 fun o e=>sa.extBut _ _ D.i1z e) (zff t1 fun o e=>sa.extBut _ _ D.l1z e) ex fun hb ub sb=>wpAny_pure ?_)
 have ob:IsPair hb TO a b:=sb.extBut _ _ D.TOi1 (sa.extBut _ _ D.TOz gO)
 refine wpAny_bind (wpAny_seqItems ob rfl ?_);refine wpAny_bind (wpAny_updateSeq_pair ob fun hc oc sc=>?_)
 replace oc:IsPair hc TO x b:=oc
 refine wpAny_bind (wpAny_letGo (wpAny_pure ?_));refine wpAny_bind (wpAny_bind (wpAny_onRaise ?_))
 show wpAny _ _ (Builtin.SmallTypes.nextOf (.ref i2) >>= _) _ _ _
 refine wpAny_bind (zeO (tit_keep u2 fun o e=>sc.extBut _ _ D.TOi2.symm (sb.extBut _ _ D.i12.symm (sa.extBut _ _ D.i2z e))) (zff t2 fun o e=>sc.extBut _ _ D.l2TO (sb.extBut _ _ D.l2i1 (sa.extBut _ _ D.l2z e))) ey fun hd ud sd=>wpAny_pure ?_)
 have od:IsPair hd TO x b:=sd.extBut _ _ D.TOi2 oc
 refine wpAny_bind (wpAny_seqItems od rfl ?_);refine wpAny_bind (wpAny_updateSeq_pair od fun he oe se=>?_)
 replace oe:IsPair he TO x y:=oe
 refine wpAny_bind (wpAny_letGo (wpAny_pure (wpAny_pure ?_)));refine wpAny_bind (wpAny_seqItems oe rfl ?_);refine wpAny_bind (wpAny_newTuple ?_)
 have sz:he.objs.size=s.heap.objs.size:=by rw [se.1,sd.1,sc.1,sb.1,sa.1]
 have ze:IsZip he z TI TO .ellipsis:=se.extBut _ _ D.TOz.symm (sd.extBut _ _ D.i2z.symm (sc.extBut _ _ D.TOz.symm (sb.extBut _ _ D.i1z.symm za)))
 have ke:Kz z TO i1 i2 s.heap he:=fun c o p1 p2 p3 p4 e=>se.extBut _ _ p2 (sd.extBut _ _ p4 (sc.extBut _ _ p2 (sb.extBut _ _ p3 (sa.extBut _ _ p1 e))))
 have v1:he.IsTupleIter i1 l1 (j+1):=tit_keep ub fun o e=>se.extBut _ _ D.TOi1.symm (sd.extBut _ _ D.i12 (sc.extBut _ _ D.TOi1.symm e))
 have v2:he.IsTupleIter i2 l2 (j+1):=tit_keep ud fun o e=>se.extBut _ _ D.TOi2.symm e
 have lz:z<he.objs.size:=Heap.lt_size ze
 show wpAny _ _ (Builtin.SmallTypes.ownedTupleHandOut (.ref z) (.ref he.objs.size) >>= _) _ _ _;refine wpAny_bind ?_;unfold Builtin.SmallTypes.ownedTupleHandOut
 have zf:IsZip (he.push { cls:=.type "tuple",data:=.seq #[x,y] }) z TI TO .ellipsis:=Heap.get?_push_of_some _ ze
 refine wpAny_bind (wpAny_setField_rec zf (by simp) fun hg zg sg=>?_)
 replace zg:IsZip hg z TI TO (rawInt he.objs.size):=zg
 refine wpAny_setField_rec zg (by simp) fun hi zi si=>?_
 replace zi:IsZip hi z TI TO (rawInt he.objs.size):=zi
 have up:∀c o,c≠z->he.get? c=some o->hi.get? c=some o:=fun c o p e=>si.extBut _ _ p (sg.extBut _ _ p (Heap.get?_push_of_some _ e))
 have pn:IsPair hi he.objs.size x y:=si.extBut _ _ (Nat.ne_of_gt lz) (sg.extBut _ _ (Nat.ne_of_gt lz) (Heap.get?_push_size _ rfl))
 have si8:hi.objs.size=he.objs.size+1:=by rw [si.1,sg.1,Heap.size_push]
 rw [sz] at zi pn si8
 refine wpAny_pure ⟨_,rfl,?_⟩;show Q (.ref he.objs.size) _;rw [sz]
 exact k hi zi (up _ _ D.TOz oe) (tit_keep v1 fun o e=>up _ o D.i1z e) (tit_keep v2 fun o e=>up _ o D.i2z e) pn si8 fun c o p1 p2 p3 p4 e=>up c o p1 (ke c o p1 p2 p3 p4 e)
theorem zmq {z TI TO i1 i2 l1 l2:Addr}{j:Nat}{xs:Array Value}{a b:Value}{Q:Fin->Shared->Prop}(hh:A.handled=none)(D:ZipApart z TI TO i1 i2 l1 l2)
  (gz:IsZip s.heap z TI TO .none) (gI:IsPair s.heap TI (.ref i1) (.ref i2)) (gO:IsPair s.heap TO a b) (u1:s.heap.IsTupleIter i1 l1 j) (t1:s.heap.IsTuple l1 xs) (ex:xs[j]?=none)
  (k:∀h' e,Kz z TO i1 i2 s.heap h'->(∃o,h'.get? e=some o/\o.cls=.type "StopIteration")->Er (.ref e) { s with heap:=h' }) :
  wpAny (model pg wd) A (Builtin.«zip.__next__» ⟨[.ref z],[]⟩) Q Er s:=by
 show wpAny _ _ (field (.ref z) 2 >>= _) _ _ _;refine wpAny_bind (wpAny_field gz rfl (x:=.bool false) rfl ?_)
 show wpAny _ _ (field (.ref z) 3 >>= _) _ _ _;refine wpAny_bind (wpAny_field gz rfl (x:=.ref TI) rfl ?_);refine wpAny_bind (wpAny_seqItems gI rfl ?_)
 show wpAny _ _ (Builtin.SmallTypes.ownedTupleIsFree (.ref z) >>= _) _ _ _;refine wpAny_bind ?_;unfold Builtin.SmallTypes.ownedTupleIsFree
 refine wpAny_bind (wpAny_field gz rfl (x:=.none) rfl (wpAny_pure ?_));simp only [if_true]
 refine wpAny_bind (wpAny_rule ?_);refine wpAny_bind (wpAny_field gz rfl (x:=.ref TO) rfl ?_);refine wpAny_bind (wpAny_setField_rec gz (by simp) fun ha za sa=>?_)
 replace za:IsZip ha z TI TO .ellipsis:=za
 refine wpAny_bind ?_;simp only [List.zipIdx_cons,List.zipIdx_nil,List.forIn_cons,List.forIn_nil];refine wpAny_bind (wpAny_bind (wpAny_onRaise ?_))
 show wpAny _ _ (Builtin.SmallTypes.nextOf (.ref i1) >>= _) _ _ _
 refine wpAny_bind (zhU hh (tit_keep u1 fun o e=>sa.extBut _ _ D.i1z e) (zff t1 fun o e=>sa.extBut _ _ D.l1z e) ex fun hb e sb he=>?_)
 obtain ⟨oe,ge,ce⟩:=he
 have zb:IsZip hb z TI TO .ellipsis:=sb _ _ D.i1z.symm za
 have ne:e≠z:=fun q=>by subst q;rw [zb] at ge;cases ge;simp at ce
 exact wpAny_setField_rec zb (by simp) fun hc _ sc=>k hc e (fun c o p1 _ p3 _ q=>sc.extBut _ _ p1 (sb _ _ p3 (sa.extBut _ _ p1 q))) ⟨oe,sc.extBut _ _ ne ge,ce⟩
theorem pyNext_zipT {z TI TO i1 i2 l1 l2:Addr}{j:Nat}{xs ys:Array Value}{x y a b:Value}{Q:Option Value->Shared->Prop}(D:ZipApart z TI TO i1 i2 l1 l2)
  (gz:IsZip s.heap z TI TO .none) (gI:IsPair s.heap TI (.ref i1) (.ref i2)) (gO:IsPair s.heap TO a b) (u1:s.heap.IsTupleIter i1 l1 j) (u2:s.heap.IsTupleIter i2 l2 j) (t1:s.heap.IsTuple l1 xs) (t2:s.heap.IsTuple l2 ys) (ex:xs[j]?=some x) (ey:ys[j]?=some y)
  (k:∀h',IsZip h' z TI TO (rawInt s.heap.objs.size)->IsPair h' TO x y->h'.IsTupleIter i1 l1 (j+1)->h'.IsTupleIter i2 l2 (j+1)->IsPair h' s.heap.objs.size x y->h'.objs.size=s.heap.objs.size+1->Kz z TO i1 i2 s.heap h'->Q (some (.ref s.heap.objs.size)) { s with heap:=h' }) :
  wpAny (model pg wd) A (pyNext (.ref z)) Q Er s:=by
 have ty:s.TypeIs (.ref z) "zip":=⟨_,gz,rfl⟩
 unfold pyNext
 exact wpAny_bind (wpAny_attempt (wpAny_callSpecial?_slot (name:=Str.ofString "__next__") ty F.slot_zip_next (wpAny_call_entry F.slot_zip_next ty F.entry_zip_next (zld D gz gI gO u1 u2 t1 t2 ex ey fun h' a1 a2 a3 a4 a5 a6 a7=>wpAny_pure (k h' a1 a2 a3 a4 a5 a6 a7)) (F.args_zip_next_1 _))))
theorem pyNext_zipE {z TI TO i1 i2 l1 l2:Addr}{j:Nat}{xs:Array Value}{a b:Value}{Q:Option Value->Shared->Prop}(hh:A.handled=none)(D:ZipApart z TI TO i1 i2 l1 l2)
  (gz:IsZip s.heap z TI TO .none) (gI:IsPair s.heap TI (.ref i1) (.ref i2)) (gO:IsPair s.heap TO a b) (u1:s.heap.IsTupleIter i1 l1 j) (t1:s.heap.IsTuple l1 xs) (ex:xs[j]?=none)
  (k:∀h',Kz z TO i1 i2 s.heap h'->Q none { s with heap:=h' }):wpAny (model pg wd) A (pyNext (.ref z)) Q Er s:=by
 have ty:s.TypeIs (.ref z) "zip":=⟨_,gz,rfl⟩
 unfold pyNext
 refine wpAny_bind (wpAny_attempt (wpAny_callSpecial?_slot (name:=Str.ofString "__next__") ty F.slot_zip_next (wpAny_call_entry F.slot_zip_next ty F.entry_zip_next (zmq hh D gz gI gO u1 t1 ex fun h' e kk he=>?_) (F.args_zip_next_1 _))))
 obtain ⟨o,ho,hc⟩:=he
 exact wpAny_bind (wpAny_isInstance (T:="StopIteration") (b:=true) ⟨o,ho,hc⟩ isSubtype_stop (wpAny_pure (k _ kk)))
end
abbrev ti (l:Addr):Obj:={ cls:=.type "tuple_iterator",data:=.fields #[.ref l,.int 0 0] }
abbrev zh1 (h:Heap)(l1:Addr):Heap:=h.push (ti l1)
abbrev zh2 (h:Heap)(l1 l2:Addr):Heap:=(zh1 h l1).push (ti l2)
abbrev zh3 (h:Heap)(l1 l2:Addr):Heap:=(zh2 h l1 l2).push { cls:=.type "tuple",data:=.seq #[.ref h.objs.size,.ref (zh1 h l1).objs.size] }
abbrev zh4 (h:Heap)(l1 l2:Addr):Heap:=(zh3 h l1 l2).push { cls:=.type "tuple",data:=.seq #[.none,.none] }
abbrev zh5 (h:Heap)(l1 l2:Addr):Heap:=(zh4 h l1 l2).push { cls:=.type "zip",data:=.fields #[.none,.bool false,.bool false,.ref (zh2 h l1 l2).objs.size,.ref (zh3 h l1 l2).objs.size] }
theorem zjA (l1 l2:Addr)(xs ys:Array Value) :
  Meets (Builtin.«zip.__new__» ⟨[.type "zip",.ref l1,.ref l2],[]⟩) (fun _ R s=>s.heap.IsTuple l1 xs/\s.heap.IsTuple l2 ys/\R (.ok (.ret (.ref (zh4 s.heap l1 l2).objs.size))) { s with heap:=zh5 s.heap l1 l2 }) :=
 .of_wp fun prog w A R s h=>by
  obtain ⟨hp,g,d,tk,os⟩:=s
  obtain ⟨q1,q2,h⟩:=h
  have hsub:=sub_zip
  have T1:Heap.IsTuple (Shared.heap ⟨hp,g,d,tk,os⟩) l1 xs:=q1
  have T2:Heap.IsTuple (Shared.heap ⟨hp.push (ti l1),g,d,tk,os⟩) l2 ys:=zff q2 fun o e=>Heap.get?_push_of_some _ e
  wp_walk using wpAny_pyIter_tuple T1,wpAny_pyIter_tuple T2
  exact ⟨_,rfl,h⟩
theorem call_zipT {pg:Program}{wd:World}{A:Around}{Er:Value->Shared->Prop}{s:Shared}{l1 l2:Addr}{xs ys:Array Value}{Q:Value->Shared->Prop}(t1:s.heap.IsTuple l1 xs)(t2:s.heap.IsTuple l2 ys)
  (k:∀h',IsZip h' (s.heap.objs.size+4) (s.heap.objs.size+2) (s.heap.objs.size+3) .none->IsPair h' (s.heap.objs.size+2) (.ref s.heap.objs.size) (.ref (s.heap.objs.size+1))->IsPair h' (s.heap.objs.size+3) .none .none->h'.IsTupleIter s.heap.objs.size l1 0->h'.IsTupleIter (s.heap.objs.size+1) l2 0 ->
   (∀b o,s.heap.get? b=some o->h'.get? b=some o)->Q (.ref (s.heap.objs.size+4)) { s with heap:=h' }):wpAny (model pg wd) A (call (.type "zip") [.ref l1,.ref l2]) Q Er s:=by
 refine callType_new F.called_zip (by decide) (F.typeCall_zip_2 _ _) (F.newCall_zip_2 _ _) (fun obj=>F.args_object_init_3 obj _ _) F.entry_zip_new (zjA l1 l2 xs ys) ⟨t1,t2,?_⟩
 have n1:(zh1 s.heap l1).objs.size=s.heap.objs.size+1:=Heap.size_push ..
 have n2:(zh2 s.heap l1 l2).objs.size=s.heap.objs.size+2:=by rw [Heap.size_push,n1]
 have n3:(zh3 s.heap l1 l2).objs.size=s.heap.objs.size+3:=by rw [Heap.size_push,n2]
 have n4:(zh4 s.heap l1 l2).objs.size=s.heap.objs.size+4:=by rw [Heap.size_push,n3]
 have kp:∀{h:Heap} {o:Obj} {b:Addr} {u:Obj},h.get? b=some u->(h.push o).get? b=some u:=fun e=>Heap.get?_push_of_some _ e
 have m5:(zh5 s.heap l1 l2).get? (zh4 s.heap l1 l2).objs.size=some _:=Heap.get?_push_size _ rfl
 have m4:(zh5 s.heap l1 l2).get? (zh3 s.heap l1 l2).objs.size=some _:=kp (Heap.get?_push_size _ rfl)
 have m3:(zh5 s.heap l1 l2).get? (zh2 s.heap l1 l2).objs.size=some _:=kp (kp (Heap.get?_push_size _ rfl))
 have m2:(zh5 s.heap l1 l2).get? (zh1 s.heap l1).objs.size=some _:=kp (kp (kp (Heap.get?_push_size _ rfl)))
 have m1:(zh5 s.heap l1 l2).get? s.heap.objs.size=some _:=kp (kp (kp (kp (Heap.get?_push_size _ rfl))))
 rw [n2,n3,n4] at m5
 rw [n1,n2] at m3
 rw [n3] at m4
 rw [n1] at m2
 show _/\_
 rw [n4]
 exact ⟨⟨_,m5,rfl⟩,k _ m5 m3 m4 ⟨_,m1,rfl,rfl⟩ ⟨_,m2,rfl,rfl⟩ fun b o e=>kp (kp (kp (kp (kp e))))⟩
end WE
namespace L2
open PySem PySem.Spec PyProof.Rows
def Itz (K:PySem.W.Frag)(a b:Addr):It :=
 ⟨fun i H=>∃xs ys x y,SqT K H a xs/\SqT K H b ys/\xs[i]?=some x/\ys[i]?=some y,fun i H v H'=>∃T,H T=none/\v=.ref T/\∀xs ys x y,SqT K H a xs->SqT K H b ys->xs[i]?=some x->ys[i]?=some y->H'=upd H T (.tup [x,y]),fun i H=>∃xs,SqT K H a xs/\xs.length=i⟩
theorem zlx {P:Program}{w:World}{K:PySem.W.Frag}{es:List Expr}{kk:Nat}{pos:Pos}(z TI TO i1 i2 a b:Addr)(D:ZipApart z TI TO i1 i2 a b) :
  Turn P w K (.Tuple es kk pos) (Itz K a b) [z,TI,TO,i1,i2] z (fun i h=>IsZip h z TI TO .none/\IsPair h TI (.ref i1) (.ref i2)/\(∃p q,IsPair h TO p q)/\h.IsTupleIter i1 a i/\h.IsTupleIter i2 b i) where
 mem:=by simp
 obj:=fun i h st c hc=>by
  obtain ⟨g0,g1,⟨p,q,g2⟩,⟨o3,g3,_,d3⟩,⟨o4,g4,_,d4⟩⟩:=st
  simp only [List.mem_cons,List.not_mem_nil,or_false] at hc
  rcases hc with rfl|rfl|rfl|rfl|rfl
  ·exact ⟨_,g0,fun v y=>nomatch y⟩
  ·exact ⟨_,g1,fun v y=>nomatch y⟩
  ·exact ⟨_,g2,fun v y=>nomatch y⟩
  ·exact ⟨o3,g3,fun v y=>by rw [d3] at y;cases y⟩
  ·exact ⟨o4,g4,fun v y=>by rw [d4] at y;cases y⟩
 keep:=fun i h h' st k=>by
  obtain ⟨g0,g1,⟨p,q,g2⟩,g3,g4⟩:=st
  exact ⟨k z (by simp) _ g0,k TI (by simp) _ g1,⟨p,q,k TO (by simp) _ g2⟩,WE.tit_keep g3 fun o e=>k i1 (by simp) o e,WE.tit_keep g4 fun o e=>k i2 (by simp) o e⟩
 item:=by
  intro X hP hw hK hc i pins s σ H E I hf st hg
  subst hP hw hK
  obtain ⟨xs,ys,x,y,hq1,hq2,hx,hy⟩:=hg
  obtain ⟨its,rv,p1,_⟩:=I.tuple hq1
  obtain ⟨jts,rw',p2,_⟩:=I.tuple hq2
  obtain ⟨g0,g1,⟨p,q,g2⟩,g3,g4⟩:=st
  obtain ⟨u,hu,ru⟩:=rv.get hx
  obtain ⟨v,hv,rv2⟩:=rw'.get hy
  refine WE.pyNext_zipT D g0 g1 g2 g3 g4 p1 p2 (by simpa using hu) (by simpa using hv) fun h1 a1 a2 a3 a4 a5 a6 a7=>⟨_,rfl,?_⟩
  refine wpAny_letOwnedTupleGo_zip a1 fun h2 b1 b2=>?_
  have lt:∀{c o},s.heap.get? c=some o->s.heap.objs.size≠c:=fun e=>Nat.ne_of_gt (Heap.lt_size e)
  have hTz:s.heap.objs.size≠z:=lt g0
  have hch:∀c o,c∉[z,TI,TO,i1,i2]->s.heap.get? c=some o->h2.get? c=some o:=fun c o hn e=>b2.extBut _ _ (fun z'=>hn (by simp [z'])) (a7 c o (fun z'=>hn (by simp [z'])) (fun z'=>hn (by simp [z'])) (fun z'=>hn (by simp [z'])) (fun z'=>hn (by simp [z'])) e)
  have new:yI X.prog X.w (upd H s.heap.objs.size (.tup [x,y])) h2 s.heap.objs.size (.tup [x,y]):=⟨by show 2<=sizeLine;decide,[u,v],.cons ru (.cons rv2 .nil),_,b2.extBut _ _ hTz a5,rfl,_,rfl⟩
  have I2:=I.turnLaid (t':=s.toks) hf hch (Nat.le_refl _) new
  have gI:IsPair h1 TI (.ref i1) (.ref i2):=a7 _ _ D.TIz D.TITO D.TIi1 D.TIi2 g1
  refine ⟨.ref s.heap.objs.size,_,I2,rfl,⟨s.heap.objs.size,I.hok.fresh (Nat.le_refl _),rfl,fun xs' ys' x' y' hx1 hy1 hx2 hy2=>?_⟩,⟨b1,b2.extBut _ _ D.TIz gI,⟨_,_,b2.extBut _ _ D.TOz a2⟩,WE.tit_keep a3 fun o e=>b2.extBut _ _ D.i1z e,WE.tit_keep a4 fun o e=>b2.extBut _ _ D.i2z e⟩,fun c hc=>?_⟩
  ·rw [I.tuple_inj hx1 hq1,hx] at hx2
   rw [I.tuple_inj hy1 hq2,hy] at hy2
   cases hx2
   cases hy2
   rfl
  ·have hne:c≠s.heap.objs.size:=fun z'=>by
    subst z'
    obtain ⟨o3,e3,_⟩:=g3
    obtain ⟨o4,e4,_⟩:=g4
    simp only [List.mem_cons,List.not_mem_nil,or_false] at hc
    rcases hc with z' | z' | z' | z' | z'
    ·exact lt g0 z'
    ·exact lt g1 z'
    ·exact lt g2 z'
    ·exact lt e3 z'
    ·exact lt e4 z'
   rw [zH hne]
   exact (hf c hc).1
 done:=by
  intro X hP hw hK hc i pins s σ H E I hf st hg
  subst hP hw hK
  obtain ⟨xs,hq1,hx⟩:=hg
  obtain ⟨its,rv,p1,_⟩:=I.tuple hq1
  obtain ⟨g0,g1,⟨p,q,g2⟩,g3,g4⟩:=st
  have hl:=rv.length
  refine WE.pyNext_zipE (I.ok.hd hc) D g0 g1 g2 g3 p1 (by simp;omega) fun h' kz=>⟨rfl,I.turnedL (t':=s.toks) hf fun c o hn e=>kz c o (fun z'=>hn (by simp [z'])) (fun z'=>hn (by simp [z'])) (fun z'=>hn (by simp [z'])) (fun z'=>hn (by simp [z'])) e⟩
 self:=fun _ _ _ _ _ st q=>wpAny_pyIter_zip st.1 q
def yfO (K:PySem.W.Frag)(ta:TA):TI:=fun σ H R=>ta σ H fun vs H1=>∃a b,vs=[.ref a,.ref b]/\(∃xs,SqT K H1 a xs)/\(∃ys,SqT K H1 b ys)/\R (Itz K a b) H1
theorem zna {X:Cx}{a b:Expr}{es:List Expr}{kk:Nat}{tp:Pos}{ta:TA}{p pos:Pos}(hg:Gl X "zip")(hm:X.mg "zip"=none)(ha:PA X [a,b] ta)(hs:starEach [a,b] X.env=[(false,eval a X.env),(false,eval b X.env)]:=by rfl)(hs2:starEach [b] X.env=[(false,eval b X.env)]:=by rfl) :
  PI X (.Tuple es kk tp) (.Call (.Name "zip" p) [a,b] [] pos) (yfO X.K ta):=by
 intro pins s σ H R I h
 refine wpAny_Call_Name_kw (zgv I hg hm boot_zip ?_)
 refine PyProof.Rows.callWith_type1 (thn (ha pos pins s σ H _ I h) fun us s1 ⟨vs,H1,I1,r1,q1⟩=>?_) (by rw [hs,hs2]) (by rw [hs2];rfl)
 obtain ⟨l1,l2,rfl,⟨xs,hq1⟩,⟨ys,hq2⟩,q⟩:=q1
 cases r1 with
 |cons r rr =>
  cases rr with
  |cons r2 r3 =>
   cases r3
   cases (show _=Value.ref l1 from r)
   cases (show _=Value.ref l2 from r2)
   obtain ⟨its,rv,pt1,_⟩:=I1.tuple hq1
   obtain ⟨jts,rv2,pt2,_⟩:=I1.tuple hq2
   have b1:l1<s1.heap.objs.size:=by obtain ⟨_,e,_⟩:=pt1;exact Heap.lt_size e
   have b2:l2<s1.heap.objs.size:=by obtain ⟨_,e,_⟩:=pt2;exact Heap.lt_size e
   refine WE.call_zipT pt1 pt2 fun h1 g0 g1 g2 g3 g4 kp=>?_
   refine wpAny_pyIter_zip g0 ?_
   refine ⟨_,[s1.heap.objs.size+4,s1.heap.objs.size+2,s1.heap.objs.size+3,s1.heap.objs.size,s1.heap.objs.size+1],_,_,H1,rfl,I1.kept (t':=s1.toks) kp,zlx _ _ _ _ _ l1 l2 (zipApart_new b1 b2),⟨g0,g1,⟨_,_,g2⟩,g3,g4⟩,fun c hc=>?_,q⟩
   have hb2:s1.heap.objs.size<=c:=by
    simp only [List.mem_cons,List.not_mem_nil,or_false] at hc
    rcases hc with z' | z' | z' | z' | z' <;> subst z'
    ·exact Nat.le_add_right _ 4
    ·exact Nat.le_add_right _ 2
    ·exact Nat.le_add_right _ 3
    ·exact Nat.le_refl _
    ·exact Nat.le_add_right _ 1
   exact I1.fpOk hb2 (I1.hok.fresh hb2)
section
variable {X:Cx}
end
def CX1 (P:Program)(w:World):CXT:=fun outer H s E e s'=>∃(a:Addr) (cls a0:Value) (H':Hp) (B:Heap),e=.ref a/\s'.os=s.os/\AllBare s'.gens/\Heap.FlyingW B outer a cls a0 s'.heap/\HOk P w H' s'.heap/\Un (frs outer) [] H H' s.heap s'.heap /\
 (∀b o,s.heap.get? b=some o->H b=none->b∉frs outer->B.get? b=some o)/\(∀b u,H' b=some u->∃o,B.get? b=some o)/\(∀b o,s.heap.get? b=some o->b∉frs outer->∃o',B.get? b=some o')/\E cls none H'
theorem yI.there {P:Program}{w:World}{H:Hp}{h:Heap}{a:Addr}{o:HO}(x:yI P w H h a o):∃ob,h.get? a=some ob:=by
 induction o with
 |lst xs=>obtain ⟨_,_,_,_,e⟩:=x;exact ⟨_,e⟩
 |tup xs=>obtain ⟨_,_,_,ob,e,_⟩:=x;exact ⟨ob,e⟩
 |dK kvs=>obtain ⟨_,_,_,_,ob,_,_,e,_⟩:=x;exact ⟨ob,e⟩
 |dT kvs=>obtain ⟨_,_,_,_,ob,_,_,e,_⟩:=x;exact ⟨ob,e⟩
 |set S n=>obtain ⟨ob,_,_,_,e,_⟩:=x;exact ⟨ob,e⟩
 |ins C dx fs=>obtain ⟨_,_,_,e,_⟩:=x;exact ⟨_,e⟩
 |own y=>exact x
 |xd fs=>obtain ⟨_,⟨ob,_,_,e,_⟩,_⟩:=x;exact ⟨ob,e⟩
 |rng lo hi=>obtain ⟨_,_,_,e⟩:=x;exact ⟨_,e⟩
 |frz ob u ih=>exact ⟨ob,x.1⟩
 |tbl ps=>exact ⟨_,x⟩
 |met f y=>exact ⟨_,x⟩
 |ext φ=>exact x.2.1
theorem HOk.inB {P:Program}{w:World}{H:Hp}{h h' B:Heap}(ok:HOk P w H h)(hB:B.StaysIn h)(hB':B.StaysIn h')(tr:∀b u,H b=some u->∃o,B.get? b=some o):HOk P w H h':=fun a o e =>
 (ok a o e).stay (fun b u hb q=>by
  have hb':∃o,B.get? b=some o:=by
   rcases hb with z|z
   ·rw [z]
    exact tr a o e
   ·exact tr b _ z
  obtain ⟨o',q'⟩:=hb'
  have:=hB b o' q'
  rw [q] at this
  cases this
  exact hB' b u q') (fun _ q=>q) fun _ _ q=>q
section
variable {P:Program}{w:World}{K:PySem.W.Frag}{mg:Str->Option Value}{base:Heap}{N:List Str}{qual:Str}{scope:Scope}{f:Addr}{cd:Value}{A:Around}{outer:List Env}{s₀:Shared}{H₀:Hp}{E:XK}
 {pins:List (Addr×Obj)} {σ:St} {H:Hp} {s:Shared}
theorem zjZ {h':Heap}{e:Addr}{cls:Value}{vs:List Value}(I:Inv (yaL (CX1 P w) P w K mg base N qual scope f cd A outer s₀ H₀ E) pins σ H s)(hx:Heap.MadeExcOf s.heap h' e cls vs)(hE:E cls none H) :
  (yaL (CX1 P w) P w K mg base N qual scope f cd A outer s₀ H₀ E).xe (.ref e) { s with heap:=h' }:=by
 have stk:s.heap.FunFrames base (envOfC qual scope s₀.heap.objs.size f cd::outer):=I.stack
 have hst:∀b,b∈frs (envOfC qual scope s₀.heap.objs.size f cd::outer)->b=s₀.heap.objs.size \/ b∈frs outer:=fun b hb=>by
  have hb':b∈s₀.heap.objs.size::frs outer:=hb
  exact List.mem_cons.mp hb'
 have inB:∀b o,s.heap.get? b=some o->b∉frs (envOfC qual scope s₀.heap.objs.size f cd::outer)->(PySem.W.hideAll s.heap (frs (envOfC qual scope s₀.heap.objs.size f cd::outer))).get? b=some o:=fun b o q n=>PySem.W.hideAll_get _ q n
 have hB:(PySem.W.hideAll s.heap (frs (envOfC qual scope s₀.heap.objs.size f cd::outer))).StaysIn s.heap:=fun b o q=>PySem.W.of_hideAll _ q
 have bse:Un (frs outer) [] H₀ H s₀.heap s.heap:=I.base
 have lt:∀b o,s₀.heap.get? b=some o->b≠s₀.heap.objs.size:=fun b o q=>Nat.ne_of_lt (Heap.lt_size q)
 have tr:∀b u,H b=some u->∃o,(PySem.W.hideAll s.heap (frs (envOfC qual scope s₀.heap.objs.size f cd::outer))).get? b=some o:=fun b u q=>by
  obtain ⟨o,ho⟩:=yI.there (I.hok b u q)
  exact ⟨o,inB b o ho fun hb=>by
   have:=I.stkFree b hb
   rw [q] at this
   cases this⟩
 refine wpAny_leaves_madeW (base:=PySem.W.hideAll s.heap (frs (envOfC qual scope s₀.heap.objs.size f cd::outer))) (h:=s.heap) I.ok.frames rfl hB (PySem.W.funFrames_hide stk fun env he a ha=>List.mem_filterMap.mpr ⟨env,he,ha⟩) hx fun h'' t fl tu tn up=>?_
 have up':s.heap.UpToSlots h'':=(Heap.UpToSlots.of_keeps hx.keeps).trans up
 refine ⟨e,cls,_,H,_,rfl,I.os,I.bare,fl,HOk.inB I.hok hB fl.1 tr,⟨fun b o q n hb _=>?_,fun b o q n hb _=>?_,bse.free,fun b o q _=>?_,bse.tups,bse.frzs,bse.tbls⟩,fun b o q n hb=>?_,tr,fun b o q hb=>?_,hE⟩
 ·refine fl.1 b o (inB b o (bse.keep b o q n hb (by simp)) fun z=>?_)
  rcases hst b z with z|z
  ·exact lt b o q z
  ·exact hb z
 ·obtain ⟨sl,q1⟩:=bse.slot b o q n hb (by simp)
  obtain ⟨_,o',ho',hd⟩:=Heap.FunFrames.mem stk (show b∈List.filterMap (fun (z:Env)=>z.frame) _ from List.mem_cons_of_mem _ hb)
  obtain ⟨sl',q2⟩:=up' b _ q1 (by rw [ho'] at q1;cases q1;exact hd)
  exact ⟨sl',q2⟩
 ·obtain ⟨o',q1⟩:=bse.there b o q (by simp)
  by_cases hb:b∈frs (envOfC qual scope s₀.heap.objs.size f cd::outer)
  ·obtain ⟨_,o2,ho',hd⟩:=Heap.FunFrames.mem stk hb
   obtain ⟨sl',q2⟩:=up' b _ ho' hd
   exact ⟨_,q2⟩
  ·exact ⟨o',fl.1 b o' (inB b o' q1 hb)⟩
 ·refine inB b o (bse.keep b o q n hb (by simp)) fun z=>?_
  rcases hst b z with z|z
  ·exact lt b o q z
  ·exact hb z
 ·obtain ⟨o',q1⟩:=bse.there b o q (by simp)
  refine ⟨o',inB b o' q1 fun z=>?_⟩
  rcases hst b z with z|z
  ·exact lt b o q z
  ·exact hb z
theorem yem:ybB (CX1 P w) (yaL (CX1 P w) P w K mg base N qual scope f cd A outer s₀ H₀ E) E:=by
 intro pins σ H s e s' I h
 obtain ⟨a,cls,a0,H',B,rfl,os,bare,fl,hok,un,hB,tr,hT,hE⟩:=h
 have bse:Un (frs outer) [] H₀ H s₀.heap s.heap:=I.base
 have lt:∀b o,s₀.heap.get? b=some o->b≠s₀.heap.objs.size:=fun b o q=>Nat.ne_of_lt (Heap.lt_size q)
 have hst:∀b,b∈frs (envOfC qual scope s₀.heap.objs.size f cd::outer)->b=s₀.heap.objs.size \/ b∈frs outer:=fun b hb=>by
  have hb':b∈s₀.heap.objs.size::frs outer:=hb
  exact List.mem_cons.mp hb'
 have un':Un (frs (envOfC qual scope s₀.heap.objs.size f cd::outer)) [] H H' s.heap s'.heap:=un
 have kB:∀b o,s₀.heap.get? b=some o->H₀ b=none->b∉frs outer->B.get? b=some o:=fun b o q n hb=>hB b o (bse.keep b o q n hb (by simp)) (bse.free b o q n (by simp)) fun z=>by
  rcases hst b z with z|z
  ·exact lt b o q z
  ·exact hb z
 have kT:∀b o,s₀.heap.get? b=some o->b∉frs outer->∃o',B.get? b=some o':=fun b o q hb=>by
  obtain ⟨o',q1⟩:=bse.there b o q (by simp)
  refine hT b o' q1 fun z=>?_
  rcases hst b z with z|z
  ·exact lt b o q z
  ·exact hb z
 refine wpAny_leaves_onW I.ok.frames rfl fl fun h'' fl' up=>?_
 refine ⟨a,cls,a0,H',B,rfl,os.trans I.os,bare,fl',HOk.inB hok fl.1 fl'.1 tr,⟨fun b o q n hb _=>fl'.1 b o (kB b o q n hb),fun b o q n hb _=>?_,fun b o q n _=>?_,fun b o q _=>?_,fun b xs q=>un'.tups b xs (bse.tups b xs q),fun b o u q=>un'.frzs b o u (bse.frzs b o u q),fun b ps q=>?_⟩,kB,tr,kT,hE⟩
 ·obtain ⟨sl,q1⟩:=bse.slot b o q n hb (by simp)
  have n1:=bse.free b o q n (by simp)
  obtain ⟨sl1,q2⟩:=un'.slot b _ q1 n1 (List.mem_cons_of_mem _ hb) (by simp)
  obtain ⟨_,o',ho',hd⟩:=Heap.FunFrames.mem fl.2.2.1 (show b∈List.filterMap (fun (z:Env)=>z.frame) _ from List.mem_cons_of_mem _ hb)
  obtain ⟨sl',q3⟩:=up b _ q2 (by rw [ho'] at q2;cases q2;exact hd)
  exact ⟨sl',q3⟩
 ·obtain ⟨o',q1⟩:=bse.there b o q (by simp)
  exact un'.free b o' q1 (bse.free b o q n (by simp)) (by simp)
 ·obtain ⟨o',q1⟩:=bse.there b o q (by simp)
  obtain ⟨o2,q2⟩:=un'.there b o' q1 (by simp)
  by_cases hb:b∈frs outer
  ·obtain ⟨_,o3,ho3,hd⟩:=Heap.FunFrames.mem fl.2.2.1 (show b∈List.filterMap (fun (z:Env)=>z.frame) _ from List.mem_cons_of_mem _ hb)
   obtain ⟨sl',q3⟩:=up b _ ho3 hd
   exact ⟨_,q3⟩
  ·obtain ⟨o4,q4⟩:=kT b o q hb
   exact ⟨o4,fl'.1 b o4 q4⟩
 ·obtain ⟨m1,e1⟩:=bse.tbls b ps q
  obtain ⟨m2,e2⟩:=un'.tbls b _ e1
  exact ⟨m1++m2,by rw [e2,Array.append_assoc]⟩
end
section
variable {X:Cx}{e:Expr}{es:List Expr}{te:TE}
abbrev TJ:=Str->St->Hp->VK->Prop
def PJ (X:Cx)(es:List Expr)(t:TJ):Prop :=
 ∀(out:Str) (pins:List (Addr×Obj)) (s:Shared) (σ:St) (H:Hp) (Q:VK),Inv X pins σ H s->t out σ H Q->wpAny (model X.prog X.w) X.A (joinParts out (evalEach es X.env)) (EP X pins σ Q) X.xe s
def yfz:TJ:=fun out _ H Q=>out.length<=sizeLine/\Q (.str out) H
def yeH (te:TE)(t:TJ):TJ:=fun out σ H Q=>te σ H fun v H1=>∃y,v=.str y/\(out++y).length<=sizeLine/\t (out++y) σ H1 Q
theorem zoN:PJ X [] yfz:=fun out _ _ _ H _ I h=>joinParts_nil ⟨.str out,H,I.tok _,⟨_,rfl⟩,h.2⟩ h.1
theorem znY {t:TJ}(he:PE X e te)(hr:PJ X es t)(hs:evalEach (e::es) X.env=eval e X.env::evalEach es X.env:=by rfl):PJ X (e::es) (yeH te t):=by
 intro out pins s σ H Q I h
 rw [hs]
 refine joinParts_cons (thn (he pins s σ H _ I h) fun v s1 ⟨x,H1,I1,r1,y,e1,hz,q⟩=>?_)
 subst e1
 obtain ⟨tk,rfl⟩:=r1
 exact ⟨hz,hr (out++y) pins s1 σ H1 Q I1 q⟩
def ycG (t:TJ):TE:=fun σ H Q=>t Str.empty σ H Q
theorem zjY {v1 v2:Expr}{rest:List Expr}{pos:Pos}{t:TJ}(h:PJ X (v1::v2::rest) t):PE X (.JoinedStr (v1::v2::rest) pos) (ycG t):=fun pins s σ H Q I q=>JoinedStr_many (h Str.empty pins s σ H Q I q)
end
section
variable {X:Cx}{e:Expr}{es:List Expr}{t:TA}{E:XK}
end
structure ybC (K:PySem.W.Frag)(C:Addr):Prop where
 ga:PySem.W.findIn K (.ref C) "__getattribute__"=some (some (.builtin "BaseException.__getattribute__"))
 gh:PySem.W.findIn K (.ref C) "__getattr__"=some none
 cl:PySem.W.findIn K (.ref C) "__class__"=some (some (.builtin "object.__class__"))
 sb:PySem.W.subIn K (.ref C) (.type "BaseException")=some true
 mo:PySem.W.mroIn K C (.type "object")=some true
 ct:∃cd,PySem.W.clsIn K C=some cd
section
variable {pg:Program}{wd:World}{A:Around}{E:Value->Shared->Prop}{h:Heap}{g:Array GenState}{d:Drawn}{t:Nat}{os:OsState}{a C:Addr}{o:Obj}{K:PySem.W.Frag}
theorem zio {M:Model}{nv:Value}{Q:Unit->Shared->Prop}(X:K.In h)(Z:ybC K C)(hx:h.get? a=some o)(hc:o.cls=.ref C)(hq:Q () ⟨h,g,d,t,os⟩):wpAny M A (checkBuiltinCall "BaseException.__getattribute__" ⟨[.ref a,nv],[]⟩) Q E ⟨h,g,d,t,os⟩:=by
 have hk:builtinKind "BaseException.__getattribute__"=some .slot:=by decide +kernel
 have hsp:splitId "BaseException.__getattribute__"=some ("BaseException","__getattribute__"):=by decide +kernel
 have ha:=F.args_bexc_ga (.ref a) nv
 have LS:=PySem.W.looks_subIn (M:=M) X Z.sb
 simp only [checkBuiltinCall,hk,hsp]
 refine wpAny_bind ?_
 ·unfold isInstance
  repeat (first|(with_reducible refine wpAny_loadPart_at hx ?_;rw [hc])|with_reducible refine LS.at ?_|wp_step)
  exact hq
theorem zkA {tp:Value}{R:Result->Shared->Prop}(X:K.In h)(Z:ybC K C)(hx:h.get? a=some o)(hc:o.cls=.ref C)(hq:R (.ok (.ret (.ref C))) ⟨h,g,d,t,os⟩) :
  codeAny (model pg wd) A (.call (.builtin "getset_descriptor.__get__") ⟨[.builtin "object.__class__",.ref a,tp],[]⟩) R ⟨h,g,d,t,os⟩:=by
 have L0:PySem.W.Looks (model pg wd) h (typeOf (.ref a)) (.ref C):=hc ▸ (PySem.W.Looks.ld hx).andThen .now
 have L1:=PySem.W.looks_mroIn (M:=model pg wd) X Z.mo
 refine codeAny_call_builtin PySem.W.KF.slot_gs.plain PySem.W.KF.entry_gs (PySem.W.KF.slot_gs.check _ _ _ _ _ _ _ _ PySem.W.KF.type_class (PySem.W.KF.args_gs _ _ _) ?_)
 (unfold Builtin.«getset_descriptor.__get__» Builtin.Getset_descriptor.descrGet);rw [PySem.W.dga_obj]
 refine wpAny_bind (wpAny_pure ?_);(unfold Builtin.Getset_descriptor.descrGetter Builtin.Getset_descriptor.descrCheckInstance Builtin.Getset_descriptor.descrNameAndClass isInstance)
 simp only [PySem.W.KF.owner_class];repeat lk
 refine ⟨Code.quiet_builtin _ (by decide +kernel),codeAny_builtin PySem.W.KF.entry_class ?_⟩
 (unfold Builtin.«object.__class__» shownTypeOf);repeat lk
 exact hq
theorem zh6 {tk:Tok}{Q:Fin->Shared->Prop}(X:K.In h)(Z:ybC K C)(hx:h.get? a=some o)(hc:o.cls=.ref C)(hq:Q (.done (.ret (.ref C))) ⟨h,g,d,t,os⟩) :
  wpAny (model pg wd) A (Builtin.«object.__getattribute__» ⟨[.ref a,.str "__class__" tk],[]⟩) Q E ⟨h,g,d,t,os⟩:=by
 have hT5:(⟨h,g,d,t,os⟩:Shared).TypeIs (.builtin "object.__class__") "getset_descriptor":=F.typeOf_object_class
 have f5:=F.typeOf_object_class
 have f6:=F.slot_gs_get.lookup
 have f7:=F.slot_gs_set.lookup
 have L3:=PySem.W.looks_findIn (M:=model pg wd) X Z.cl
 repeat (any_goals (first|assumption|(with_reducible refine wpAny_loadPart_at hx ?_;rw [hc])|with_reducible refine L3.at ?_|wp_step))
 refine zkA X Z hx hc ?_
 repeat (any_goals (first|assumption|wp_step))
theorem zjv {tk:Tok}{R:Result->Shared->Prop}{Bn:String}(ga:Slot Bn "__getattribute__" "BaseException.__getattribute__")(X:K.In h)(Z:ybC K C)(hx:h.get? a=some o)(hc:o.cls=.ref C)(hq:R (.ok (.ret (.ref C))) ⟨h,g,d,t,os⟩) :
  codeAny (model pg wd) A (.call (.builtin "BaseException.__getattribute__") ⟨[.ref a,.str "__class__" tk],[]⟩) R ⟨h,g,d,t,os⟩ :=
 codeAny_call_builtin ga.plain F.entry_bexc_ga (zio X Z hx hc (zh6 X Z hx hc hq))
theorem zlK {tk:Tok}{Q:Value->Shared->Prop}{Bn:String}(ga:Slot Bn "__getattribute__" "BaseException.__getattribute__")(X:K.In h)(Z:ybC K C)(hx:h.get? a=some o)(hc:o.cls=.ref C)(hq:Q (.ref C) ⟨h,g,d,t,os⟩) :
  wpAny (model pg wd) A (getAttrBy (.ref a) (.str "__class__" tk) false) Q E ⟨h,g,d,t,os⟩:=by
 have f3:=ga.bind (.ref a)
 have hx2:(Value.builtin "BaseException.__getattribute__" == Value.builtin "object.__getattribute__")=false:=by decide +kernel
 have hx1:(onTheHeap (Value.ref C) && Value.builtin "BaseException.__getattribute__" == Value.builtin "object.__getattribute__")=false:=by rw [hx2];rfl
 have L1:=PySem.W.looks_findIn (M:=model pg wd) X Z.ga
 have L2:=PySem.W.looks_findIn (M:=model pg wd) X Z.gh
 repeat (any_goals (first|assumption|(with_reducible refine wpAny_loadPart_at hx ?_;rw [hc])|with_reducible refine L1.at ?_|with_reducible refine L2.at ?_|wp_step))
 refine zjv ga X Z hx hc ?_
 repeat (any_goals (first|assumption|wp_step))
theorem zii {Q:Option Value->Shared->Prop}{Bn:String}(ga:Slot Bn "__getattribute__" "BaseException.__getattribute__")(X:K.In h)(Z:ybC K C)(hx:h.get? a=some o)(hc:o.cls=.ref C)(hq:Q (some (.ref C)) ⟨h,g,d,t+1,os⟩) :
  wpAny (model pg wd) A (getAttr? (.ref a) "__class__") Q E ⟨h,g,d,t,os⟩:=by
 unfold getAttr? getAttrBy?
 repeat (any_goals (first|assumption|with_reducible apply zlK ga X Z hx hc|wp_step))
end
def ybS (a C:Addr):Heap->Prop:=fun h=>∃o,h.get? a=some o/\o.cls=.ref C
theorem ybS.keep {a C:Addr}{h1 h2:Heap}(x:ybS a C h1)(k:∀o,h1.get? a=some o->h2.get? a=some o):ybS a C h2:=by
 obtain ⟨o,h,c⟩:=x
 exact ⟨o,k o h,c⟩
theorem ziY {K:PySem.W.Frag}{a C:Addr}(Z:ybC K C){Bn:String}(ga:Slot Bn "__getattribute__" "BaseException.__getattribute__"):PySem.W.KitX K (.ref a) (.ref C) (ybS a C) where
 ty:=fun M h X p=>by
  obtain ⟨o,hx,hc⟩:=p
  exact hc ▸ (PySem.W.Looks.ld hx).andThen .now
 it:=fun M h X p=>by
  obtain ⟨cd,hcd⟩:=Z.ct
  unfold PySem.W.clsIn at hcd
  split at hcd
  ·rename_i c' d' cd' sl' ho
   intro A' Q' E' s' k q
   unfold isType loadHead
   exact wpAny_bind (wpAny_loadPart (k _ _ (X _ _ ho)) (wpAny_pure q))
  ·cases hcd
 ne:=fun h tp dd its n sl X htp=>by
  obtain ⟨cd,hcd⟩:=Z.ct
  refine Bool.eq_false_iff.mpr fun q=>?_
  have e:C=tp:=Value.ref.inj (beq_iff_eq.mp q)
  subst e
  unfold PySem.W.clsIn at hcd
  split at hcd
  ·rename_i c' d' cd' sl' ho
   have z:=(X _ _ ho).symm.trans htp
   cases z
  ·cases hcd
 ca:=fun {pg wd A E Q s} X p k=>by
  obtain ⟨o,hx,hc⟩:=p
  obtain ⟨h,g,d,t,os⟩:=s
  exact zii ga X Z hx hc k
section
variable {X:Cx}
end
section
variable {X:Cx}{pins:List (Addr×Obj)}{σ:St}{H:Hp}{s:Shared}
theorem Inv.track {a:Addr}{o:HO}(I:Inv X pins σ H s)(hn:H a=none)(h0:∀ob,X.s₀.heap.get? a≠some ob)(hL:a≠X.env.locals)(hc:∀x c,X.env.cells.lookup x=some c->c≠a)(hp:∀p∈X.pn++pins,p.1≠a)
  (new:yI X.prog X.w (upd H a o) s.heap a o):Inv X pins σ (upd H a o) s:=by
 refine ⟨I.ok,I.os,I.bare,⟨I.base.keep,I.base.slot,fun b u e n hx=>?_,I.base.there,fun b xs e=>?_,fun b u v e=>?_,fun b ps e=>?_⟩,I.loc,I.cell,?_,fun x c e=>?_,fun p hq=>?_,fun b u e=>?_,I.len⟩
 ·rw [zH (fun z:b=a=>h0 u (z ▸ e))]
  exact I.base.free b u e n hx
 ·have q:=I.base.tups b xs e
  rw [zH (zO q hn)]
  exact q
 ·have q:=I.base.frzs b u v e
  rw [zH (zO q hn)]
  exact q
 ·obtain ⟨m,q⟩:=I.base.tbls b ps e
  refine ⟨m,?_⟩
  rw [zH (zO q hn)]
  exact q
 ·rw [zH (Ne.symm hL)]
  exact I.free
 ·rw [zH (hc x c e)]
  exact I.freeC x c e
 ·obtain ⟨q1,q2,q3⟩:=I.pin p hq
  refine ⟨q1,?_,q3⟩
  rw [zH (hp p hq)]
  exact q2
 ·by_cases hb:b=a
  ·subst hb
   rw [zU] at e
   cases e
   exact new
  ·rw [zH hb] at e
   exact (I.hok b u e).stay (fun _ _ _ q=>q) (fun c q=>by rw [zH (zO q hn)];exact q) fun c xs q=>by rw [zH (zO q hn)];exact q
theorem Inv.back {s1:Shared}{h:Heap}{H':Hp}{B:Heap}{a:Addr}{cls a0:Value}{t':Nat}(I:Inv X pins σ H s)(os:s1.os=s.os)(bare:AllBare s1.gens)(fl:Heap.FlyingW B X.stack a cls a0 s1.heap)(hok:HOk X.prog X.w H' s1.heap)(un:Un (frs X.stack) [] H H' s.heap s1.heap)
  (hB:∀b o,s.heap.get? b=some o->H b=none->b∉frs X.stack->B.get? b=some o) (tr:∀b u,H' b=some u->∃o,B.get? b=some o) (hT:∀b o,s.heap.get? b=some o->b∉frs X.stack->∃o',B.get? b=some o') (st:B.StaysIn h) (up:s1.heap.UpToSlots h) :
  Inv X pins σ H' { s1 with heap:=h,toks:=t' }:=by
 refine I.call' (ch:=[]) (s':={ s1 with heap:=h,toks:=t' }) os ⟨fun b o q n hb _=>st b o (hB b o q n hb),fun b o q n hb _=>?_,un.free,fun b o q _=>?_,un.tups,un.frzs,un.tbls⟩ (HOk.inB hok fl.1 st tr) bare (fun b z=>absurd z (by simp))
 ·obtain ⟨sl,q1⟩:=un.slot b o q n hb (by simp)
  obtain ⟨_,o',ho',hd⟩:=Heap.FunFrames.mem fl.2.2.1 hb
  obtain ⟨sl',q2⟩:=up b _ q1 (by rw [ho'] at q1;cases q1;exact hd)
  exact ⟨sl',q2⟩
 ·by_cases hb:b∈frs X.stack
  ·obtain ⟨_,o',ho',hd⟩:=Heap.FunFrames.mem fl.2.2.1 hb
   obtain ⟨sl',q2⟩:=up b _ ho' hd
   exact ⟨_,q2⟩
  ·obtain ⟨o',q1⟩:=hT b o q hb
   exact ⟨o',st b o' q1⟩
end
abbrev cxP (X:Cx)(pn:List (Addr×Obj)):Cx:={ X with pn:=pn }
abbrev cxS (X:Cx)(pn:List (Addr×Obj))(a:Addr):Cx:={ X with A:=X.A.mark (some (.ref a)),calm:=false,pn:=pn,xe:=No }
section
variable {X:Cx}{pins:List (Addr×Obj)}{σ:St}{H:Hp}{s:Shared}
theorem Cx.Ok.pn (ok:X.Ok)(pn:List (Addr×Obj)):(cxP X pn).Ok:=⟨ok.mod,ok.kind,ok.glob,ok.blt,ok.above,ok.inj,ok.has,ok.cab,ok.hd,ok.frames,ok.stk,ok.exf,ok.bs,ok.bsz,ok.noex,ok.exfs,ok.funs,ok.frf⟩
theorem Cx.Ok.suite (ok:X.Ok)(pn:List (Addr×Obj))(a:Addr):(cxS X pn a).Ok:=⟨ok.mod,ok.kind,ok.glob,ok.blt,ok.above,ok.inj,ok.has,ok.cab,(fun z=>nomatch z),ok.frames,ok.stk,ok.exf,ok.bs,ok.bsz,ok.noex,ok.exfs,ok.funs,ok.frf⟩
theorem Inv.toP (I:Inv X pins σ H s):Inv (cxP X (X.pn++pins)) [] σ H s:=⟨I.ok.pn _,I.os,I.bare,I.base,I.loc,I.cell,I.free,I.freeC,fun p hp=>I.pin p (by simpa using hp),I.hok,I.len⟩
theorem Inv.ofP (ok:X.Ok){pl:List (Addr×Obj)}(I:Inv (cxP X (X.pn++pins)) pl σ H s):Inv X pins σ H s:=⟨ok,I.os,I.bare,I.base,I.loc,I.cell,I.free,I.freeC,fun p hp=>I.pin p (List.mem_append_left _ hp),I.hok,I.len⟩
theorem Inv.toS (I:Inv (cxP X (X.pn++pins)) [] σ H s)(a:Addr):Inv (cxS X (X.pn++pins) a) [] σ H s:=⟨Cx.Ok.suite (X:=X) ⟨I.ok.mod,I.ok.kind,I.ok.glob,I.ok.blt,I.ok.above,I.ok.inj,I.ok.has,I.ok.cab,I.ok.hd,I.ok.frames,I.ok.stk,I.ok.exf,I.ok.bs,I.ok.bsz,I.ok.noex,I.ok.exfs,I.ok.funs,I.ok.frf⟩ _ a,I.os,I.bare,I.base,I.loc,I.cell,I.free,I.freeC,I.pin,I.hok,I.len⟩
theorem Inv.ofS (ok:X.Ok){a:Addr}{pl:List (Addr×Obj)}(I:Inv (cxS X (X.pn++pins) a) pl σ H s):Inv X pins σ H s:=⟨ok,I.os,I.bare,I.base,I.loc,I.cell,I.free,I.freeC,fun p hp=>I.pin p (List.mem_append_left _ hp),I.hok,I.len⟩
end
section
variable {X:Cx}{body suite:List Stmt}{b₀:Stmt}{x n:Str}{np hpos pos:Pos}{tb:XK->TS}{ts:TS}{W:Addr}{i:Nat}
end
structure yao (k:Nat)(A:Around):Prop where
 dp:A.depth+3*k+5<recursionLimit
 un:A.units+16*k+200<cLine
theorem yaj.h {k:Nat}{A:Around}(r:yaj k A):yao k A:=⟨r.dp,r.un⟩
theorem yao.mark {k:Nat}{A:Around}{e:Option Value}(r:yao k A):yao k (A.mark e):=⟨r.dp,r.un⟩
theorem yao.deeper {k:Nat}{A:Around}(r:yao (k+1) A)(env:Env):yao k (A.deeper env):=⟨by have:=r.dp;show A.depth+1+3*k+5<_;omega,by have:=r.un;show A.units+3+16*k+200<_;omega⟩
structure ybO (P:Program)(w:World)(K:PySem.W.Frag)(mg:Str->Option Value)(base:Heap)(k:Nat)(f:Addr)(fd:FuncData)(ps:List Str)(sp:Sp):Prop where
 len:∀vs H Q E,sp vs H Q E->vs.length=ps.length
 run:∀(A:Around) (outer:List Env) (s:Shared) (H:Hp) (args:Args) (us:List Value) (vs:List V) (Q:VK),yao k A->ycp P w K mg base A outer s H->BindsTo s fd args (ps.zip us)->Vals vs us->sp vs H Q E0 ->
  codeAny (model P w) A (.call (.ref f) args) (CR CX0 outer P w H s Q E0) s
abbrev ybL (P:Program)(w:World)(K:PySem.W.Frag)(mg:Str->Option Value)(base:Heap)(N:List Str)(qual:Str)(scope:Scope)(f:Addr)(cd:Value)(A:Around)(outer:List Env)(s:Shared)(H:Hp):Cx :=
 { yaL CX0 P w K mg base N qual scope f cd A outer s H E0 with calm:=false,xe:=No }
theorem Inv.calmless {X:Cx}{pins:List (Addr×Obj)}{σ:St}{H:Hp}{s:Shared}(I:Inv X pins σ H s)(A:Around)(E:Value->Shared->Prop)(hf:A.frames=X.A.frames):Inv { X with A:=A,calm:=false,xe:=E } pins σ H s :=
 ⟨⟨I.ok.mod,I.ok.kind,I.ok.glob,I.ok.blt,I.ok.above,I.ok.inj,I.ok.has,I.ok.cab,(fun z=>nomatch z),hf.trans I.ok.frames,I.ok.stk,I.ok.exf,I.ok.bs,I.ok.bsz,I.ok.noex,I.ok.exfs,I.ok.funs,I.ok.frf⟩,I.os,I.bare,I.base,I.loc,I.cell,I.free,I.freeC,I.pin,I.hok,I.len⟩
section
variable {P:Program}{w:World}{K:PySem.W.Frag}{mg:Str->Option Value}{base:Heap}
theorem Fun.okH {x qual:Str}{st:Stmt}{f:Addr}{fd:FuncData}{N ps:List Str}{k:Nat}{sp:Sp}(F:Fun K x qual st f fd)(S:yq N ps (yc st))(len:∀vs H Q E,sp vs H Q E->vs.length=ps.length)
  (hbody:∀(cdv:Value) (A:Around) (outer:List Env) (s:Shared) (H:Hp) (vs:List V) (Q:VK),yao k (A.deeper (envOfC qual (yc st) s.heap.objs.size f cdv))->sp vs H Q E0 ->
   ∃t,PSs (ybL P w K mg base N qual (yc st) f cdv A outer s H) (yK st) t/\t { nx:=fun _ H'=>Q .non H',rt:=Q } (start N vs) H):ybO P w K mg base (k+1) f fd ps sp:=by
 obtain ⟨oc,od,kV,doc,pm,an,cdv,ct,osl,rfl,lk,hcd⟩:=F.ex
 refine ⟨len,fun A outer s H args us vs Q hr e0 hb r hsp=>?_⟩
 have hl:=len _ _ _ _ hsp
 have KX:K.In s.heap:=e0.mod.kin.keeps fun b o e=>(e0.bs b o e).1
 have lim:s.heap.NoLimit:=e0.mod.nolimit.keeps fun b o e=>(e0.bs b o e).1
 have hkind:∀y∈ps.zip us,(yc st).names.lookup y.1=some .local \/ ((yc st).names.lookup y.1=some .cell/\((cellsFrom (s.heap.objs.size+1) (yc st).names []).lookup y.1).isSome=true):=fun ⟨n,v⟩ hy=>by
  rcases S.par n (List.of_mem_zip hy).1 with q|q
  ·exact .inl q
  ·exact .inr ⟨q,PySem.W.cellsFrom_some _ _ _ (.inl q)⟩
 refine codeAny_call_function (by have:=hr.dp;omega) (KX _ _ lk) rfl S.co S.gen rfl (PySem.W.codeRec_of KX hcd) (hb _ _ _ _ ?_)
 refine wpAny_newFunctionEnv_cells S.kind hkind fun env he s1 x=>?_
 subst he
 refine ⟨lim.keeps x.toInCall.keep,codeAny_func ?_⟩
 obtain ⟨t,ht,hq⟩:=hbody cdv A outer s H vs Q (hr.deeper _) hsp
 have e0':ycp P w K mg base { A with handled:=none } outer s H:=⟨e0.frames,e0.mod,e0.bs,e0.bsz,e0.funs,e0.frf,e0.hok,e0.bare⟩
 have I0:Inv (yaL CX0 P w K mg base N qual (yc st) f cdv { A with handled:=none } outer s H E0) [] (start N vs) H s1:=zhv S rfl e0' hl r x
 have I:Inv (ybL P w K mg base N qual (yc st) f cdv A outer s H) [] (start N vs) H s1:=I0.calmless (A.deeper (envOfC qual (yc st) s.heap.objs.size f cdv)) No rfl
 refine wpAny_mono (ht [] s1 (start N vs) H _ I hq) (fun fl s' hs=>?_) fun e s' z=>z.elim
 have fin:∀{σ':St} {H':Hp} {v:V} {u:Value},Inv (ybL P w K mg base N qual (yc st) f cdv A outer s H) [] σ' H' s'->RelV v u->Q v H'->CE outer P w H s Q u s' :=
  fun {σ' H' v u} J rv q=>⟨v,H',J.os,J.bare,J.base,J.hok,rv,q⟩
 cases fl with
 |ret u =>
  obtain ⟨v,σ',H',J,rv,q⟩:=hs
  exact fin J rv q
 |next =>
  obtain ⟨σ',H',J,q⟩:=hs
  exact fin (v:=V.non) (u:=Value.none) J rfl q
 |brk =>
  obtain ⟨_,_,_,q⟩:=hs
  exact False.elim q
 |cont =>
  obtain ⟨_,_,_,q⟩:=hs
  exact False.elim q
end
section
variable {X:Cx}{k:Nat}{f:Addr}{fd:FuncData}{ps:List Str}{sp:Sp}{x:Str}{p pos:Pos}{e:Expr}{es:List Expr}{t:TA}
def ydj (sp:Sp)(t:TA):TE:=fun σ H Q=>t σ H fun vs H1=>sp vs H1 Q E0
theorem zmv (F:ybO X.prog X.w X.K X.mg X.base k f fd ps sp)(hr:yao k X.A)(hg:Gl X x)(hm:X.mg x=some (.ref f))(hk:PySem.W.keepIn X.K (.ref f)=true)(hb:Binds X.K fd ps [])(ha:PA X (e::es) t)
  (hdb:(x == ("__debug__":Str))=false:=by decide) (he:starEach (e::es) X.env=(false,eval e X.env)::starEach es X.env:=by rfl) (hpl:(backTo pos (starEach es X.env)).any (·.1)=false:=by rfl) :
  PE X (.Call (.Name x p) (e::es) [] pos) (ydj sp t):=by
 intro pins s σ H Q I h
 refine wpAny_Call_Name_kw (zeT I hg hm ?_ hdb)
 refine PySem.W.callWith_K (h₀:=X.base) I.ok.mod.kin hk (thn (ha pos pins s σ H _ I h) fun us s1 ⟨vs,H1,I1,r,q⟩=>⟨I1.kIn,?_⟩) he hpl
 have hl:us.length=ps.length:=by rw [<- r.length];exact F.len _ _ _ _ q
 have hb1:BindsTo s1 fd ⟨us,[]⟩ (ps.zip us):=by
  have:=hb s1 us I1.kIn (by simpa using hl)
  simpa using this
 refine wpAny_call (codeAny_mono (F.run X.A X.stack s1 H1 ⟨us,[]⟩ us vs Q hr I1.env0 hb1 r q) fun r' s' hq=>?_)
 cases r' with
 |error z=>exact hq.elim
 |ok fl =>
  cases fl with
  |ret u=>exact I1.after hq
  |next=>exact False.elim hq
  |brk=>exact False.elim hq
  |cont=>exact False.elim hq
end
section
variable {P:Program}{w:World}{K:PySem.W.Frag}{mg:Str->Option Value}{base:Heap}
theorem Fun.okX {x qual:Str}{st:Stmt}{f:Addr}{fd:FuncData}{N ps:List Str}{k:Nat}{sp:Sp}(F:Fun K x qual st f fd)(S:yq N ps (yc st))(len:∀vs H Q E,sp vs H Q E->vs.length=ps.length)
  (body:∀(cdv:Value) (A:Around) (outer:List Env) (s:Shared) (H:Hp) (vs:List V) (Q:VK) (E:XK),yaj k (A.deeper (envOfC qual (yc st) s.heap.objs.size f cdv))->sp vs H Q E ->
   ∃t,PSs (yaL (CX1 P w) P w K mg base N qual (yc st) f cdv A outer s H E) (yK st) t/\t { nx:=fun _ H'=>Q .non H',rt:=Q } (start N vs) H):yaE P w K mg base (CX1 P w) (k+1) f fd ps sp:=by
 obtain ⟨oc,od,kV,doc,pm,an,cdv,ct,osl,rfl,lk,hcd⟩:=F.ex
 exact zpE lk hcd S len fun A outer s H vs Q E hr hsp=>body cdv A outer s H vs Q E hr hsp
theorem own1 {N:List Str}{qual:Str}{scope:Scope}{f:Addr}{cd:Value}{A:Around}{outer:List Env}{s:Shared}{H:Hp}{E:XK}{CX:CXT} :
  PassesOwn (model (yaL CX P w K mg base N qual scope f cd A outer s H E).prog (yaL CX P w K mg base N qual scope f cd A outer s H E).w) (yaL CX P w K mg base N qual scope f cd A outer s H E).A (yaL CX P w K mg base N qual scope f cd A outer s H E).env (yaL CX P w K mg base N qual scope f cd A outer s H E).xe :=
 PassesOwn.leaving
theorem zgR {C:Addr}(h:PySem.W.isClsIn K C=true):∃cd,PySem.W.clsIn K C=some cd:=Option.isSome_iff_exists.mp h
theorem yfL {x:Str}{C:Addr}{ts:List Value}{nid:String}{h:Heap}(X:K.In h)(b:mg x=some (.ref C))(q:PySem.W.excIn K C ts nid=true):OwnCls x C ts nid mg h:=by
 constructor
 ·exact b
 ·revert q
  unfold PySem.W.excIn
  cases hl:K.lookup C with
  |none=>intro q;cases q
  |some o =>
   intro q
   split at q
   ·rename_i dd cd sl ho
    split at q
    ·rename_i C' bm k0 k1 k2 k3 n k5 hm hs
     simp only [Bool.and_eq_true,beq_iff_eq,Bool.not_eq_true'] at q
     rcases q with ⟨⟨⟨⟨⟨r1,r2⟩,r3⟩,r4⟩,r5⟩,r6⟩
     subst r1 r2
     rcases cd with ⟨nm,bs,mro,ns,qn,hd,sn,sub,ab,col,del⟩
     dsimp only at hm r3 r5 r6
     subst hm r3
     rcases sl with ⟨l⟩
     simp only at hs
     subst hs
     cases ho
     exact ⟨bm,ns,nm,qn,bs,hd,sn,sub,ab,col,_,k0,k1,k2,k3,k5,_,X _ _ hl,.of_isNs (PySem.W.isNs_of_in X r5),PySem.W.nsMap_none_of_in X r5 r6,PySem.W.tail_of_in X r4⟩
    ·cases q
   ·cases q
end
section
variable {X:Cx}
end
end L2
namespace L2
open PySem
@[irreducible] def ybQ (X:Cx)(st:List Stmt)(t:TS):Prop:=PSs X st t
@[irreducible] def KqS (X:Cx)(st:Stmt)(t:TS):Prop:=PS X st t
@[irreducible] def KqE (X:Cx)(e:Expr)(t:TE):Prop:=PE X e t
@[irreducible] def KqT (X:Cx)(e:Expr)(t:TT):Prop:=PT X e t
@[irreducible] def KqW (X:Cx)(e:Expr)(t:TT):Prop:=PW X e t
@[irreducible] def KqA (X:Cx)(es:List Expr)(t:TA):Prop:=PA X es t
@[irreducible] def KqG (X:Cx)(target:Expr)(t:TG):Prop:=PG X target t
@[irreducible] def ydN (X:Cx)(ts:List Expr)(t:TGs):Prop:=PGs X ts t
@[irreducible] def KqI (X:Cx)(tg iter:Expr)(wi:TI):Prop:=PI X tg iter wi
@[irreducible] def KqO (X:Cx)(e:Option Expr)(t:TO):Prop:=PO X e t
@[irreducible] def ydK (X:Cx)(ifs:List Expr)(t:TT):Prop:=PTs X ifs t
@[irreducible] def ydL (X:Cx)(pos:Pos)(keys:List (Option Expr))(values:List Expr)(trs:List (TE×TE)):Prop:=PPs X pos keys values trs
section
variable {X:Cx}{pos:Pos}
theorem za5 {X:Cx}{e:Expr}{t:TT}(h:KqW X e t):KqT X e t:=by with_unfolding_all exact PW.pt h
theorem zbF {o i:Expr}{to ti:TE}{t:ydP}(ho:KqE X o to)(hi:KqE X i ti)(hs:yef X t)
  (ha:∀v,assign (.Subscript o i pos) X.env v=(do
   let ov <- holding [v] (eval o X.env)
   let iv <- holding [v,ov] (eval i X.env)
   standAt pos
   holding [v,ov,iv] (setItem ov iv v)
   release [v,ov,iv] []):=by intro _;rfl):KqG X (.Subscript o i pos) (yc0 to ti t):=by with_unfolding_all exact zm1 ho hi hs ha
theorem zlU {i j:Nat}{x y:Str}{a b:Expr}{ta:TA}{px py pt:Pos}{kt k2 pt2}(hc:X.calm=true)(hN:X.N.Nodup)(hi:X.N[i]?=some x)(hj:X.N[j]?=some y)(hij:i≠j)
  (hx:X.env.scope.names.lookup x=some .local) (hy:X.env.scope.names.lookup y=some .local) (ha:KqA X [a,b] ta)
  (hw:swappedStores [.Tuple [.Name x px,.Name y py] kt pt] (.Tuple [a,b] k2 pt2) X.env=pure (some [x,y]))
  (hs:swapsWithSole [.Tuple [.Name x px,.Name y py] kt pt] (.Tuple [a,b] k2 pt2) pos.line X.env=pure false:=by rfl) :
  KqS X (.Assign [.Tuple [.Name x px,.Name y py] kt pt] (.Tuple [a,b] k2 pt2) pos) (yd3 i j ta):=by with_unfolding_all exact zou hc hN hi hj hij hx hy ha hw hs
end
end L2
namespace IC
open PySem
inductive PV where
 | non|bl (b:Bool)|int (i:Int)|str (x:Str)|tp (k:Bool) (xs:List PV)|lst (xs:List PV)|loc (n:Nat)|exn (c:Nat)|scr (xs:List PV)
deriving Inhabited
noncomputable abbrev PV.tup (xs:List PV):PV:=.tp false xs
mutual
noncomputable def noLoc:PV->Bool
 | .loc _=>false
 | .exn _=>false
 | .tp _ xs=>noLocs xs
 | .lst xs=>noLocs xs
 | .scr xs=>noLocs xs
 |_=>true
noncomputable def noLocs:List PV->Bool
 | []=>true
 |x::xs=>noLoc x && noLocs xs
end
mutual
noncomputable def shd (n:Nat):PV->Bool
 | .non=>true
 | .bl _=>true
 | .int _=>true
 | .str x=>x.cps.all (· < 0x110000)
 | .tp _ xs=>decide (0<n) && ya8 (n - 1) xs
 | .lst xs=>decide (0<n) && ya8 (n - 1) xs
 |_=>false
noncomputable def ya8 (n:Nat):List PV->Bool
 | []=>true
 |x::xs=>shd n x && ya8 n xs
end
noncomputable abbrev shp (v:PV):Bool:=shd 60 v
noncomputable def flat:PV->Bool
 | .non=>true
 | .bl _=>true
 | .int _=>true
 | .str _=>true
 |_=>false
noncomputable def bi (b:Bool):Int:=if b then 1 else 0
mutual
noncomputable def peq:PV->PV->Bool
 | .non,.non=>true
 | .bl a,.bl b=>a == b
 | .bl a,.int j=>bi a == j
 | .int i,.bl b=>i == bi b
 | .int i,.int j=>i == j
 | .str x,.str y=>x == y
 | .tp _ xs,.tp _ ys=>ybi xs ys
 | .lst xs,.lst ys=>ybi xs ys
 |_,_=>false
noncomputable def ybi:List PV->List PV->Bool
 | [],[]=>true
 |x::xs,y::ys=>peq x y && ybi xs ys
 |_,_=>false
end
inductive Ob where
 | lst (xs:List PV)|dct (t:Bool) (kvs:List (PV×PV))|dead|ins (c:Nat) (fs:List (Str×PV))
noncomputable abbrev Env:=List (Option PV)
noncomputable abbrev Store:=List Ob
inductive R (α:Type) where
 | ok (a:α) (st:Store)|exc (c:Nat) (st:Store)|bad
noncomputable def R.bind {α β:Type}(r:R α)(k:α->Store->R β):R β :=
 match r with
 | .ok a st=>k a st
 | .exc c st=>.exc c st
 | .bad=>.bad
inductive BOp where
 | add|sub|mul|fdiv|mod|pow|shl|shr|band|bor|bxor
inductive COp where
 | eq|ne|lt|le|gt|ge|is|isnot|isin|notin
inductive Ty where
 | int|bool|str|tuple|list|cls (c:Nat)|val
inductive Blt where
 | len|int|abs|min|max|tuple|list|all|sum|dict|rev
inductive Mth where
 | append|extend|get|bits|upper|insert|count|index
inductive Tg where
 | n (i:Nat)|t (l:List Nat)
mutual
inductive Ce where
 | cst (v:PV)
 | var (i:Nat)
 | bin (o:BOp) (a b:Ce)
 | neg (a:Ce)
 | not (a:Ce)
 | and (a b:Ce)
 | or (a b:Ce)
 | cmp (o:COp) (a b:Ce)
 | chain (o p:COp) (a b c:Ce)
 | ite (c a b:Ce)
 | tup (es:Ces)
 | lst (es:Ces)
 | newl (es:Ces)
 | newd (kvs:List (Str×Int))
 | dict0 (t:Bool)
 | idx (a i:Ce)
 | slc (a:Ce) (lo hi:Ce)
 | call (f:Nat) (args:Ces)
 | blt (b:Blt) (args:Ces)
 | mth (m:Mth) (o:Ce) (args:Ces)
 | isi (a:Ce) (t:List Ty)
 | isx (a:Ce) (cs:List Nat) (t:List Ty)
 | comp (sl:List (Option Nat)) (tg:Tg) (it:Cit) (c:Ce) (e:Ce)
 | frz (a:Ce)
 | nope
 | fst (e:Ces)
 | rep (a b:Ce)
 | dix (D:List (Str×PV)) (a:Ce)
 | din (a:Ce) (D:List (Str×PV))
 | thw (a:Ce)
 | nin (a b:Ce)
 | fld (c:Nat) (a:Ce) (f:Str)
 | new (c i:Nat) (es:Ces)
 | mcl (c i:Nat) (m:Str) (o:Ce) (es:Ces)
 | dgt (a i:Ce)
 | inn (a b:Ce)
 | qcl (i:Nat) (es:Ces)
inductive Ces where
 | nil
 | cons (e:Ce) (es:Ces)
inductive Cit where
 | seq (e:Ce)
 | range1 (a:Ce)
 | range2 (a b:Ce)
 | rangeD (a b:Ce)
 | enum (e:Ce)
 | zip (a b:Ce)
end
mutual
inductive Cs where
 | expr (e:Ce)
 | asg (t:Tg) (e:Ce)
 | six (o i e:Ce)
 | dput (o i e:Ce)
 | aug (i:Nat) (o:BOp) (e:Ce)
 | ret (e:Ce)
 | ite (c:Ce) (a b:Css)
 | for (t:Tg) (it:Cit) (b:Css)
 | while (c:Ce) (b:Css)
 | nope
 | brk
 | cnt
 | pass
 | raise (c:Nat) (e:Ce)
 | try (b:Css) (cs:List Nat) (i:Nat) (h:Css)
 | six2 (o i p j e f:Ce)
 | sfl (c:Nat) (o:Ce) (f:Str) (e:Ce)
 | mkr (i:Nat) (D:List (Str×Nat)) (n:Ce) (es:Ces)
inductive Css where
 | nil
 | cons (s:Cs) (ss:Css)
end
noncomputable def CMulB (i j:Int):Bool:=(decide (i.natAbs<18446744073709551616)) || (decide (j.natAbs<18446744073709551616))
noncomputable def binI (o:BOp)(i j:Int):Option PV :=
 match o with
 | .add=>some (.int (i+j))
 | .sub=>some (.int (i - j))
 | .mul=>if CMulB i j then some (.int (i*j)) else none
 | .fdiv=>if 0<j/\j<10000000000000000000000000000000000000000000000000000000000000000000000 then some (.int (i / j)) else none
 | .mod=>if 0<j then some (.int (i % j)) else none
 | .pow=>if 0<=j/\j<=1000000/\i.natAbs<18446744073709551616 then some (.int (i ^ j.toNat)) else none
 | .shl=>if 0<=j/\j<=1000000/\i.natAbs<18446744073709551616 then some (.int (i*2 ^ j.toNat)) else none
 | .shr=>if 0<=j then some (.int (i / 2 ^ j.toNat)) else none
 | .band=>some (.int (Builtin.bitAnd i j))
 | .bor=>some (.int (Builtin.bitOr i j))
 | .bxor=>some (.int (Builtin.bitXor i j))
noncomputable def sizeMax:Nat:=16777216
noncomputable def ydX (k:Bool)(a:List PV)(j:Bool)(b:List PV):PV:=if a.isEmpty then .tp j b else if b.isEmpty then .tp k a else .tup (a++b)
noncomputable def yfF (x y:PV):Option PV :=
 match x,y with
 | .tp _ a,.int n=>if 2<=n/\n<=1000/\a.isEmpty=false/\a.length<=1000 then some (.tup (List.replicate n.toNat a).flatten) else none
 |_,_=>none
noncomputable def binV (o:BOp)(x y:PV):Option PV :=
 match x,y with
 | .int i,.int j=>binI o i j
 | .int i,.bl b=>match o with
  | .add=>some (.int (i+bi b))
  |_=>none
 | .str a,.str b=>match o with
  | .add=>if a.length+b.length<=sizeMax then some (.str (a++b)) else none
  |_=>none
 | .tp k a,.tp j b=>match o with
  | .add=>if a.length+b.length<=sizeMax then some (ydX k a j b) else none
  |_=>none
 | .lst a,.lst b=>match o with
  | .add=>if a.length+b.length<=sizeMax then some (.lst (a++b)) else none
  |_=>none
 |_,_=>none
noncomputable def ybU (o:BOp)(x y:PV):Option PV :=
 match x,y with
 | .int i,.int j=>binI o i j
 |_,_=>none
noncomputable def isNon:PV->Bool
 | .non=>true
 |_=>false
noncomputable def inL (x:PV):List PV->Bool
 | []=>false
 |y::ys=>peq y x || inL x ys
noncomputable def inS (a b:Str):Bool:=(List.range (b.length+1)).any fun i=>decide (i+a.length<=b.length) && (b.cps.extract i (i+a.length) == a.cps)
noncomputable def cmpI (o:COp)(i j:Int):Option PV :=
 match o with
 | .lt=>some (.bl (decide (i<j)))
 | .le=>some (.bl (decide (i<=j)))
 | .gt=>some (.bl (decide (j<i)))
 | .ge=>some (.bl (decide (j<=i)))
 |_=>none
noncomputable def ydt (o:COp)(a b:Str):Option PV :=
 match o with
 | .lt=>some (.bl (decide (a.cps.toList<b.cps.toList)))
 | .le=>some (.bl (!decide (b.cps.toList<a.cps.toList)))
 |_=>none
noncomputable def cmpV (o:COp)(x y:PV):Option PV :=
 match o with
 | .eq=>if shp x && shp y then some (.bl (peq x y)) else none
 | .ne=>if shp x && shp y then some (.bl (!peq x y)) else none
 | .is=>match y with
  | .non=>some (.bl (isNon x))
  | .bl b=>match x with
   | .bl a=>some (.bl (a == b))
   |_=>none
  |_=>none
 | .isnot=>match y with
  | .non=>some (.bl (!isNon x))
  | .bl b=>match x with
   | .bl a=>some (.bl (!(a == b)))
   |_=>none
  |_=>none
 | .isin=>match x,y with
  | .str a,.str b=>some (.bl (inS a b))
  |x,.tp _ l=>if flat x && l.all flat then some (.bl (inL x l)) else none
  |x,.lst l=>if flat x && l.all flat then some (.bl (inL x l)) else none
  |_,_=>none
 | .notin=>match x,y with
  | .str a,.str b=>some (.bl (!inS a b))
  |x,.tp _ l=>if flat x && l.all flat then some (.bl (!inL x l)) else none
  |x,.lst l=>if flat x && l.all flat then some (.bl (!inL x l)) else none
  |_,_=>none
 |o=>match x,y with
  | .int i,.int j=>cmpI o i j
  | .str a,.str b=>ydt o a b
  |_,_=>none
noncomputable def truV (st:Store)(x:PV):Option Bool :=
 match x with
 | .non=>some false
 | .bl b=>some b
 | .int i=>some (i != 0)
 | .str y=>if y.length<=sizeMax then some ((y.length:Int) != 0) else none
 | .tp _ xs=>some (!xs.isEmpty)
 | .lst xs=>some (!xs.isEmpty)
 | .loc n=>match st[n]? with
  |some (.lst xs)=>some (!xs.isEmpty)
  |_=>none
 |_=>none
noncomputable def ixI (n:Nat)(i:Int):Option Nat:=if 0<=i then (if i<n then some i.toNat else none) else if -(n:Int)<=i then some (i+n).toNat else none
noncomputable def at? {α:Type}(xs:List α)(i:Int):Option α:=(ixI xs.length i).bind fun j=>xs[j]?
noncomputable def look (k:PV):List (PV×PV)->Option PV
 | []=>none
 | (a,b)::r=>if peq a k then some b else look k r
noncomputable def put (k v:PV)(kvs:List (PV×PV)):List (PV×PV) :=
 if (kvs.any fun p=>peq p.1 k)=true then kvs.map (fun p=>if peq p.1 k=true then (p.1,v) else p) else kvs++[(k,v)]
noncomputable def ybv:PV->Bool
 | .int _=>true
 | .str _=>true
 |_=>false
noncomputable def isKey (t:Bool)(k:PV):Bool :=
 match t with
 |false=>ybv k
 |true=>match k with
  | .tp false xs=>xs.all ybv
  |_=>false
noncomputable def idxI {α:Type}(xs:List α)(i:PV):Option α :=
 match i with
 | .int k=>at? xs k
 |_=>none
noncomputable def idxV (st:Store)(x i:PV):Option PV :=
 match x with
 | .tp _ xs=>idxI xs i
 | .lst xs=>idxI xs i
 | .str s=>if s.length<=sizeMax then (idxI s.cps.toList i).map fun c=>.str ⟨#[c]⟩ else none
 | .loc n=>match st[n]? with
  |some (.lst xs)=>idxI xs i
  |_=>none
 |_=>none
noncomputable def ybt (n:Nat)(v:Int):Nat:=if v<0 then (v+(n:Int)).toNat else min v.toNat n
noncomputable def ycw (n:Nat)(lo:Option Int):Nat :=
 match lo with
 |none=>0
 |some i=>ybt n i
noncomputable def ycL (n:Nat)(hi:Option Int):Nat :=
 match hi with
 |none=>n
 |some i=>ybt n i
noncomputable def cut {α:Type}(xs:List α)(lo hi:Option Int):List α:=(xs.drop (ycw xs.length lo)).take (ycL xs.length hi - ycw xs.length lo)
noncomputable def ycd:PV->Option (Option Int)
 | .non=>some none
 | .int i=>some (some i)
 |_=>none
noncomputable def yaZ (x:PV)(a b:Option Int):Option PV :=
 match x with
 | .tp k xs=>if ycw xs.length a=0/\ycL xs.length b=xs.length then some (.tp k xs) else some (.tup (cut xs a b))
 | .str s=>if s.length<=sizeMax then some (.str ⟨(cut s.cps.toList a b).toArray⟩) else none
 | .lst xs=>some (.lst (cut xs a b))
 | .scr xs=>some (.lst (cut xs a b))
 |_=>none
noncomputable def ycx (x:PV)(a:Option Int)(hi:PV):Option PV :=
 match ycd hi with
 |some b=>yaZ x a b
 |none=>none
noncomputable def yP (x:PV)(t:Ty):Bool :=
 match x,t with
 | .int _,.int=>true
 | .bl _,.int=>true
 | .bl _,.bool=>true
 | .str _,.str=>true
 | .tp _ _,.tuple=>true
 | .lst _,.list=>true
 | .exn c,.cls d=>c == d
 | .exn _,.val=>true
 |_,_=>false
noncomputable def yac:Ty->Bool
 | .cls _=>false
 | .val=>false
 |_=>true
noncomputable def yU (x:PV)(ts:List Ty):Option PV :=
 match x with
 | .loc _=>none
 | .scr _=>none
 | .exn c=>if ts.all yac then none else some (.bl (ts.any (yP (.exn c))))
 |x=>match ts with
  | [t]=>if yac t then some (.bl (yP x t)) else none
  |_=>none
noncomputable def yb5 (cs:List Nat)(x:PV)(ts:List Ty):Option PV :=
 match x with
 | .exn c=>if cs.contains c then some (.bl (ts.any (yP (.exn c)))) else none
 |_=>none
noncomputable def ybT:PV->Option Str
 | .int i=>if i.natAbs.log2<1920 then some (Str.ofString (toString i)) else none
 | .str s=>if s.length<=16777216 then some s else none
 |_=>none
noncomputable def ycq:Str->List PV->Option Str
 |out,[]=>if out.length<=16777216 then some out else none
 |out,v::vs=>match ybT v with
  |some y=>if (out++y).length<=16777216 then ycq (out++y) vs else none
  |none=>none
noncomputable def ydH (r:R (List PV)):R PV :=
 match r with
 | .ok vs st=>match ycq Str.empty vs with
  |some z=>.ok (.str z) st
  |none=>.bad
 |_=>.bad
noncomputable def allB:List PV->Option Bool
 | []=>some true
 | .bl b::r=>match allB r with
  |some c=>some (b && c)
  |none=>none
 |_::_=>none
noncomputable def yeV:List PV->Option Int
 | []=>some 0
 | .int i::r=>match yeV r with
  |some c=>some (i+c)
  |none=>none
 |_::_=>none
noncomputable def yeY:List PV->Option Int
 | []=>none
 | [.int i]=>some i
 | .int i::r=>match yeY r with
  |some c=>some (if i<c then c else i)
  |none=>none
 |_::_=>none
noncomputable def yay (st:Store):PV->Option (List PV)
 | .tp _ xs=>some xs
 | .lst xs=>some xs
 | .loc n=>match st[n]? with
  |some (.lst xs)=>some xs
  |_=>none
 |_=>none
noncomputable def yG (st:Store):PV->Option (List PV)
 | .lst xs=>some xs
 | .loc n=>match st[n]? with
  |some (.lst xs)=>some xs
  |_=>none
 |_=>none
noncomputable def lenV (st:Store)(x:PV):Option PV :=
 match x with
 | .str s=>if s.length<=sizeMax then some (.int s.length) else none
 |x=>(yay st x).map fun xs=>.int xs.length
noncomputable def ye4 (x:PV):Option PV :=
 match x with
 | .int i=>some (.int i)
 | .bl k=>some (.int (bi k))
 |_=>none
noncomputable def ydW (x:PV):Option PV :=
 match x with
 | .int i=>some (.int (if i<0 then -i else i))
 |_=>none
noncomputable def yeO (x y:PV):Option PV :=
 match x,y with
 | .int i,.int j=>some (.int (if j<i then j else i))
 |_,_=>none
noncomputable def maxV (x y:PV):Option PV :=
 match x,y with
 | .int i,.int j=>some (.int (if i<j then j else i))
 |_,_=>none
noncomputable def yep (st:Store)(x:PV):Option PV :=
 match x with
 | .tp k xs=>some (.tp k xs)
 |x=>(yG st x).map .tup
noncomputable def yfw:PV->Option PV
 | .tp _ xs=>if xs.isEmpty then none else some (.tup xs.reverse)
 |_=>none
noncomputable def yaf (b:Blt)(st:Store)(vs:List PV):Option PV :=
 match vs with
 | [x]=>match b with
  | .len=>lenV st x
  | .int=>ye4 x
  | .abs=>ydW x
  | .max=>(yG st x).bind fun xs=>(yeY xs).map .int
  | .tuple=>yep st x
  | .list=>(yay st x).map .lst
  | .all=>(yG st x).bind fun xs=>(allB xs).map .bl
  | .sum=>(yG st x).bind fun xs=>(yeV xs).map .int
  | .rev=>yfw x
  |_=>none
 | [x,y]=>match b with
  | .min=>yeO x y
  | .max=>maxV x y
  |_=>none
 |_=>none
noncomputable def yar (st:Store):PV->Option (Bool×List (PV×PV))
 | .loc n=>match st[n]? with
  |some (.dct t xs)=>some (t,xs)
  |_=>none
 |_=>none
noncomputable def yV (m:Mth)(st:Store)(x:PV):Option Bool :=
 match m with
 | .append=>(yG st x).map fun _=>true
 | .extend=>(yG st x).map fun _=>true
 | .insert=>(yG st x).map fun _=>true
 | .count=>(yG st x).map fun _=>true
 | .index=>(yG st x).map fun _=>true
 | .get=>(yar st x).map fun _=>true
 | .bits=>match x with
  | .int _=>some true
  |_=>none
 | .upper=>match x with
  | .str _=>some true
  |_=>none
noncomputable def yer (st:Store)(o v:PV):R PV :=
 match o with
 | .loc n=>match st[n]? with
  |some (.lst xs)=>if xs.length<1000000 then .ok .non (st.set n (.lst (xs++[v]))) else .bad
  |_=>.bad
 |_=>.bad
noncomputable def yeD (st:Store)(o v:PV):R PV :=
 match o with
 | .loc n=>match st[n]? with
  |some (.lst xs)=>match v with
   | .lst ys=>if xs.length+ys.length<=1000000 then .ok .non (st.set n (.lst (xs++ys))) else .bad
   |_=>.bad
  |_=>.bad
 |_=>.bad
noncomputable def yfy (st:Store)(o i v:PV):R PV :=
 match o with
 | .loc n=>match st[n]? with
  |some (.lst xs)=>match i with
   | .int k=>if 0<=k/\k<=xs.length/\xs.length<1000000 then .ok .non (st.set n (.lst (xs.take k.toNat++v::xs.drop k.toNat))) else .bad
   |_=>.bad
  |_=>.bad
 |_=>.bad
noncomputable def ycN (st:Store)(o k d:PV):R PV :=
 match yar st o with
 |some (t,kvs)=>if isKey t k then .ok ((look k kvs).getD d) st else .bad
 |none=>.bad
noncomputable def yew (st:Store)(o v:PV):R PV :=
 match yG st o with
 |some xs=>if flat v && xs.all flat then .ok (.int (xs.countP fun y=>peq y v)) st else .bad
 |none=>.bad
noncomputable def yb4 (v:PV):List PV->Option Nat
 | []=>none
 |y::ys=>if peq y v then some 0 else (yb4 v ys).map (·+1)
noncomputable def yda (st:Store)(o v:PV):R PV :=
 match yG st o with
 |some xs=>if flat v && xs.all flat then (match yb4 v xs with
  |some j=>.ok (.int j) st
  |none=>.bad) else .bad
 |none=>.bad
noncomputable def upC (c:Nat):Nat:=if 97<=c/\c<=122 then c - 32 else c
noncomputable def upS (s:Str):Str:=⟨(s.cps.toList.map upC).toArray⟩
noncomputable def yaI (m:Mth)(st:Store)(o:PV)(vs:List PV):R PV :=
 match m,vs with
 | .append,[v]=>yer st o v
 | .extend,[v]=>yeD st o v
 | .insert,[i,v]=>yfy st o i v
 | .get,[k,d]=>ycN st o k d
 | .count,[v]=>yew st o v
 | .index,[v]=>yda st o v
 | .bits,[]=>match o with
  | .int i=>.ok (.int (Builtin.Int.intBits i)) st
  |_=>.bad
 | .upper,[]=>match o with
  | .str s=>if s.cps.toList.all (· < 128)/\s.length<=1000000 then .ok (.str (upS s)) st else .bad
  |_=>.bad
 |_,_=>.bad
noncomputable def toR (o:Option PV)(st:Store):R PV :=
 match o with
 |some v=>.ok v st
 |none=>.bad
noncomputable def yL (t:Tg)(v:PV)(ρ:Env):Option Env :=
 match t,v with
 | .n i,v=>some (ρ.set i (some v))
 | .t l,.tp _ xs=>if l.length=xs.length then some ((l.zip xs).foldl (fun ρ p=>ρ.set p.1 (some p.2)) ρ) else none
 |_,_=>none
noncomputable def yab:Nat->List PV->List PV
 |_,[]=>[]
 |k,x::xs=>.tup [.int k,x]::yab (k+1) xs
noncomputable def yS:List PV->List PV->List PV
 |x::xs,y::ys=>.tup [x,y]::yS xs ys
 |_,_=>[]
noncomputable def ydM (x y:PV):Option (List PV) :=
 match x,y with
 | .tp _ xs,.tp _ ys=>if xs.length<=ys.length then some (yS xs ys) else none
 |_,_=>none
noncomputable def yM (s:Str):List (Str×PV)->Option PV
 | []=>none
 | (a,b)::r=>if decide (a=s) then some b else yM s r
noncomputable def yd8 (D:List (Str×PV))(x:PV):Option PV :=
 match x with
 | .str s=>yM s D
 |_=>none
noncomputable def yeP (D:List (Str×PV))(x:PV):Option PV :=
 match x with
 | .str s=>some (.bl (yM s D).isSome)
 |_=>none
noncomputable def yD:Nat->Int->Int->List PV
 |0,_,_=>[]
 |n+1,a,d=>.int a::yD n (a+d) d
noncomputable def ycA (x:PV):Option (List PV) :=
 match x with
 | .int j=>if j.natAbs<1000000000 then some (yD j.toNat 0 1) else none
 |_=>none
noncomputable def yfu (x y:PV):Option (List PV) :=
 match x,y with
 | .int i,.int j=>if i.natAbs<1000000000/\j.natAbs<1000000000 then some (yD (j - i).toNat i 1) else none
 |_,_=>none
noncomputable def yfb (x y:PV):Option (List PV) :=
 match x,y with
 | .int i,.int j=>if i.natAbs<1000000000/\j.natAbs<1000000000 then some (yD (i - j).toNat i (-1)) else none
 |_,_=>none
noncomputable def toL (o:Option (List PV))(st:Store):R (List PV) :=
 match o with
 |some v=>.ok v st
 |none=>.bad
noncomputable def ycU (v:PV)(st:Store):R PV :=
 match v with
 | .loc n=>match st[n]? with
  |some (.lst xs)=>.ok (.lst xs) (st.set n .dead)
  |_=>.bad
 |v=>.ok v st
noncomputable def ydA (v:PV)(st:Store):R PV :=
 match v with
 | .lst xs=>.ok (.loc st.length) (st++[.lst xs])
 |_=>.bad
noncomputable def ycv (st:Store)(x y:PV):Option PV :=
 match y with
 | .loc n=>match st[n]? with
  |some (.lst xs)=>if shp x && ya8 60 xs then some (.bl (!inL x xs)) else none
  |_=>none
 |_=>none
noncomputable def ycW (st:Store)(x k:PV):Option PV :=
 match yar st x with
 |some (t,kvs)=>if isKey t k then look k kvs else none
 |none=>none
noncomputable def yfn (st:Store)(x y:PV):Option PV :=
 match yay st y with
 |some xs=>if shp x && ya8 60 xs then some (.bl (inL x xs)) else none
 |none=>none
noncomputable def mkV (D:List (Str×Nat))(b:Bool)(x:PV):Option Nat :=
 match x with
 | .str s=>if b then D.lookup s else none
 |_=>none
noncomputable def ycg (c:Nat)(st:Store)(x:PV)(f:Str):Option PV :=
 match x with
 | .loc n=>match st[n]? with
  |some (.ins d fs)=>if d=c then fs.lookup f else none
  |_=>none
 |_=>none
noncomputable def ycb (f:Str)(v:PV):List (Str×PV)->List (Str×PV)
 | []=>[(f,v)]
 | (g,x)::r=>if g=f then (g,v)::r else (g,x)::ycb f v r
noncomputable def ybx (c:Nat)(st:Store)(x:PV)(f:Str)(v:PV):Option Store :=
 match x with
 | .loc n=>match st[n]? with
  |some (.ins d fs)=>if d=c/\fs.length<1000 then some (st.set n (.ins c (ycb f v fs))) else none
  |_=>none
 |_=>none
noncomputable def ycF (c:Nat)(m:Str)(st:Store)(x:PV):Option Bool :=
 match x with
 | .loc n=>match st[n]? with
  |some (.ins d fs)=>if d=c/\fs.lookup m=none then some true else none
  |_=>none
 |_=>none
noncomputable def newV (n:Nat)(v:PV)(st:Store):R PV :=
 match v with
 | .non=>.ok (.loc n) st
 |_=>.bad
noncomputable def ybI (r:R PV):R PV :=
 match r with
 | .ok v st=>.ok v st
 |_=>.bad
inductive Fl where
 | nx (ρ:Env) (st:Store)|rt (v:PV) (st:Store)|bk (ρ:Env) (st:Store)|ct (ρ:Env) (st:Store)|exc (c:Nat) (ρ:Env) (st:Store)|bad
noncomputable def onBl {α:Type}(x:PV)(k:Bool->R α):R α :=
 match x with
 | .bl b=>k b
 |_=>.bad
noncomputable def onO {α:Type}(o:Option Bool)(k:Bool->R α):R α :=
 match o with
 |some b=>k b
 |none=>.bad
noncomputable def onF (o:Option Bool)(k:Bool->Fl):Fl :=
 match o with
 |some b=>k b
 |none=>.bad
noncomputable def onP {α:Type}(o:Option (Option Int))(k:Option Int->R α):R α :=
 match o with
 |some b=>k b
 |none=>.bad
noncomputable def blO (o:Option PV):Option Bool :=
 match o with
 |some (.bl b)=>some b
 |_=>none
noncomputable def ybP (o:Option PV)(ys:List PV):List PV :=
 match o with
 |some y=>y::ys
 |none=>ys
noncomputable def yas (one:PV->Store->R (Option PV)):List PV->Store->R (List PV)
 | [],st=>.ok [] st
 |x::xs,st=>(one x st).bind fun o st1=>(yas one xs st1).bind fun ys st2=>.ok (ybP o ys) st2
noncomputable def ybR (r:R (List PV)):R PV :=
 match r with
 | .ok ys st=>if ys.length<=1000000 then .ok (.lst ys) st else .bad
 |_=>.bad
mutual
noncomputable def ev (call:Nat->List PV->Store->R PV)(ρ:Env)(st:Store):Ce->R PV
 | .cst v=>.ok v st
 | .var i=>match ρ[i]? with
  |some (some v)=>.ok v st
  |_=>.bad
 | .bin o a b=>(ev call ρ st a).bind fun x st1=>(ev call ρ st1 b).bind fun y st2=>toR (binV o x y) st2
 | .neg a=>(ev call ρ st a).bind fun x st1=>match x with
  | .int i=>.ok (.int (-i)) st1
  |_=>.bad
 | .not a=>(ev call ρ st a).bind fun x st1=>onBl x fun k=>.ok (.bl (!k)) st1
 | .and a b=>(ev call ρ st a).bind fun x st1=>onBl x fun k=>cond k (ev call ρ st1 b) (.ok (.bl false) st1)
 | .or a b=>(ev call ρ st a).bind fun x st1=>onBl x fun k=>cond k (.ok (.bl true) st1) (ev call ρ st1 b)
 | .cmp o a b=>(ev call ρ st a).bind fun x st1=>(ev call ρ st1 b).bind fun y st2=>toR (cmpV o x y) st2
 | .chain o p a b c=>(ev call ρ st a).bind fun x st1=>(ev call ρ st1 b).bind fun y st2=>onO (blO (cmpV o x y)) fun k=>cond k ((ev call ρ st2 c).bind fun z st3=>toR (cmpV p y z) st3) (.ok (.bl false) st2)
 | .ite c a b=>(ev call ρ st c).bind fun x st1=>onO (truV st1 x) fun k=>cond k (ev call ρ st1 a) (ev call ρ st1 b)
 | .tup es=>(evs call ρ st es).bind fun vs st1=>if vs.length<=sizeMax then .ok (.tup vs) st1 else .bad
 | .lst es=>(evs call ρ st es).bind fun vs st1=>if vs.length<=sizeMax then .ok (.lst vs) st1 else .bad
 | .newl es=>(evs call ρ st es).bind fun vs st1=>if vs.length<=sizeMax then .ok (.loc st1.length) (st1++[.lst vs]) else .bad
 | .newd kvs=>if kvs.length<=15 then .ok (.loc st.length) (st++[.dct false (kvs.foldl (fun acc kv=>put (.str kv.1) (.int kv.2) acc) [])]) else .bad
 | .dict0 t=>.ok (.loc st.length) (st++[.dct t []])
 | .idx a i=>(ev call ρ st a).bind fun x st1=>(ev call ρ st1 i).bind fun y st2=>toR (idxV st2 x y) st2
 | .slc a l h=>(ev call ρ st a).bind fun x st1=>(ev call ρ st1 l).bind fun y st2=>onP (ycd y) fun o=>(ev call ρ st2 h).bind fun z st3=>toR (ycx x o z) st3
 | .call f es=>(evs call ρ st es).bind fun vs st1=>call f vs st1
 | .blt b es=>(evs call ρ st es).bind fun vs st1=>toR (yaf b st1 vs) st1
 | .mth m o es=>(ev call ρ st o).bind fun x st1=>onO (yV m st1 x) fun _=>(evs call ρ st1 es).bind fun vs st2=>yaI m st2 x vs
 | .isi a ts=>(ev call ρ st a).bind fun x st1=>toR (yU x ts) st1
 | .isx a cs ts=>(ev call ρ st a).bind fun x st1=>toR (yb5 cs x ts) st1
 | .comp sl tg it c e=>(evi call ρ st it).bind fun xs st1 =>
  let ρ0:Env:=sl.map fun o=>o.bind fun j=>(ρ[j]?).join
  ybR (yas (fun x st2=>match yL tg x ρ0 with
   |none=>.bad
   |some ρ1=>(ev call ρ1 st2 c).bind fun b st3=>onO (truV st3 b) fun k=>cond k ((ev call ρ1 st3 e).bind fun y st4=>.ok (some y) st4) (.ok none st3)) xs st1)
 | .nope=>.bad
 | .frz a=>(ev call ρ st a).bind fun x st1=>ycU x st1
 | .fst es=>ydH (evs call ρ st es)
 | .rep a b=>(ev call ρ st a).bind fun x st1=>(ev call ρ st1 b).bind fun y st2=>toR (yfF x y) st2
 | .dix D a=>(ev call ρ st a).bind fun x st1=>toR (yd8 D x) st1
 | .din a D=>(ev call ρ st a).bind fun x st1=>toR (yeP D x) st1
 | .thw a=>(ev call ρ st a).bind fun x st1=>ydA x st1
 | .nin a b=>(ev call ρ st a).bind fun x st1=>(ev call ρ st1 b).bind fun y st2=>toR (ycv st2 x y) st2
 | .fld c a f=>(ev call ρ st a).bind fun x st1=>toR (ycg c st1 x f) st1
 | .new c i es=>(evs call ρ st es).bind fun vs st1=>(ybI (call i (.loc st1.length::vs) (st1++[.ins c []]))).bind fun v st2=>newV st1.length v st2
 | .dgt a i=>(ev call ρ st a).bind fun x st1=>(ev call ρ st1 i).bind fun y st2=>toR (ycW st2 x y) st2
 | .qcl i es=>(evs call ρ st es).bind fun vs st1=>ybI (call i vs st1)
 | .inn a b=>(ev call ρ st a).bind fun x st1=>(ev call ρ st1 b).bind fun y st2=>toR (yfn st2 x y) st2
 | .mcl c i m o es=>(ev call ρ st o).bind fun x st1=>onO (ycF c m st1 x) fun _=>(evs call ρ st1 es).bind fun vs st2=>call i (x::vs) st2
noncomputable def evs (call:Nat->List PV->Store->R PV)(ρ:Env)(st:Store):Ces->R (List PV)
 | .nil=>.ok [] st
 | .cons e es=>(ev call ρ st e).bind fun v st1=>(evs call ρ st1 es).bind fun vs st2=>.ok (v::vs) st2
noncomputable def evi (call:Nat->List PV->Store->R PV)(ρ:Env)(st:Store):Cit->R (List PV)
 | .seq e=>(ev call ρ st e).bind fun v st1=>match v with
  | .tp _ xs=>.ok xs st1
  | .lst xs=>.ok xs st1
  |_=>.bad
 | .range1 a=>(ev call ρ st a).bind fun x st1=>toL (ycA x) st1
 | .range2 a b=>(ev call ρ st a).bind fun x st1=>(ev call ρ st1 b).bind fun y st2=>toL (yfu x y) st2
 | .rangeD a b=>(ev call ρ st a).bind fun x st1=>(ev call ρ st1 b).bind fun y st2=>toL (yfb x y) st2
 | .enum e=>(ev call ρ st e).bind fun v st1=>match v with
  | .tp _ xs=>.ok (yab 0 xs) st1
  |_=>.bad
 | .zip a b=>(ev call ρ st a).bind fun x st1=>(ev call ρ st1 b).bind fun y st2=>toL (ydM x y) st2
end
noncomputable def R.fl {α:Type}(r:R α)(ρ:Env)(k:α->Store->Fl):Fl :=
 match r with
 | .ok a st=>k a st
 | .exc c st=>.exc c ρ st
 | .bad=>.bad
noncomputable def yaG (f:Fl)(k:Env->Store->Fl):Fl :=
 match f with
 | .nx ρ st=>k ρ st
 | .ct ρ st=>k ρ st
 | .bk ρ st=>.nx ρ st
 |f=>f
noncomputable def forL (t:Tg)(body:Env->Store->Fl):List PV->Env->Store->Fl
 | [],ρ,st=>.nx ρ st
 |x::xs,ρ,st=>match yL t x ρ with
  |none=>.bad
  |some ρ1=>yaG (body ρ1 st) fun ρ2 st2=>forL t body xs ρ2 st2
noncomputable def yav (test:Env->Store->R PV)(body:Env->Store->Fl):Nat->Env->Store->Fl
 |0,_,_=>.bad
 |n+1,ρ,st=>(test ρ st).fl ρ fun x st1=>onF (truV st1 x) fun k=>cond k (yaG (body ρ st1) fun ρ2 st2=>yav test body n ρ2 st2) (.nx ρ st1)
noncomputable def yat (st:Store)(o i v:PV):Option Store :=
 match o with
 | .loc n=>match st[n]? with
  |some (.lst xs)=>match i with
   | .int k=>match ixI xs.length k with
    |some j=>some (st.set n (.lst (xs.set j v)))
    |none=>none
   |_=>none
  |_=>none
 |_=>none
noncomputable def yaP (st:Store)(o i v:PV):Option Store :=
 match o with
 | .loc n=>match st[n]? with
  |some (.dct t kvs)=>if isKey t i/\kvs.length<1000000 then some (st.set n (.dct t (put i v kvs))) else none
  |_=>none
 |_=>none
mutual
noncomputable def ex (call:Nat->List PV->Store->R PV)(ρ:Env)(st:Store):Cs->Fl
 | .expr e=>(ev call ρ st e).fl ρ fun _ st1=>.nx ρ st1
 | .asg t e=>(ev call ρ st e).fl ρ fun v st1=>match yL t v ρ with
  |some ρ1=>.nx ρ1 st1
  |none=>.bad
 | .six o i e=>(ev call ρ st e).fl ρ fun v st1=>(ev call ρ st1 o).fl ρ fun x st2=>(ev call ρ st2 i).fl ρ fun y st3=>match yat st3 x y v with
  |some st4=>.nx ρ st4
  |none=>.bad
 | .dput o i e=>(ev call ρ st e).fl ρ fun v st1=>(ev call ρ st1 o).fl ρ fun x st2=>(ev call ρ st2 i).fl ρ fun y st3=>match yaP st3 x y v with
  |some st4=>.nx ρ st4
  |none=>.bad
 | .aug i o e=>match ρ[i]? with
  |some (some x)=>(ev call ρ st e).fl ρ fun y st1=>match ybU o x y with
   |some z=>.nx (ρ.set i (some z)) st1
   |none=>.bad
  |_=>.bad
 | .ret e=>(ev call ρ st e).fl ρ fun v st1=>.rt v st1
 | .ite c a b=>(ev call ρ st c).fl ρ fun x st1=>onF (truV st1 x) fun k=>cond k (exs call ρ st1 a) (exs call ρ st1 b)
 | .for t it b=>(evi call ρ st it).fl ρ fun xs st1=>forL t (fun ρ2 st2=>exs call ρ2 st2 b) xs ρ st1
 | .while c b=>yav (fun ρ2 st2=>ev call ρ2 st2 c) (fun ρ2 st2=>exs call ρ2 st2 b) 100000 ρ st
 | .nope=>.bad
 | .brk=>.bk ρ st
 | .cnt=>.ct ρ st
 | .pass=>.nx ρ st
 | .raise c e=>(ev call ρ st e).fl ρ fun _ st1=>.exc c ρ st1
 | .try b cs i h=>match exs call ρ st b with
  | .exc d ρ1 st1=>if cs.contains d then (match exs call (ρ1.set i (some (.exn d))) st1 h with
   | .nx ρ2 st2=>.nx (ρ2.set i none) st2
   | .rt v st2=>.rt v st2
   |_=>.bad) else .bad
  |f=>f
 | .six2 o i p j e f=>(ev call ρ st e).fl ρ fun v st1=>(ev call ρ st1 f).fl ρ fun w st2=>(ev call ρ st2 o).fl ρ fun x st3=>(ev call ρ st3 i).fl ρ fun y st4=>match yat st4 x y v with
  |none=>.bad
  |some st5=>(ev call ρ st5 p).fl ρ fun x2 st6=>(ev call ρ st6 j).fl ρ fun y2 st7=>match yat st7 x2 y2 w with
   |some st8=>.nx ρ st8
   |none=>.bad
 | .mkr i D n es=>(ev call ρ st n).fl ρ fun x st1=>match mkV D (decide (i<ρ.length)) x with
  |some j=>((evs call (ρ.set i none) st1 es).bind fun vs st2=>call j vs st2).fl (ρ.set i none) fun v st3=>.rt v st3
  |none=>.bad
 | .sfl c o f e=>(ev call ρ st e).fl ρ fun v st1=>(ev call ρ st1 o).fl ρ fun x st2=>match ybx c st2 x f v with
  |some st3=>.nx ρ st3
  |none=>.bad
noncomputable def exs (call:Nat->List PV->Store->R PV)(ρ:Env)(st:Store):Css->Fl
 | .nil=>.nx ρ st
 | .cons s ss=>match ex call ρ st s with
  | .nx ρ1 st1=>exs call ρ1 st1 ss
  |f=>f
end
structure Fn where
 np:Nat
 ns:Nat
 pure:Bool
 body:Css
noncomputable def yd (T:Nat->Option Fn):Nat->Nat->List PV->Store->R PV
 |0,_,_,_=>.bad
 |k+1,f,args,st=>match T f with
  |none=>.bad
  |some fn=>if args.length=fn.np then
    if fn.pure then
     if noLocs args then match exs (yd T k) (args.map some++List.replicate (fn.ns - fn.np) none) [] fn.body with
      | .rt v _=>if noLoc v then .ok v st else .bad
      | .nx _ _=>.ok .non st
      | .exc c _ _=>.exc c st
      |_=>.bad
     else .bad
    else match exs (yd T k) (args.map some++List.replicate (fn.ns - fn.np) none) st fn.body with
     | .rt v st1=>.ok v st1
     | .nx _ st1=>.ok .non st1
     | .exc c _ st1=>.exc c st1
     |_=>.bad
   else .bad
def RLe {α:Type}(r q:R α):Prop:=r=.bad \/ r=q
def FLe (f g:Fl):Prop:=f=.bad \/ f=g
noncomputable abbrev Cl:=Nat->List PV->Store->R PV
theorem RLe.rfl {α:Type}{r:R α}:RLe r r:=.inr (Eq.refl _)
theorem FLe.rfl {f:Fl}:FLe f f:=.inr (Eq.refl _)
theorem RLe.bind {α β:Type}{r q:R α}{k l:α->Store->R β}(h:RLe r q)(hk:∀a s,RLe (k a s) (l a s)):RLe (r.bind k) (q.bind l):=by
 rcases h with h|h
 ·subst h;exact .inl (Eq.refl _)
 ·subst h
  cases r with
  |ok a s=>exact hk a s
  |exc c s=>exact .rfl
  |bad=>exact .rfl
theorem RLe.comp {r q:R (List PV)}(h:RLe r q):RLe (ybR r) (ybR q):=by
 rcases h with h|h
 ·subst h;exact .inl (Eq.refl _)
 ·subst h;exact .rfl
end IC
namespace L2
open PySem PySem.Spec PyProof.Rows IC
noncomputable abbrev Ph:=List (Option Addr)
section
variable (K:PySem.W.Frag)(cl:Nat->Addr)(B:Addr->Prop)(φ:Ph)(H:Hp)
def ybF (k:Bool)(a:Addr)(xs:List V):Prop:=(H a=some (.tup xs)/\¬B a/\some a∉φ) \/
 k=true/\∃(o:Obj) (its:Array Value) (n:Nat),K.lookup a=some o/\o.cls=.type "tuple"/\o.data=.seq its n/\its.size<=sizeLine/\Vals xs its.toList
def ycE (a:Addr)(xs:List V):Prop:=H a=some (.lst xs)/\¬B a/\some a∉φ
def ydD (a:Addr)(xs:List V):Prop:=(Rd H a (.lst xs)/\¬B a/\some a∉φ) \/
 ∃(o:Obj) (its:Array Value) (n:Nat),K.lookup a=some o/\o.cls=.type "list"/\o.dict=none/\o.data=.seq its n/\its.size<=sizeLine/\Vals xs its.toList
mutual
noncomputable def ye:PV->V->Prop
 | .non,x=>x=.non
 | .bl b,x=>x=.bl b
 | .int i,x=>x=.int i
 | .str s,x=>x=.str s
 | .tp k vs,x=>∃a xs,x=.ref a/\ybF K B φ H k a xs/\yo vs xs
 | .lst vs,x=>∃a xs,x=.ref a/\ycE B φ H a xs/\yo vs xs
 | .loc n,x=>n<φ.length/\∃a,x=.ref a/\∀b,φ[n]?=some (some b)->b=a
 | .exn c,x=>∃a,x=.ref a/\H a=some (.ext (ybS a (cl c)))/\¬B a/\some a∉φ
 | .scr vs,x=>∃a xs,x=.ref a/\ydD K B φ H a xs/\yo vs xs
noncomputable def yo:List PV->List V->Prop
 | [],xs=>xs=[]
 |v::vs,xs=>∃y ys,xs=y::ys/\ye v y/\yo vs ys
end
noncomputable def yaz:Key->PV
 | .inl i=>.int i
 | .inr y=>.str y
noncomputable def DK:List (PV×PV)->List (Key×V)->Prop
 | [],ks=>ks=[]
 | (k,v)::r,ks=>∃q x s,ks=(q,x)::s/\k=yaz q/\ye K cl B φ H v x/\DK r s
noncomputable def DT:List (PV×PV)->List (List Key×V)->Prop
 | [],ks=>ks=[]
 | (k,v)::r,ks=>∃q x s,ks=(q,x)::s/\k=.tup (q.map yaz)/\ye K cl B φ H v x/\DT r s
noncomputable def FS:List (Str×PV)->List (Str×V)->Prop
 | [],ks=>ks=[]
 | (k,v)::r,ks=>∃x s,ks=(k,x)::s/\ye K cl B φ H v x/\FS r s
noncomputable def yck:Ob->Addr->Prop
 | .lst vs,a=>∃xs,H a=some (.lst xs)/\yo K cl B φ H vs xs
 | .dct false kvs,a=>∃ks,H a=some (.dK ks)/\DK K cl B φ H kvs ks
 | .dct true kvs,a=>∃ks,H a=some (.dT ks)/\DT K cl B φ H kvs ks
 | .dead,_=>False
 | .ins c fs,a=>∃ks,(∃dx,H a=some (.ins (cl c) dx ks))/\FS K cl B φ H fs ks
structure yw (st:Store):Prop where
 len:φ.length=st.length
 inj:∀(m n:Nat) (a:Addr),φ[m]?=some (some a)->φ[n]?=some (some a)->m=n
 obj:∀(n:Nat) (a:Addr),φ[n]?=some (some a)->∃o,st[n]?=some o/\yck K cl B φ H o a
 liv:∀(n:Nat) (o:Ob),st[n]?=some o->o ≠ .dead->∃a,φ[n]?=some (some a)
 nb:∀a,some a∈φ->¬B a
 dom:∀a,B a->∃o,H a=some o
structure yF (ρ:IC.Env)(σ:St):Prop where
 len:ρ.length=σ.length
 get:∀(i:Nat) (v:PV),ρ[i]?=some (some v)->∃x,σ[i]?=some (some x)/\ye K cl B φ H v x
end
structure Step (φ:Ph)(H:Hp)(φ':Ph)(H':Hp):Prop where
 keep:∀b o,some b∉φ->H b=some o->H' b=some o
 len:φ.length<=φ'.length
 pre:∀(n:Nat) (a:Addr),n<φ.length->φ'[n]?=some (some a)->φ[n]?=some (some a)
 new:∀b,some b∈φ'->some b∈φ \/ H b=none
theorem Step.rfl {φ:Ph}{H:Hp}:Step φ H φ H:=⟨fun _ _ _ e=>e,Nat.le_refl _,fun _ _ _ e=>e,fun _ h=>.inl h⟩
theorem Step.trans {φ φ1 φ2:Ph}{H H1 H2:Hp}(s:Step φ H φ1 H1)(t:Step φ1 H1 φ2 H2):Step φ H φ2 H2:=by
 refine ⟨fun b o n e=>?_,Nat.le_trans s.len t.len,fun n a hn e=>s.pre n a hn (t.pre n a (Nat.lt_of_lt_of_le hn s.len) e),fun b hb=>?_⟩
 ·refine t.keep b o (fun h=>?_) (s.keep b o n e)
  rcases s.new b h with q|q
  ·exact n q
  ·rw [e] at q;cases q
 ·rcases t.new b hb with q|q
  ·exact s.new b q
  ·by_cases h:some b∈φ
   ·exact .inl h
   ·refine .inr ?_
    cases e:H b with
    |none=>exact Eq.refl _
    |some o=>rw [s.keep b o h e] at q;cases q
section
variable {K:PySem.W.Frag}{cl:Nat->Addr}{B:Addr->Prop}{φ φ':Ph}{H H':Hp}{st:Store}{ρ:IC.Env}{σ:St}
theorem Rd.step (s:Step φ H φ' H'){a:Addr}{u:HO}(n:some a∉φ)(r:Rd H a u):Rd H' a u/\some a∉φ':=by
 have h:∃o,H a=some o:=by
  rcases r with r|⟨o,r⟩ <;> exact ⟨_,r⟩
 refine ⟨?_,fun z=>?_⟩
 ·rcases r with r|⟨o,r⟩
  ·exact .inl (s.keep _ _ n r)
  ·exact .inr ⟨o,s.keep _ _ n r⟩
 ·obtain ⟨o,e⟩:=h
  rcases s.new a z with q|q
  ·exact n q
  ·rw [e] at q;cases q
theorem ybF.step (s:Step φ H φ' H'){k:Bool}{a:Addr}{xs:List V}(r:ybF K B φ H k a xs):ybF K B φ' H' k a xs:=by
 rcases r with ⟨r,b,n⟩|r
 ·obtain ⟨_,n'⟩:=(Rd.of r).step s n
  exact .inl ⟨s.keep _ _ n r,b,n'⟩
 ·exact .inr r
theorem ycE.step (s:Step φ H φ' H'){a:Addr}{xs:List V}(r:ycE B φ H a xs):ycE B φ' H' a xs:=by
 obtain ⟨r,b,n⟩:=r
 obtain ⟨_,n'⟩:=(Rd.of r).step s n
 exact ⟨s.keep _ _ n r,b,n'⟩
theorem ydD.step (s:Step φ H φ' H'){a:Addr}{xs:List V}(r:ydD K B φ H a xs):ydD K B φ' H' a xs:=by
 rcases r with ⟨r,b,n⟩|r
 ·obtain ⟨r',n'⟩:=r.step s n
  exact .inl ⟨r',b,n'⟩
 ·exact .inr r
mutual
theorem ye.step (s:Step φ H φ' H'):∀(v:PV) (x:V),ye K cl B φ H v x->ye K cl B φ' H' v x
 | .non,x,h=>by simp only [ye] at h ⊢;exact h
 | .bl b,x,h=>by simp only [ye] at h ⊢;exact h
 | .int i,x,h=>by simp only [ye] at h ⊢;exact h
 | .str y,x,h=>by simp only [ye] at h ⊢;exact h
 | .tp k vs,x,h=>by
  simp only [ye] at h ⊢
  obtain ⟨a,xs,e,r,l⟩:=h
  exact ⟨a,xs,e,r.step s,yo.step s vs xs l⟩
 | .lst vs,x,h=>by
  simp only [ye] at h ⊢
  obtain ⟨a,xs,e,r,l⟩:=h
  exact ⟨a,xs,e,r.step s,yo.step s vs xs l⟩
 | .loc n,x,h=>by
  simp only [ye] at h ⊢
  obtain ⟨h1,a,e,h2⟩:=h
  exact ⟨Nat.lt_of_lt_of_le h1 s.len,a,e,fun b q=>h2 b (s.pre n b h1 q)⟩
 | .exn c,x,h=>by
  simp only [ye] at h ⊢
  obtain ⟨a,e,r,b,n⟩:=h
  obtain ⟨_,n'⟩:=(Rd.of r).step s n
  exact ⟨a,e,s.keep _ _ n r,b,n'⟩
 | .scr vs,x,h=>by
  simp only [ye] at h ⊢
  obtain ⟨a,xs,e,r,l⟩:=h
  exact ⟨a,xs,e,r.step s,yo.step s vs xs l⟩
theorem yo.step (s:Step φ H φ' H'):∀(v:List PV) (x:List V),yo K cl B φ H v x->yo K cl B φ' H' v x
 | [],x,h=>by simp only [yo] at h ⊢;exact h
 |v::vs,x,h=>by
  simp only [yo] at h ⊢
  obtain ⟨y,ys,e,r,l⟩:=h
  exact ⟨y,ys,e,ye.step s v y r,yo.step s vs ys l⟩
end
theorem yF.step (s:Step φ H φ' H')(r:yF K cl B φ H ρ σ):yF K cl B φ' H' ρ σ:=⟨r.len,fun i v e=>by
 obtain ⟨x,h,q⟩:=r.get i v e
 exact ⟨x,h,q.step s⟩⟩
mutual
theorem ye.inn (hn:∀a,some a∈φ->¬B a):∀(v:PV) (x:V),noLoc v=true->ye K cl B φ H v x->ye K cl (fun a=>B a \/ some a∈φ) [] H v x
 | .non,x,_,h=>by simp only [ye] at h ⊢;exact h
 | .bl b,x,_,h=>by simp only [ye] at h ⊢;exact h
 | .int i,x,_,h=>by simp only [ye] at h ⊢;exact h
 | .str y,x,_,h=>by simp only [ye] at h ⊢;exact h
 | .tp k vs,x,q,h=>by
  simp only [ye] at h ⊢
  obtain ⟨a,xs,e,r,l⟩:=h
  refine ⟨a,xs,e,?_,yo.inn hn vs xs (by simpa only [noLoc] using q) l⟩
  rcases r with ⟨r,b,n⟩|r
  ·exact .inl ⟨r,fun z=>z.elim b n,by simp⟩
  ·exact .inr r
 | .lst vs,x,q,h=>by
  simp only [ye] at h ⊢
  obtain ⟨a,xs,e,⟨r,b,n⟩,l⟩:=h
  exact ⟨a,xs,e,⟨r,fun z=>z.elim b n,by simp⟩,yo.inn hn vs xs (by simpa only [noLoc] using q) l⟩
 | .loc n,x,q,h=>by simp [noLoc] at q
 | .exn c,x,q,h=>by simp [noLoc] at q
 | .scr vs,x,q,h=>by
  simp only [ye] at h ⊢
  obtain ⟨a,xs,e,r,l⟩:=h
  refine ⟨a,xs,e,?_,yo.inn hn vs xs (by simpa only [noLoc] using q) l⟩
  rcases r with ⟨r,b,n⟩|r
  ·exact .inl ⟨r,fun z=>z.elim b n,by simp⟩
  ·exact .inr r
theorem yo.inn (hn:∀a,some a∈φ->¬B a):∀(v:List PV) (x:List V),noLocs v=true->yo K cl B φ H v x->yo K cl (fun a=>B a \/ some a∈φ) [] H v x
 | [],x,_,h=>by simp only [yo] at h ⊢;exact h
 |v::vs,x,q,h=>by
  simp only [yo] at h ⊢
  simp only [noLocs,Bool.and_eq_true] at q
  obtain ⟨y,ys,e,r,l⟩:=h
  exact ⟨y,ys,e,ye.inn hn v y q.1 r,yo.inn hn vs ys q.2 l⟩
end
mutual
theorem ye.out {ψ:Ph}:∀(v:PV) (x:V),noLoc v=true->ye K cl (fun a=>B a \/ some a∈φ) ψ H v x->ye K cl B φ H v x
 | .non,x,_,h=>by simp only [ye] at h ⊢;exact h
 | .bl b,x,_,h=>by simp only [ye] at h ⊢;exact h
 | .int i,x,_,h=>by simp only [ye] at h ⊢;exact h
 | .str y,x,_,h=>by simp only [ye] at h ⊢;exact h
 | .tp k vs,x,q,h=>by
  simp only [ye] at h ⊢
  obtain ⟨a,xs,e,r,l⟩:=h
  refine ⟨a,xs,e,?_,yo.out vs xs (by simpa only [noLoc] using q) l⟩
  rcases r with ⟨r,b,n⟩|r
  ·exact .inl ⟨r,fun z=>b (.inl z),fun z=>b (.inr z)⟩
  ·exact .inr r
 | .lst vs,x,q,h=>by
  simp only [ye] at h ⊢
  obtain ⟨a,xs,e,⟨r,b,n⟩,l⟩:=h
  exact ⟨a,xs,e,⟨r,fun z=>b (.inl z),fun z=>b (.inr z)⟩,yo.out vs xs (by simpa only [noLoc] using q) l⟩
 | .loc n,x,q,h=>by simp [noLoc] at q
 | .exn c,x,q,h=>by simp [noLoc] at q
 | .scr vs,x,q,h=>by
  simp only [ye] at h ⊢
  obtain ⟨a,xs,e,r,l⟩:=h
  refine ⟨a,xs,e,?_,yo.out vs xs (by simpa only [noLoc] using q) l⟩
  rcases r with ⟨r,b,n⟩|r
  ·exact .inl ⟨r,fun z=>b (.inl z),fun z=>b (.inr z)⟩
  ·exact .inr r
theorem yo.out {ψ:Ph}:∀(v:List PV) (x:List V),noLocs v=true->yo K cl (fun a=>B a \/ some a∈φ) ψ H v x->yo K cl B φ H v x
 | [],x,_,h=>by simp only [yo] at h ⊢;exact h
 |v::vs,x,q,h=>by
  simp only [yo] at h ⊢
  simp only [noLocs,Bool.and_eq_true] at q
  obtain ⟨y,ys,e,r,l⟩:=h
  exact ⟨y,ys,e,ye.out v y q.1 r,yo.out vs ys q.2 l⟩
end
theorem yo.length:∀{v:List PV} {x:List V},yo K cl B φ H v x->v.length=x.length
 | [],x,h=>by simp only [yo] at h;subst h;rfl
 |v::vs,x,h=>by
  simp only [yo] at h
  obtain ⟨y,ys,rfl,_,l⟩:=h
  simp [yo.length l]
theorem DK.step (s:Step φ H φ' H'):∀{kvs:List (PV×PV)} {ks:List (Key×V)},DK K cl B φ H kvs ks->DK K cl B φ' H' kvs ks
 | [],ks,h=>h
 | (k,v)::r,ks,h=>by
  obtain ⟨q,x,t,e,m,rv,l⟩:=h
  exact ⟨q,x,t,e,m,rv.step s,DK.step s l⟩
theorem DT.step (s:Step φ H φ' H'):∀{kvs:List (PV×PV)} {ks:List (List Key×V)},DT K cl B φ H kvs ks->DT K cl B φ' H' kvs ks
 | [],ks,h=>h
 | (k,v)::r,ks,h=>by
  obtain ⟨q,x,t,e,m,rv,l⟩:=h
  exact ⟨q,x,t,e,m,rv.step s,DT.step s l⟩
theorem FS.step (s:Step φ H φ' H'):∀{kvs:List (Str×PV)} {ks:List (Str×V)},FS K cl B φ H kvs ks->FS K cl B φ' H' kvs ks
 | [],ks,h=>h
 | (k,v)::r,ks,h=>by
  obtain ⟨x,t,e,rv,l⟩:=h
  exact ⟨x,t,e,rv.step s,FS.step s l⟩
theorem yck.step (s:Step φ H φ' H'){o:Ob}{a:Addr}(e:H' a=H a)(r:yck K cl B φ H o a):yck K cl B φ' H' o a:=by
 cases o with
 |lst vs =>
  obtain ⟨xs,q,l⟩:=r
  exact ⟨xs,e.trans q,l.step s⟩
 |dct t kvs =>
  cases t with
  |false=>obtain ⟨ks,q,l⟩:=r;exact ⟨ks,e.trans q,l.step s⟩
  |true=>obtain ⟨ks,q,l⟩:=r;exact ⟨ks,e.trans q,l.step s⟩
 |dead=>exact r
 |ins c fs=>obtain ⟨ks,⟨dx,q⟩,l⟩:=r;exact ⟨ks,⟨dx,e.trans q⟩,l.step s⟩
theorem yck.there {o:Ob}{a:Addr}(r:yck K cl B φ H o a):∃u,H a=some u:=by
 cases o with
 |lst vs=>obtain ⟨xs,q,l⟩:=r;exact ⟨_,q⟩
 |dct t kvs=>cases t <;> (obtain ⟨ks,q,l⟩:=r;exact ⟨_,q⟩)
 |dead=>exact r.elim
 |ins c fs=>obtain ⟨ks,⟨dx,q⟩,l⟩:=r;exact ⟨_,q⟩
theorem yw.there (S:yw K cl B φ H st){a:Addr}(h:some a∈φ):∃u,H a=some u:=by
 obtain ⟨n,e⟩:=List.mem_iff_getElem?.mp h
 obtain ⟨o,_,r⟩:=S.obj n a e
 exact r.there
theorem Step.upd {p:Addr}{o:HO}(hp:H p=none):Step φ H φ (upd H p o) :=
 ⟨fun b u n e=>by rw [zH (zO e hp)];exact e,Nat.le_refl _,fun _ _ _ e=>e,fun _ h=>.inl h⟩
theorem yw.same (S:yw K cl B φ H st)(k:∀b o,H b=some o->H' b=some o):yw K cl B φ H' st:=by
 have s:Step φ H φ H':=⟨fun b o _ e=>k b o e,Nat.le_refl _,fun _ _ _ e=>e,fun _ h=>.inl h⟩
 refine ⟨S.len,S.inj,fun n a e=>?_,S.liv,S.nb,fun a h=>?_⟩
 ·obtain ⟨o,q,r⟩:=S.obj n a e
  obtain ⟨u,z⟩:=r.there
  exact ⟨o,q,r.step s ((k a u z).trans z.symm)⟩
 ·obtain ⟨o,q⟩:=S.dom a h
  exact ⟨o,k a o q⟩
theorem yw.upd {p:Addr}{o:HO}(S:yw K cl B φ H st)(hp:H p=none):yw K cl B φ (upd H p o) st:=S.same fun b u e=>by rw [zH (zO e hp)];exact e
mutual
theorem ye.moreB {B':Addr->Prop}(hn:∀y,B' y->B y \/ H y=none):∀(v:PV) (x:V),ye K cl B φ H v x->ye K cl B' φ H v x
 | .non,x,h=>by simp only [ye] at h ⊢;exact h
 | .bl b,x,h=>by simp only [ye] at h ⊢;exact h
 | .int i,x,h=>by simp only [ye] at h ⊢;exact h
 | .str y,x,h=>by simp only [ye] at h ⊢;exact h
 | .tp k vs,x,h=>by
  simp only [ye] at h ⊢
  obtain ⟨y,xs,e,r,l⟩:=h
  refine ⟨y,xs,e,?_,yo.moreB hn vs xs l⟩
  rcases r with ⟨r,b,n⟩|r
  ·exact .inl ⟨r,fun z=>(hn y z).elim b fun q=>(by rw [q] at r;cases r),n⟩
  ·exact .inr r
 | .lst vs,x,h=>by
  simp only [ye] at h ⊢
  obtain ⟨y,xs,e,⟨r,b,n⟩,l⟩:=h
  exact ⟨y,xs,e,⟨r,fun z=>(hn y z).elim b fun q=>(by rw [q] at r;cases r),n⟩,yo.moreB hn vs xs l⟩
 | .loc n,x,h=>by simp only [ye] at h ⊢;exact h
 | .exn c,x,h=>by
  simp only [ye] at h ⊢
  obtain ⟨y,e,r,b,n⟩:=h
  exact ⟨y,e,r,fun z=>(hn y z).elim b fun q=>(by rw [q] at r;cases r),n⟩
 | .scr vs,x,h=>by
  simp only [ye] at h ⊢
  obtain ⟨y,xs,e,r,l⟩:=h
  refine ⟨y,xs,e,?_,yo.moreB hn vs xs l⟩
  rcases r with ⟨r,b,n⟩|r
  ·refine .inl ⟨r,fun z=>(hn y z).elim b fun q=>?_,n⟩
   rcases r with r|⟨o,r⟩ <;> (rw [q] at r;cases r)
  ·exact .inr r
theorem yo.moreB {B':Addr->Prop}(hn:∀y,B' y->B y \/ H y=none):∀(v:List PV) (x:List V),yo K cl B φ H v x->yo K cl B' φ H v x
 | [],x,h=>by simp only [yo] at h ⊢;exact h
 |v::vs,x,h=>by
  simp only [yo] at h ⊢
  obtain ⟨y,ys,e,r,l⟩:=h
  exact ⟨y,ys,e,ye.moreB hn v y r,yo.moreB hn vs ys l⟩
end
end
structure Se where
 cl:Nat->Addr
 call:Nat->List PV->Store->R PV
 may:Bool
section
variable (S:Se)(X:Cx)
def ExcAt (σ:St)(B:Addr->Prop)(φ:Ph)(H:Hp)(k:Nat)(st':Store)(e:Value)(s':Shared):Prop :=
 (∃pins H1 s φ1,Inv X pins σ H1 s/\Step φ H φ1 H1/\CX1 X.prog X.w X.stack H1 s (fun cls _ H'=>cls=.ref (S.cl k)/\∃φ',Step φ1 H1 φ' H'/\yw X.K S.cl B φ' H' st') e s') \/
 (S.may=true/\∃pins H1 s φ1 h' e0 vs,Inv X pins σ H1 s/\Step φ H φ1 H1/\yw X.K S.cl B φ1 H1 st'/\Heap.MadeExcOf s.heap h' e0 (.ref (S.cl k)) vs/\e=.ref e0/\s'={ s with heap:=h' })
def Run {α β:Type}(σ:St)(B:Addr->Prop)(φ:Ph)(H:Hp)(Rel:Ph->Hp->α->β->Prop)(r:R α)(Q:β->Hp->Prop):Prop :=
 match r with
 | .ok v st'=>∀x H' φ',Step φ H φ' H'->yw X.K S.cl B φ' H' st'->Rel φ' H' v x->Q x H'
 | .exc k st'=>∀e s',ExcAt S X σ B φ H k st' e s'->X.xe e s'
 | .bad=>False
noncomputable abbrev RV (B:Addr->Prop):Ph->Hp->PV->V->Prop:=fun φ H=>ye X.K S.cl B φ H
noncomputable abbrev RL (B:Addr->Prop):Ph->Hp->List PV->List V->Prop:=fun φ H=>yo X.K S.cl B φ H
noncomputable abbrev RB:Ph->Hp->Bool->Bool->Prop:=fun _ _ b c=>b=c
noncomputable def tE (c:Ce):TE:=fun σ H Q=>∃B φ st ρ,yw X.K S.cl B φ H st/\yF X.K S.cl B φ H ρ σ/\Run S X σ B φ H (RV S X B) (ev S.call ρ st c) Q
noncomputable def tAs (c:Ces):TA:=fun σ H Q=>∃B φ st ρ,yw X.K S.cl B φ H st/\yF X.K S.cl B φ H ρ σ/\Run S X σ B φ H (RL S X B) (evs S.call ρ st c) Q
noncomputable def yaR (r:R PV):R Bool:=r.bind fun x st=>onO (truV st x) fun b=>.ok b st
noncomputable def tTs (c:Ce):TT:=fun σ H Q=>∃B φ st ρ,yw X.K S.cl B φ H st/\yF X.K S.cl B φ H ρ σ/\Run S X σ B φ H RB (yaR (ev S.call ρ st c)) Q
end
section
variable {S:Se}{X:Cx}{σ:St}{B:Addr->Prop}{φ φ1:Ph}{H H1:Hp}
theorem ExcAt.back {k:Nat}{st':Store}{e:Value}{s':Shared}(s:Step φ H φ1 H1)(h:ExcAt S X σ B φ1 H1 k st' e s'):ExcAt S X σ B φ H k st' e s':=by
 rcases h with ⟨pins,H2,t,φ2,I,q,c⟩|⟨m,pins,H2,t,φ2,h',e0,vs,I,q,c⟩
 ·exact .inl ⟨pins,H2,t,φ2,I,s.trans q,c⟩
 ·exact .inr ⟨m,pins,H2,t,φ2,h',e0,vs,I,s.trans q,c⟩
variable {α β γ δ:Type}{Rel:Ph->Hp->α->β->Prop}{Rel2:Ph->Hp->γ->δ->Prop}
theorem Run.on {r:R α}{Q:β->Hp->Prop}(s:Step φ H φ1 H1)(h:Run S X σ B φ H Rel r Q):Run S X σ B φ1 H1 Rel r Q:=by
 cases r with
 |ok v st'=>exact fun x H' φ' t=>h x H' φ' (s.trans t)
 |exc k st'=>exact fun e s' x=>h e s' (x.back s)
 |bad=>exact h
theorem Run.mono {r:R α}{Q Q':β->Hp->Prop}(h:Run S X σ B φ H Rel r Q)(k:∀x H',Q x H'->Q' x H'):Run S X σ B φ H Rel r Q':=by
 cases r with
 |ok v st'=>exact fun x H' φ' t rs rv=>k x H' (h x H' φ' t rs rv)
 |exc c st'=>exact h
 |bad=>exact h
theorem Run.bind {r:R α}{k:α->Store->R γ}{Q:δ->Hp->Prop}(h:Run S X σ B φ H Rel2 (r.bind k) Q) :
  Run S X σ B φ H Rel r fun x H1=>∃v st1 φ1,Step φ H φ1 H1/\yw X.K S.cl B φ1 H1 st1/\Rel φ1 H1 v x/\Run S X σ B φ1 H1 Rel2 (k v st1) Q:=by
 cases r with
 |ok v st'=>exact fun x H' φ' t rs rv=>⟨v,st',φ',t,rs,rv,Run.on t h⟩
 |exc c st'=>exact h
 |bad=>exact h
theorem Run.ok {v:α}{st:Store}{Q:β->Hp->Prop}(h:Run S X σ B φ H Rel (.ok v st) Q)(rs:yw X.K S.cl B φ H st){x:β}(rv:Rel φ H v x):Q x H:=h x H φ .rfl rs rv
theorem PE.imp {e:Expr}{t t':TE}(h:PE X e t')(k:∀σ H Q,t σ H Q->t' σ H Q):PE X e t:=fun pins s σ H Q I q=>h pins s σ H Q I (k σ H Q q)
theorem PT.imp {e:Expr}{t t':TT}(h:PT X e t')(k:∀σ H Q,t σ H Q->t' σ H Q):PT X e t:=fun pins s σ H Q I q=>h pins s σ H Q I (k σ H Q q)
theorem PW.imp {e:Expr}{t t':TT}(h:PW X e t')(k:∀σ H Q,t σ H Q->t' σ H Q):PW X e t:=fun wh pins s σ H Q I q=>h wh pins s σ H Q I (k σ H Q q)
theorem PA.imp {e:List Expr}{t t':TA}(h:PA X e t')(k:∀σ H Q,t σ H Q->t' σ H Q):PA X e t:=fun pos pins s σ H Q I q=>h pos pins s σ H Q I (k σ H Q q)
theorem tE.bind {c:Ce}{ρ:IC.Env}{st:Store}{k:PV->Store->R γ}{Q:δ->Hp->Prop}{P:V->Hp->Prop}(rs:yw X.K S.cl B φ H st)(re:yF X.K S.cl B φ H ρ σ)(h:Run S X σ B φ H Rel2 ((ev S.call ρ st c).bind k) Q)
  (n:∀x H1 v st1 φ1,Step φ H φ1 H1->yw X.K S.cl B φ1 H1 st1->yF X.K S.cl B φ1 H1 ρ σ->ye X.K S.cl B φ1 H1 v x->Run S X σ B φ1 H1 Rel2 (k v st1) Q->P x H1):tE S X c σ H P :=
 ⟨B,φ,st,ρ,rs,re,(Run.bind h).mono fun x H1 ⟨v,st1,φ1,s,rs1,rv,h1⟩=>n x H1 v st1 φ1 s rs1 (re.step s) rv h1⟩
theorem tAs.bind {c:Ces}{ρ:IC.Env}{st:Store}{k:List PV->Store->R γ}{Q:δ->Hp->Prop}{P:List V->Hp->Prop}(rs:yw X.K S.cl B φ H st)(re:yF X.K S.cl B φ H ρ σ)(h:Run S X σ B φ H Rel2 ((evs S.call ρ st c).bind k) Q)
  (n:∀x H1 v st1 φ1,Step φ H φ1 H1->yw X.K S.cl B φ1 H1 st1->yF X.K S.cl B φ1 H1 ρ σ->yo X.K S.cl B φ1 H1 v x->Run S X σ B φ1 H1 Rel2 (k v st1) Q->P x H1):tAs S X c σ H P :=
 ⟨B,φ,st,ρ,rs,re,(Run.bind h).mono fun x H1 ⟨v,st1,φ1,s,rs1,rv,h1⟩=>n x H1 v st1 φ1 s rs1 (re.step s) rv h1⟩
variable {i:Int}{b:Bool}{x:Str}{j:Nat}{pos:Pos}{e a a':Expr}{c ca cb cc:Ce}
theorem zpi:PE X (.Constant (.int i) j pos) (tE S X (.cst (.int i))):=ycy.imp fun σ H Q ⟨B,φ,st,ρ,rs,re,h⟩=>by
 simp only [ev] at h
 exact h.ok rs (by simp only [ye])
theorem zh:KqE X (.Constant (.int i) j pos) (tE S X (.cst (.int i))):=by with_unfolding_all exact zpi
theorem zpG:PE X (.Constant (.bool b) j pos) (tE S X (.cst (.bl b))):=yeu.imp fun σ H Q ⟨B,φ,st,ρ,rs,re,h⟩=>by
 simp only [ev] at h
 exact h.ok rs (by simp only [ye])
theorem zbo:KqE X (.Constant (.bool b) j pos) (tE S X (.cst (.bl b))):=by with_unfolding_all exact zpG
theorem zoQ:PE X (.Constant .none j pos) (tE S X (.cst .non)):=ycY.imp fun σ H Q ⟨B,φ,st,ρ,rs,re,h⟩=>by
 simp only [ev] at h
 exact h.ok rs (by simp only [ye])
theorem zmo:KqE X (.Constant .none j pos) (tE S X (.cst .non)):=by with_unfolding_all exact zoQ
theorem zoV:PE X (.Constant (.str x) j pos) (tE S X (.cst (.str x))):=yb3.imp fun σ H Q ⟨B,φ,st,ρ,rs,re,h⟩=>by
 simp only [ev] at h
 exact h.ok rs (by simp only [ye])
theorem zx:KqE X (.Constant (.str x) j pos) (tE S X (.cst (.str x))):=by with_unfolding_all exact zoV
theorem zmH {i:Nat}(hN:X.N[i]?=some x)(hv:Vis X.env.scope x)(hd:(x == ("__debug__":Str))=false:=by decide)(hcd:(x == ("__classdict__":Str))=false:=by decide):PE X (.Name x pos) (tE S X (.var i)) :=
 (zpp hN hv hd hcd).imp fun σ H Q ⟨B,φ,st,ρ,rs,re,h⟩=>by
  simp only [ev] at h
  cases q:ρ[i]? with
  |none=>rw [q] at h;exact h.elim
  |some o =>
   cases o with
   |none=>rw [q] at h;exact h.elim
   |some v =>
    rw [q] at h
    obtain ⟨y,hy,rv⟩:=re.get i v q
    exact ⟨y,hy,h.ok rs rv⟩
theorem zbp {o:Option PV}{st:Store}{Q:VK}(h:Run S X σ B φ H (RV S X B) (toR o st) Q)(rs:yw X.K S.cl B φ H st):∃z,o=some z/\∀z' H' φ',Step φ H φ' H'->yw X.K S.cl B φ' H' st->ye X.K S.cl B φ' H' z z'->Q z' H':=by
 cases o with
 |none=>exact h.elim
 |some z=>exact ⟨z,rfl,h⟩
noncomputable def rT2 (S:Se)(X:Cx)(f:PV->PV->Option PV):R2:=fun x y H Q=>∃B φ st v w z,yw X.K S.cl B φ H st/\ye X.K S.cl B φ H v x/\ye X.K S.cl B φ H w y/\f v w=some z /\
 ∀z' H' φ',Step φ H φ' H'->yw X.K S.cl B φ' H' st->ye X.K S.cl B φ' H' z z'->Q z' H'
theorem zr {op:Operator}{o:BOp}(ho:OpR X (binaryOp op) (rT2 S X (binV o)))(ha:KqE X a (tE S X ca))(hb:KqE X a' (tE S X cb)):KqE X (.BinOp a op a' pos) (tE S X (.bin o ca cb)):= by
 with_unfolding_all
 exact PE.imp (zpJ ho ha hb) fun σ H Q ⟨B,φ,st,ρ,rs,re,h⟩=>by
  simp only [ev] at h
  refine tE.bind rs re h fun x H1 v st1 φ1 s1 rs1 re1 rv h1=>tE.bind rs1 re1 h1 fun y H2 w st2 φ2 s2 rs2 re2 rw h2=>?_
  obtain ⟨z,e,q⟩:=zbp h2 rs2
  exact ⟨B,φ2,st2,v,w,z,rs2,rv.step s2,rw,e,q⟩
theorem zay {op:CmpOp}{o:COp}(ho:OpR X (compareOp op) (rT2 S X (cmpV o)))(ha:KqE X a (tE S X ca))(hb:KqE X a' (tE S X cb))(hm:behindInMarks op a'=false):KqE X (.Compare a [op] [a'] pos) (tE S X (.cmp o ca cb)):= by
 with_unfolding_all
 exact PE.imp (zk1 ho ha hb hm) fun σ H Q ⟨B,φ,st,ρ,rs,re,h⟩=>by
  simp only [ev] at h
  refine tE.bind rs re h fun x H1 v st1 φ1 s1 rs1 re1 rv h1=>tE.bind rs1 re1 h1 fun y H2 w st2 φ2 s2 rs2 re2 rw h2=>?_
  obtain ⟨z,e,q⟩:=zbp h2 rs2
  exact ⟨B,φ2,st2,v,w,z,rs2,rv.step s2,rw,e,q⟩
end
section
variable {S:Se}{X:Cx}{σ:St}{B:Addr->Prop}{φ φ1:Ph}{H H1:Hp}{K:PySem.W.Frag}{cl:Nat->Addr}{st:Store}
theorem ybF.sq {k:Bool}{a:Addr}{xs:List V}(r:ybF K B φ H k a xs):SqT K H a xs:=by
 rcases r with ⟨r,_⟩|r
 ·exact .inl (.inl r)
 ·exact .inr r.2
theorem ycE.sq {a:Addr}{xs:List V}(r:ycE B φ H a xs):SqL K H a xs:=.inl (.inl r.1)
theorem ye.tup_new {vs:List PV}{xs:List V}{p:Addr}(hp:H p=none)(rs:yw K cl B φ H st)(r:yo K cl B φ H vs xs):ye K cl B φ (upd H p (.tup xs)) (.tup vs) (.ref p):=by
 simp only [ye]
 refine ⟨p,xs,rfl,.inl ⟨zU,fun z=>?_,fun z=>?_⟩,r.step (.upd hp)⟩
 ·obtain ⟨o,e⟩:=rs.dom p z
  rw [hp] at e;cases e
 ·obtain ⟨o,e⟩:=rs.there z
  rw [hp] at e;cases e
theorem ye.lst_new {vs:List PV}{xs:List V}{p:Addr}(hp:H p=none)(rs:yw K cl B φ H st)(r:yo K cl B φ H vs xs):ye K cl B φ (upd H p (.lst xs)) (.lst vs) (.ref p):=by
 simp only [ye]
 refine ⟨p,xs,rfl,⟨zU,fun z=>?_,fun z=>?_⟩,r.step (.upd hp)⟩
 ·obtain ⟨o,e⟩:=rs.dom p z
  rw [hp] at e;cases e
 ·obtain ⟨o,e⟩:=rs.there z
  rw [hp] at e;cases e
theorem yo.append:∀{vs ws:List PV} {xs ys:List V},yo K cl B φ H vs xs->yo K cl B φ H ws ys->yo K cl B φ H (vs++ws) (xs++ys)
 | [],ws,xs,ys,h,q=>by simp only [yo] at h;subst h;exact q
 |v::vs,ws,xs,ys,h,q=>by
  simp only [yo] at h
  obtain ⟨y,zs,rfl,r,l⟩:=h
  show yo K cl B φ H (v::(vs++ws)) (y::(zs++ys))
  simp only [yo]
  exact ⟨y,zs++ys,rfl,r,yo.append l q⟩
theorem yo.get:∀{vs:List PV} {xs:List V} (j:Nat) {v:PV},yo K cl B φ H vs xs->vs[j]?=some v->∃x,xs[j]?=some x/\ye K cl B φ H v x
 | [],xs,j,v,h,e=>by simp at e
 |w::vs,xs,0,v,h,e=>by
  simp only [yo] at h
  obtain ⟨y,zs,rfl,r,l⟩:=h
  simp at e;subst e
  exact ⟨y,rfl,r⟩
 |w::vs,xs,j+1,v,h,e=>by
  simp only [yo] at h
  obtain ⟨y,zs,rfl,r,l⟩:=h
  obtain ⟨x,q1,q2⟩:=yo.get j l (by simpa using e)
  exact ⟨x,by simpa using q1,q2⟩
theorem yo.drop:∀{vs:List PV} {xs:List V} (n:Nat),yo K cl B φ H vs xs->yo K cl B φ H (vs.drop n) (xs.drop n)
 |vs,xs,0,h=>by simpa using h
 | [],xs,n+1,h=>by simp only [yo] at h;subst h;simp [yo]
 |v::vs,xs,n+1,h=>by
  simp only [yo] at h
  obtain ⟨y,ys,rfl,_,l⟩:=h
  simpa using yo.drop n l
theorem yo.take:∀{vs:List PV} {xs:List V} (n:Nat),yo K cl B φ H vs xs->yo K cl B φ H (vs.take n) (xs.take n)
 |vs,xs,0,h=>by simp [yo]
 | [],xs,n+1,h=>by simp only [yo] at h;subst h;simp [yo]
 |v::vs,xs,n+1,h=>by
  simp only [yo] at h
  obtain ⟨y,ys,rfl,r,l⟩:=h
  simp only [List.take_succ_cons,yo]
  exact ⟨y,ys.take n,rfl,r,yo.take n l⟩
theorem zfH {f:Value->Value->Sem Value}{o:BOp}{C:Int->Int->Prop}{g:Int->Int->Int}(h:OpR X f (rI C fun i j=>.int (g i j)))
  (hb:∀v w z,binV o v w=some z->∃i j,v=.int i/\w=.int j/\C i j/\z=.int (g i j)):OpR X f (rT2 S X (binV o)):=by
 rintro pins s σ H x y v u Q I rx ry ⟨B,φ,st,a,b,z,rs,ra,rb,e,q⟩
 obtain ⟨i,j,rfl,rfl,hc,rfl⟩:=hb a b z e
 simp only [ye] at ra rb
 subst ra rb
 exact h pins s σ H _ _ v u Q I rx ry ⟨i,j,rfl,rfl,hc,q _ H φ .rfl rs (by simp only [ye])⟩
theorem zlM {f:Value->Value->Sem Value}{o:BOp}{g:Int->Int->Int}(h:OpR X f (rI0 fun i j=>.int (g i j)))
  (hb:∀v w z,binV o v w=some z->∃i j,v=.int i/\w=.int j/\z=.int (g i j)):OpR X f (rT2 S X (binV o)):=by
 rintro pins s σ H x y v u Q I rx ry ⟨B,φ,st,a,b,z,rs,ra,rb,e,q⟩
 obtain ⟨i,j,rfl,rfl,rfl⟩:=hb a b z e
 simp only [ye] at ra rb
 subst ra rb
 exact h pins s σ H _ _ v u Q I rx ry ⟨i,j,rfl,rfl,q _ H φ .rfl rs (by simp only [ye])⟩
theorem zm7 (v w z:PV)(h:binV .sub v w=some z):∃i j,v=.int i/\w=.int j/\z=.int (i - j):=by
 unfold binV at h
 split at h <;> first|(cases h;done)|skip
 exact ⟨_,_,rfl,rfl,(Option.some.inj h).symm⟩
theorem znW (v w z:PV)(h:binV .mul v w=some z):∃i j,v=.int i/\w=.int j/\yc5 i j/\z=.int (i*j):=by
 unfold binV at h
 split at h <;> first|(cases h;done)|skip
 rename_i i j
 simp only [IC.binI] at h
 split at h
 ·rename_i c
  refine ⟨i,j,rfl,rfl,?_,(Option.some.inj h).symm⟩
  simp only [CMulB,Bool.or_eq_true,decide_eq_true_eq] at c
  unfold yc5
  rcases c with c|c
  ·left;constructor <;> omega
  ·right;constructor <;> omega
 ·cases h
theorem zlS (v w z:PV)(h:binV .fdiv v w=some z):∃i j,v=.int i/\w=.int j/\yc2 i j/\z=.int (i / j):=by
 unfold binV at h
 split at h <;> first|(cases h;done)|skip
 rename_i i j
 simp only [IC.binI] at h
 split at h
 ·rename_i c
  exact ⟨i,j,rfl,rfl,c,(Option.some.inj h).symm⟩
 ·cases h
theorem znh (v w z:PV)(h:binV .mod v w=some z):∃i j,v=.int i/\w=.int j/\0<j/\z=.int (i % j):=by
 unfold binV at h
 split at h <;> first|(cases h;done)|skip
 rename_i i j
 simp only [IC.binI] at h
 split at h
 ·rename_i c
  exact ⟨i,j,rfl,rfl,c,(Option.some.inj h).symm⟩
 ·cases h
theorem znf (v w z:PV)(h:binV .pow v w=some z):∃i j,v=.int i/\w=.int j/\ydJ i j/\z=.int (i ^ j.toNat):=by
 unfold binV at h
 split at h <;> first|(cases h;done)|skip
 rename_i i j
 simp only [IC.binI] at h
 split at h
 ·rename_i c
  exact ⟨i,j,rfl,rfl,⟨c.1,c.2.1,by have:=c.2.2;omega⟩,(Option.some.inj h).symm⟩
 ·cases h
theorem znM (v w z:PV)(h:binV .shl v w=some z):∃i j,v=.int i/\w=.int j/\ydJ i j/\z=.int (i*2 ^ j.toNat):=by
 unfold binV at h
 split at h <;> first|(cases h;done)|skip
 rename_i i j
 simp only [IC.binI] at h
 split at h
 ·rename_i c
  exact ⟨i,j,rfl,rfl,⟨c.1,c.2.1,by have:=c.2.2;omega⟩,(Option.some.inj h).symm⟩
 ·cases h
theorem ziQ:OpR X (binaryOp .Sub) (rT2 S X (binV .sub)):=zlM zor zm7
theorem zcv:OpR X (binaryOp .Mult) (rT2 S X (binV .mul)):=zfH zpb znW
theorem zih:OpR X (binaryOp .FloorDiv) (rT2 S X (binV .fdiv)):=zfH zl2 zlS
theorem ze2:OpR X (binaryOp .Mod) (rT2 S X (binV .mod)):=zfH zo3 znh
theorem zjb:OpR X (binaryOp .Pow) (rT2 S X (binV .pow)):=zfH zo8 znf
theorem zpd:OpR X (binaryOp .LShift) (rT2 S X (binV .shl)):=zfH zoB znM
theorem zaY:sizeMax=sizeLine:=by rw [sizeLine_eq];rfl
theorem znD:OpR X (binaryOp .Add) (fun x y H Q=>∃a b ys,x=.ref a/\y=.ref b/\SqT X.K H a []/\SqT X.K H b ys/\Q (.ref b) H):=by
 intro pins s σ H x y v u Q I rx ry h
 obtain ⟨a,b,ys,rfl,rfl,ha,hb,q⟩:=h
 cases rx
 cases ry
 obtain ⟨its,r1,p1,_⟩:=I.tuple ha
 obtain ⟨its2,r2,p2,_⟩:=I.tuple hb
 have:its=[]:=r1.nil_iff.mpr rfl
 subst this
 obtain ⟨⟨cls,dd,data,sl⟩,ho,hc,n,hd⟩:=id p1
 obtain ⟨⟨cls2,dd2,data2,sl2⟩,ho2,hc2,n2,hd2⟩:=id p2
 simp only at hc hd hc2 hd2
 subst hc hd hc2 hd2
 exact concat_meets ⟨_,ho,rfl⟩ ⟨_,ho2,rfl⟩ noFill_tuple_add seq_tuple_add PySem.F.slot_tuple_add PySem.F.entry_tuple_add (PySem.F.args_tuple_add_2 _ _)
   (tuple_addW0 a b [].toArray its2.toArray n n2 dd dd2 sl sl2 (by simp)) ⟨ho,ho2,⟨.ref b,H,I,rfl,q⟩⟩
theorem zah:OpR X (binaryOp .Add) (rT2 S X (binV .add)):=by
 rintro pins s σ H x y v u Q I rx ry ⟨B,φ,st,a,b,z,rs,ra,rb,e,q⟩
 unfold binV at e
 split at e
 ·rename_i i j
  simp only [ye] at ra rb
  subst ra rb
  cases e
  exact zoZ pins s σ H _ _ v u Q I rx ry ⟨i,j,rfl,rfl,q _ H φ .rfl rs (by simp only [ye])⟩
 ·rename_i i k
  simp only [ye] at ra rb
  subst ra rb
  cases e
  exact zle pins s σ H _ _ v u Q I rx ry ⟨i,k,rfl,rfl,q _ H φ .rfl rs (by simp only [ye];cases k <;> rfl)⟩
 ·rename_i i j
  simp only [ye] at ra rb
  subst ra rb
  dsimp only at e
  split at e
  ·rename_i c
   cases e
   exact zjr pins s σ H _ _ v u Q I rx ry ⟨i,j,rfl,rfl,by rw [<- zaY];exact c,q _ H φ .rfl rs (by simp only [ye])⟩
  ·cases e
 ·rename_i k1 vs k2 ws
  simp only [ye] at ra rb
  obtain ⟨p,xs,rfl,r1,l1⟩:=ra
  obtain ⟨p',ys,rfl,r2,l2⟩:=rb
  dsimp only at e
  split at e
  ·rename_i c
   cases e
   have n1:=l1.length
   have n2:=l2.length
   unfold ydX at q
   cases vs with
   |nil =>
    have:xs=[]:=by cases xs with|nil=>rfl|cons _ _=>simp at n1
    subst this
    refine znD pins s σ H _ _ v u Q I rx ry ⟨p,p',ys,rfl,rfl,r1.sq,r2.sq,q _ H φ .rfl rs ?_⟩
    simp only [List.isEmpty_nil,if_true,ye]
    exact ⟨p',ys,rfl,r2,l2⟩
   |cons v1 vr =>
    simp only [List.isEmpty_cons,Bool.false_eq_true,if_false] at q
    refine znX pins s σ H _ _ v u Q I rx ry ⟨p,p',xs,ys,rfl,rfl,r1.sq,r2.sq,?_,by rw [<- zaY];omega,fun z=>?_,fun z t ht=>?_⟩
    ·rintro rfl
     simp at n1
    ·subst z
     have:ws=[]:=by cases ws with|nil=>rfl|cons _ _=>simp at n2
     subst this
     simp only [List.isEmpty_nil,if_true] at q
     refine q _ H φ .rfl rs ?_
     simp only [ye]
     exact ⟨p,xs,rfl,r1,l1⟩
    ·cases ws with
     |nil=>exact absurd (List.length_eq_zero_iff.mp n2.symm) z
     |cons w1 wr =>
      simp only [List.isEmpty_cons,Bool.false_eq_true,if_false] at q
      exact q _ _ φ (.upd ht) (rs.upd ht) (.tup_new ht rs (l1.append l2))
  ·cases e
 ·rename_i vs ws
  simp only [ye] at ra rb
  obtain ⟨p,xs,rfl,r1,l1⟩:=ra
  obtain ⟨p',ys,rfl,r2,l2⟩:=rb
  dsimp only at e
  split at e
  ·rename_i c
   cases e
   have n1:=l1.length
   have n2:=l2.length
   exact zoK pins s σ H _ _ v u Q I rx ry ⟨p,p',xs,ys,rfl,rfl,r1.1,r2.1,by rw [<- zaY];omega,fun t ht=>q _ _ φ (.upd ht) (rs.upd ht) (.lst_new ht rs (l1.append l2))⟩
  ·cases e
 ·cases e
end
mutual
noncomputable def toD:PV->PyData
 | .non=>.none
 | .bl b=>.bool b
 | .int i=>.int i
 | .str x=>.str x
 | .tp _ xs=>.tuple (ybs xs)
 | .lst xs=>.list (ybs xs)
 |_=>.none
noncomputable def ybs:List PV->List PyData
 | []=>[]
 |x::xs=>toD x::ybs xs
end
mutual
theorem zgN:∀(v:PV) (n:Nat),shd n v=true->(toD v).canLay0=true/\(toD v).depth<=n
 | .non,n,h=>by simp [toD,PyData.canLay0,PyData.depth]
 | .bl b,n,h=>by simp [toD,PyData.canLay0,PyData.depth]
 | .int i,n,h=>by simp [toD,PyData.canLay0,PyData.depth]
 | .str x,n,h=>by
  simp only [shd] at h
  simp only [toD,PyData.canLay0,PyData.depth,Nat.zero_le,and_true]
  exact h
 | .tp _ xs,n,h=>by
  simp only [shd,Bool.and_eq_true,decide_eq_true_eq] at h
  obtain ⟨q1,q2⟩:=zg6 xs (n - 1) h.2
  simp only [toD,PyData.canLay0,PyData.depth]
  exact ⟨q1,by omega⟩
 | .lst xs,n,h=>by
  simp only [shd,Bool.and_eq_true,decide_eq_true_eq] at h
  obtain ⟨q1,q2⟩:=zg6 xs (n - 1) h.2
  simp only [toD,PyData.canLay0,PyData.depth]
  exact ⟨q1,by omega⟩
 | .loc k,n,h=>by simp [shd] at h
 | .exn k,n,h=>by simp [shd] at h
 | .scr xs,n,h=>by simp [shd] at h
theorem zg6:∀(v:List PV) (n:Nat),ya8 n v=true->PyData.canLayAll0 (ybs v)=true/\PyData.depthAll (ybs v)<=n
 | [],n,h=>by simp [ybs,PyData.canLayAll0,PyData.depthAll]
 |v::vs,n,h=>by
  simp only [ya8,Bool.and_eq_true] at h
  obtain ⟨q1,q2⟩:=zgN v n h.1
  obtain ⟨q3,q4⟩:=zg6 vs n h.2
  simp only [ybs,PyData.canLayAll0,PyData.depthAll,Bool.and_eq_true]
  exact ⟨⟨q1,q3⟩,by omega⟩
end
theorem zdF {v:PV}(h:shp v=true):SeqAt.shaped (toD v)=true:=by
 obtain ⟨q1,q2⟩:=zgN v 60 h
 unfold SeqAt.shaped
 rw [q1,Bool.true_and,decide_eq_true_eq]
 omega
mutual
theorem zgW:∀(v w:PV) (n m:Nat),shd n v=true->shd m w=true->PyData.eqv (toD v) (toD w)=peq v w
 | .non,w,n,m,h,q=>by cases w <;> simp_all [toD,PyData.eqv,peq,shd]
 | .bl b,w,n,m,h,q=>by cases w <;> simp_all [toD,PyData.eqv,peq,shd,bi]
 | .int i,w,n,m,h,q=>by cases w <;> simp_all [toD,PyData.eqv,peq,shd,bi]
 | .str x,w,n,m,h,q=>by cases w <;> simp_all [toD,PyData.eqv,peq,shd]
 | .tp _ xs,.tp _ ys,n,m,h,q=>by
  simp only [shd,Bool.and_eq_true] at h q
  simp only [toD,PyData.eqv,peq]
  exact zgJ xs ys (n - 1) (m - 1) h.2 q.2
 | .lst xs,.lst ys,n,m,h,q=>by
  simp only [shd,Bool.and_eq_true] at h q
  simp only [toD,PyData.eqv,peq]
  exact zgJ xs ys (n - 1) (m - 1) h.2 q.2
 | .tp _ xs,.non,n,m,h,q=>by simp [toD,PyData.eqv,peq]
 | .tp _ xs,.bl _,n,m,h,q=>by simp [toD,PyData.eqv,peq]
 | .tp _ xs,.int _,n,m,h,q=>by simp [toD,PyData.eqv,peq]
 | .tp _ xs,.str _,n,m,h,q=>by simp [toD,PyData.eqv,peq]
 | .tp _ xs,.lst _,n,m,h,q=>by simp [toD,PyData.eqv,peq]
 | .lst xs,.non,n,m,h,q=>by simp [toD,PyData.eqv,peq]
 | .lst xs,.bl _,n,m,h,q=>by simp [toD,PyData.eqv,peq]
 | .lst xs,.int _,n,m,h,q=>by simp [toD,PyData.eqv,peq]
 | .lst xs,.str _,n,m,h,q=>by simp [toD,PyData.eqv,peq]
 | .lst xs,.tp _ _,n,m,h,q=>by simp [toD,PyData.eqv,peq]
 | .loc k,w,n,m,h,q=>by simp [shd] at h
 | .exn k,w,n,m,h,q=>by simp [shd] at h
 | .scr k,w,n,m,h,q=>by simp [shd] at h
 |v,.loc k,n,m,h,q=>by simp [shd] at q
 |v,.exn k,n,m,h,q=>by simp [shd] at q
 |v,.scr k,n,m,h,q=>by simp [shd] at q
theorem zgJ:∀(v w:List PV) (n m:Nat),ya8 n v=true->ya8 m w=true->PyData.eqvAll (ybs v) (ybs w)=ybi v w
 | [],[],n,m,h,q=>by simp [ybs,PyData.eqvAll,ybi]
 | [],y::ys,n,m,h,q=>by simp [ybs,PyData.eqvAll,ybi]
 |x::xs,[],n,m,h,q=>by simp [ybs,PyData.eqvAll,ybi]
 |x::xs,y::ys,n,m,h,q=>by
  simp only [ya8,Bool.and_eq_true] at h q
  simp only [ybs,PyData.eqvAll,ybi]
  rw [zgW x y n m h.1 q.1,zgJ xs ys n m h.2 q.2]
end
section
variable {S:Se}{X:Cx}{σ:St}{B:Addr->Prop}{φ φ1:Ph}{H H1:Hp}{st:Store}{pins:List (Addr×Obj)}{s:Shared}
mutual
theorem zch (I:Inv X pins σ H s):∀(v:PV) (n:Nat) (x:V) (u:Value),shd n v=true->ye X.K S.cl B φ H v x->RelV x u->∃as,Reads s.heap u (toD v) as
 | .non,n,x,u,h,r,q=>by
  simp only [ye] at r;subst r;cases (show u=Value.none from q);exact ⟨_,.none⟩
 | .bl b,n,x,u,h,r,q=>by
  simp only [ye] at r;subst r;cases (show u=Value.bool b from q);exact ⟨_,.bool b⟩
 | .int i,n,x,u,h,r,q=>by
  simp only [ye] at r;subst r;obtain ⟨t,rfl⟩:=q;exact ⟨_,.int i t⟩
 | .str y,n,x,u,h,r,q=>by
  simp only [ye] at r;subst r;obtain ⟨t,rfl⟩:=q;exact ⟨_,.str y t⟩
 | .tp _ vs,n,x,u,h,r,q=>by
  simp only [ye] at r
  obtain ⟨a,xs,rfl,rt,l⟩:=r
  cases (show u=Value.ref a from q)
  simp only [shd,Bool.and_eq_true] at h
  obtain ⟨its,rv,⟨o,g,c,k,d⟩,_⟩:=I.tuple rt.sq
  obtain ⟨as,z⟩:=zfB I vs (n - 1) xs its h.2 l rv
  exact ⟨as,.tuple g c d (by simpa using z)⟩
 | .lst vs,n,x,u,h,r,q=>by
  simp only [ye] at r
  obtain ⟨a,xs,rfl,rt,l⟩:=r
  cases (show u=Value.ref a from q)
  simp only [shd,Bool.and_eq_true] at h
  obtain ⟨its,rv,⟨o,k,g,c,_,d⟩,_⟩:=I.list (rt.sq (K:=X.K))
  obtain ⟨as,z⟩:=zfB I vs (n - 1) xs its h.2 l rv
  exact ⟨_,.list g c d (by simpa using z)⟩
 | .loc k,n,x,u,h,r,q=>by simp [shd] at h
 | .exn k,n,x,u,h,r,q=>by simp [shd] at h
 | .scr k,n,x,u,h,r,q=>by simp [shd] at h
theorem zfB (I:Inv X pins σ H s):∀(v:List PV) (n:Nat) (x:List V) (u:List Value),ya8 n v=true->yo X.K S.cl B φ H v x->Vals x u->∃as,ReadsAll s.heap u (ybs v) as
 | [],n,x,u,h,r,q=>by
  simp only [yo] at r;subst r;cases q;exact ⟨_,.nil⟩
 |v::vs,n,x,u,h,r,q=>by
  simp only [yo] at r
  obtain ⟨y,ys,rfl,rv,l⟩:=r
  simp only [ya8,Bool.and_eq_true] at h
  cases q with
  |cons q1 q2 =>
   obtain ⟨as,z1⟩:=zch I v n y _ h.1 rv q1
   obtain ⟨bs,z2⟩:=zfB I vs n ys _ h.2 l q2
   exact ⟨_,.cons z1 z2⟩
end
theorem za6 (hu:X.A.units+64<cLine):OpR X (compareOp .Eq) (rT2 S X (cmpV .eq)):=by
 rintro pins s σ H x y v u Q I rx ry ⟨B,φ,st,a,b,z,rs,ra,rb,e,q⟩
 simp only [cmpV] at e
 split at e
 ·rename_i c
  rw [Bool.and_eq_true] at c
  cases e
  obtain ⟨as,z1⟩:=zch (S:=S) I a 60 x v c.1 ra rx
  obtain ⟨bs,z2⟩:=zch (S:=S) I b 60 y u c.2 rb ry
  refine eq_dataH z1 z2 (zdF c.1) (zdF c.2) hu ⟨.bl _,H,I,rfl,?_⟩
  rw [zgW a b 60 60 c.1 c.2]
  exact q _ H φ .rfl rs (by simp only [ye])
 ·cases e
theorem zd1 (hu:X.A.units+64<cLine):OpR X (compareOp .NotEq) (rT2 S X (cmpV .ne)):=by
 rintro pins s σ H x y v u Q I rx ry ⟨B,φ,st,a,b,z,rs,ra,rb,e,q⟩
 simp only [cmpV] at e
 split at e
 ·rename_i c
  rw [Bool.and_eq_true] at c
  cases e
  obtain ⟨as,z1⟩:=zch (S:=S) I a 60 x v c.1 ra rx
  obtain ⟨bs,z2⟩:=zch (S:=S) I b 60 y u c.2 rb ry
  refine ne_dataH z1 z2 (zdF c.1) (zdF c.2) hu ⟨.bl _,H,I,rfl,?_⟩
  rw [zgW a b 60 60 c.1 c.2]
  exact q _ H φ .rfl rs (by simp only [ye])
 ·cases e
theorem zlw {f:Value->Value->Sem Value}{o:COp}{g:Int->Int->Bool}(h:OpR X f (rI0 fun i j=>.bl (g i j)))
  (hb:∀v w z,cmpV o v w=some z->∃i j,v=.int i/\w=.int j/\z=.bl (g i j)):OpR X f (rT2 S X (cmpV o)):=by
 rintro pins s σ H x y v u Q I rx ry ⟨B,φ,st,a,b,z,rs,ra,rb,e,q⟩
 obtain ⟨i,j,rfl,rfl,rfl⟩:=hb a b z e
 simp only [ye] at ra rb
 subst ra rb
 exact h pins s σ H _ _ v u Q I rx ry ⟨i,j,rfl,rfl,q _ H φ .rfl rs (by simp only [ye])⟩
theorem zpr {o:COp}{g:Int->Int->Bool}(ho:∀v w,cmpV o v w=match v,w with
   | .int i,.int j=>cmpI o i j
   |_,_=>none) (hg:∀i j,cmpI o i j=some (.bl (g i j))) (v w z:PV) (h:cmpV o v w=some z):∃i j,v=.int i/\w=.int j/\z=.bl (g i j):=by
 rw [ho] at h
 split at h
 ·rename_i i j
  rw [hg] at h
  exact ⟨i,j,rfl,rfl,(Option.some.inj h).symm⟩
 ·cases h
theorem zlb:OpR X (compareOp .LtE) (fun x y H Q=>∃i j,x=.str i/\y=.str j/\Q (.bl (!decide (j.cps.toList<i.cps.toList))) H):=by
 intro pins s σ H x y v u Q I rx ry h
 obtain ⟨i,j,rfl,rfl,q⟩:=h
 obtain ⟨t,rfl⟩:=rx
 obtain ⟨t',rfl⟩:=ry
 exact PySem.P.le_str (zkE I q rfl)
theorem zjq:OpR X (compareOp .Lt) (rT2 S X (cmpV .lt)):=by
 rintro pins s σ H x y v u Q I rx ry ⟨B,φ,st,a,b,z,rs,ra,rb,e,q⟩
 simp only [cmpV] at e
 split at e
 ·rename_i i j
  simp only [ye] at ra rb
  subst ra rb
  cases e
  exact zpC pins s σ H _ _ v u Q I rx ry ⟨i,j,rfl,rfl,q _ H φ .rfl rs (by simp only [ye])⟩
 ·rename_i i j
  simp only [ye] at ra rb
  subst ra rb
  cases e
  exact zll pins s σ H _ _ v u Q I rx ry ⟨i,j,rfl,rfl,q _ H φ .rfl rs (by simp only [ye])⟩
 ·cases e
theorem zik:OpR X (compareOp .LtE) (rT2 S X (cmpV .le)):=by
 rintro pins s σ H x y v u Q I rx ry ⟨B,φ,st,a,b,z,rs,ra,rb,e,q⟩
 simp only [cmpV] at e
 split at e
 ·rename_i i j
  simp only [ye] at ra rb
  subst ra rb
  cases e
  exact zpA pins s σ H _ _ v u Q I rx ry ⟨i,j,rfl,rfl,q _ H φ .rfl rs (by simp only [ye])⟩
 ·rename_i i j
  simp only [ye] at ra rb
  subst ra rb
  cases e
  exact zlb pins s σ H _ _ v u Q I rx ry ⟨i,j,rfl,rfl,q _ H φ .rfl rs (by simp only [ye])⟩
 ·cases e
theorem zjd {o:COp}{g:Int->Int->Bool}(ho:∀v w,cmpV o v w=match v,w with
   | .int i,.int j=>cmpI o i j
   | .str a,.str b=>ydt o a b
   |_,_=>none) (hs:∀a b,ydt o a b=none) (hg:∀i j,cmpI o i j=some (.bl (g i j))) (v w z:PV) (h:cmpV o v w=some z):∃i j,v=.int i/\w=.int j/\z=.bl (g i j):=by
 rw [ho] at h
 split at h
 ·rename_i i j
  rw [hg] at h
  exact ⟨i,j,rfl,rfl,(Option.some.inj h).symm⟩
 ·rw [hs] at h;cases h
 ·cases h
theorem zob:OpR X (compareOp .Gt) (rT2 S X (cmpV .gt)):=zlw zpz (zjd (fun _ _=>rfl) (fun _ _=>rfl) fun _ _=>rfl)
theorem zpK:OpR X (compareOp .GtE) (rT2 S X (cmpV .ge)):=zlw zps (zjd (fun _ _=>rfl) (fun _ _=>rfl) fun _ _=>rfl)
theorem ye.isNon {K:PySem.W.Frag}{cl:Nat->Addr}{v:PV}{x:V}(r:ye K cl B φ H v x):decide (x=.non)=IC.isNon v:=by
 cases v with
 |loc n=>simp only [ye] at r;obtain ⟨_,a,rfl,_⟩:=r;rfl
 |non=>simp only [ye] at r;subst r;rfl
 |bl b=>simp only [ye] at r;subst r;rfl
 |int b=>simp only [ye] at r;subst r;rfl
 |str b=>simp only [ye] at r;subst r;rfl
 |tp k vs=>simp only [ye] at r;obtain ⟨a,xs,rfl,_⟩:=r;rfl
 |lst vs=>simp only [ye] at r;obtain ⟨a,xs,rfl,_⟩:=r;rfl
 |exn vs=>simp only [ye] at r;obtain ⟨a,rfl,_⟩:=r;rfl
 |scr vs=>simp only [ye] at r;obtain ⟨a,xs,rfl,_⟩:=r;rfl
theorem ye.flat {K:PySem.W.Frag}{cl:Nat->Addr}{v:PV}{x:V}(r:ye K cl B φ H v x)(h:IC.flat v=true):yap x=true/\∀(w:PV) (y:V),IC.flat w=true->ye K cl B φ H w y->eqV x y=peq v w:=by
 cases v with
 |non =>
  simp only [ye] at r;subst r
  refine ⟨rfl,fun w y hw rw=>?_⟩
  cases w <;> first|(simp [IC.flat] at hw;done)|(simp only [ye] at rw;subst rw;simp [eqV,peq,bi])
 |bl b =>
  simp only [ye] at r;subst r
  refine ⟨rfl,fun w y hw rw=>?_⟩
  cases w <;> first|(simp [IC.flat] at hw;done)|(simp only [ye] at rw;subst rw;simp [eqV,peq,bi])
 |int b =>
  simp only [ye] at r;subst r
  refine ⟨rfl,fun w y hw rw=>?_⟩
  cases w <;> first|(simp [IC.flat] at hw;done)|(simp only [ye] at rw;subst rw;simp [eqV,peq,bi])
 |str b =>
  simp only [ye] at r;subst r
  refine ⟨rfl,fun w y hw rw=>?_⟩
  cases w <;> first|(simp [IC.flat] at hw;done)|(simp only [ye] at rw;subst rw;simp [eqV,peq,bi])
 |_=>simp [IC.flat] at h
theorem zdf {K:PySem.W.Frag}{cl:Nat->Addr}{v:PV}{x:V}(r:ye K cl B φ H v x)(h:IC.flat v=true):∀{vs:List PV} {xs:List V},yo K cl B φ H vs xs->vs.all IC.flat=true->xs.all yap=true/\inV x xs=inL v vs
 | [],xs,l,_=>by simp only [yo] at l;subst l;exact ⟨rfl,rfl⟩
 |w::vs,xs,l,f=>by
  simp only [yo] at l
  obtain ⟨y,ys,rfl,rw,l⟩:=l
  rw [List.all_cons,Bool.and_eq_true] at f
  obtain ⟨q1,q2⟩:=zdf r h l f.2
  obtain ⟨q3,q4⟩:=rw.flat f.1
  refine ⟨by rw [List.all_cons,q3,q1];rfl,?_⟩
  unfold inV at q2 ⊢
  rw [List.any_cons,q2,q4 v x h r]
  rfl
end
theorem znv (a b:Str):(!(Builtin.Str.occurrences b a 0 b.length 1).isEmpty)=inS a b:=by
 rw [Bool.eq_iff_iff,StrLaws.found_iff]
 unfold inS
 rw [List.any_eq_true]
 constructor
 ·rintro ⟨i,h1,h2⟩
  exact ⟨i,by rw [List.mem_range];omega,by rw [Bool.and_eq_true,decide_eq_true_eq];exact ⟨h1,h2⟩⟩
 ·rintro ⟨i,_,h⟩
  rw [Bool.and_eq_true,decide_eq_true_eq] at h
  exact ⟨i,h.1,h.2⟩
section
variable {S:Se}{X:Cx}{σ:St}{B:Addr->Prop}{φ φ1:Ph}{H H1:Hp}{st:Store}
theorem zlL:OpR X (compareOp .In) (rT2 S X (cmpV .isin)):=by
 rintro pins s σ H x y v u Q I rx ry ⟨B,φ,st,a,b,z,rs,ra,rb,e,q⟩
 simp only [cmpV] at e
 split at e
 ·rename_i i j
  simp only [ye] at ra rb
  subst ra rb
  cases e
  exact zku pins s σ H _ _ v u Q I rx ry ⟨i,j,rfl,rfl,by rw [znv];exact q _ H φ .rfl rs (by simp only [ye])⟩
 ·rename_i l
  split at e
  ·rename_i c
   rw [Bool.and_eq_true] at c
   cases e
   simp only [ye] at rb
   obtain ⟨p,xs,rfl,r,l'⟩:=rb
   obtain ⟨q1,q2⟩:=zdf ra c.1 l' c.2
   exact zhr pins s σ H _ _ v u Q I rx ry ⟨p,xs,rfl,.inr r.sq,(ra.flat c.1).1,q1,q _ H φ .rfl rs (by simp only [ye];rw [<- q2];rfl)⟩
  ·cases e
 ·rename_i l
  split at e
  ·rename_i c
   rw [Bool.and_eq_true] at c
   cases e
   simp only [ye] at rb
   obtain ⟨p,xs,rfl,r,l'⟩:=rb
   obtain ⟨q1,q2⟩:=zdf ra c.1 l' c.2
   exact zhr pins s σ H _ _ v u Q I rx ry ⟨p,xs,rfl,.inl r.sq,(ra.flat c.1).1,q1,q _ H φ .rfl rs (by simp only [ye];rw [<- q2];rfl)⟩
  ·cases e
 ·cases e
theorem yo.empty {K:PySem.W.Frag}{cl:Nat->Addr}{vs:List PV}{xs:List V}(l:yo K cl B φ H vs xs):vs.isEmpty=xs.isEmpty:=by
 have:=l.length
 cases vs <;> cases xs <;> simp_all
theorem zm6 {K:PySem.W.Frag}{cl:Nat->Addr}{v:PV}{x:V}{k:Bool}(rs:yw K cl B φ H st)(r:ye K cl B φ H v x)(h:truV st v=some k):yeb K x H k:=by
 cases v with
 |non=>simp only [ye] at r;subst r;cases h;rfl
 |bl b=>simp only [ye] at r;subst r;cases h;rfl
 |int b=>simp only [ye] at r;subst r;cases h;rfl
 |str b =>
  simp only [ye] at r;subst r
  simp only [truV] at h
  split at h
  ·rename_i c
   cases h
   exact ⟨by rw [<- zaY];exact c,rfl⟩
  ·cases h
 |tp k vs =>
  simp only [ye] at r
  obtain ⟨a,xs,rfl,rt,l⟩:=r
  cases h
  exact .inr (.inl ⟨xs,rt.sq,by rw [l.empty]⟩)
 |lst vs =>
  simp only [ye] at r
  obtain ⟨a,xs,rfl,rt,l⟩:=r
  cases h
  exact .inl ⟨xs,rt.sq,by rw [l.empty]⟩
 |loc n =>
  simp only [ye] at r
  obtain ⟨hn,a,rfl,ha⟩:=r
  simp only [truV] at h
  split at h
  ·rename_i vs hv
   cases h
   obtain ⟨b,hb⟩:=rs.liv n _ hv (by intro z;cases z)
   obtain rfl:=ha b hb
   obtain ⟨o,ho,ro⟩:=rs.obj n b hb
   rw [hv] at ho;cases ho
   obtain ⟨xs,hx,l⟩:=ro
   exact .inl ⟨xs,.of hx,by rw [l.empty]⟩
  ·cases h
 |exn c=>cases h
 |scr c=>cases h
end
theorem R.bind_assoc {α β γ:Type}{r:R α}{k:α->Store->R β}{l:β->Store->R γ}:(r.bind k).bind l=r.bind fun a s=>(k a s).bind l:=by
 cases r <;> rfl
section
variable {S:Se}{X:Cx}{σ:St}{B:Addr->Prop}{φ φ1:Ph}{H H1:Hp}{st:Store}{ρ:IC.Env}{pos:Pos}{a b c d:Expr}{ca cb cc:Ce}{es:List Expr}{ces:Ces}
theorem zg7 {o:COp}{v w z:PV}(h:cmpV o v w=some z):∃k,z=.bl k:=by
 cases o <;> simp only [cmpV] at h
 all_goals (repeat' split at h) <;> first|(cases h;done)|(cases h;exact ⟨_,rfl⟩)|skip
 all_goals (simp only [cmpI] at h;cases h;exact ⟨_,rfl⟩)
theorem zD {op:CmpOp}{o:COp}(ho:OpR X (compareOp op) (rT2 S X (cmpV o)))(ha:KqE X a (tE S X ca))(hb:KqE X b (tE S X cb))(hm:behindInMarks op b=false):KqT X (.Compare a [op] [b] pos) (tTs S X (.cmp o ca cb)):= by
 with_unfolding_all
 exact PT.imp (zkY ho ha hb hm) fun σ H Q ⟨B,φ,st,ρ,rs,re,h⟩=>by
  simp only [ev,yaR,R.bind_assoc] at h
  refine tE.bind rs re h fun x H1 v st1 φ1 s1 rs1 re1 rv h1=>tE.bind rs1 re1 h1 fun y H2 w st2 φ2 s2 rs2 re2 rw h2=>?_
  cases e:cmpV o v w with
  |none=>rw [e] at h2;exact h2.elim
  |some z =>
   obtain ⟨k,rfl⟩:=zg7 e
   rw [e] at h2
   refine ⟨B,φ2,st2,v,w,.bl k,rs2,rv.step s2,rw,e,fun z' H' φ' s' rs' rz=>?_⟩
   simp only [ye] at rz
   exact ⟨k,rz,h2 k H' φ' s' rs' rfl⟩
theorem zai (ha:KqE X a (tE S X ca))(he:∀whole,isTrue a X.env whole=(do let v <- whole;standAt a.pos;holding [v] (truthy v)):=by intro _;rfl):KqT X a (tTs S X ca):= by
 with_unfolding_all
 exact PT.imp (zmt ha he) fun σ H Q ⟨B,φ,st,ρ,rs,re,h⟩=>by
  simp only [yaR] at h
  refine tE.bind rs re h fun x H1 v st1 φ1 s1 rs1 re1 rv h1=>?_
  cases e:truV st1 v with
  |none=>rw [e] at h1;exact h1.elim
  |some k =>
   rw [e] at h1
   exact ⟨k,zm6 rs1 rv e,h1.ok rs1 rfl⟩
theorem tTs.bind {γ δ:Type}{Rel2:Ph->Hp->γ->δ->Prop}{k:Bool->Store->R γ}{Q:δ->Hp->Prop}{P:Bool->Hp->Prop}(rs:yw X.K S.cl B φ H st)(re:yF X.K S.cl B φ H ρ σ)(h:Run S X σ B φ H Rel2 ((yaR (ev S.call ρ st ca)).bind k) Q)
  (n:∀b H1 st1 φ1,Step φ H φ1 H1->yw X.K S.cl B φ1 H1 st1->yF X.K S.cl B φ1 H1 ρ σ->Run S X σ B φ1 H1 Rel2 (k b st1) Q->P b H1):tTs S X ca σ H P :=
 ⟨B,φ,st,ρ,rs,re,(Run.bind h).mono fun x H1 ⟨v,st1,φ1,s,rs1,rv,h1⟩=>by
  subst rv
  exact n v H1 st1 φ1 s rs1 (re.step s) h1⟩
theorem zib (r:R PV)(f:Bool->Store->R PV):yaR (r.bind fun x st1=>onBl x fun b=>f b st1)=r.bind fun x st1=>onBl x fun b=>yaR (f b st1):=by
 unfold yaR
 rw [R.bind_assoc]
 congr 1
 funext x st1
 cases x <;> rfl
theorem Run.bl_tru {r:R PV}{k:Bool->Store->R Bool}{Q:Bool->Hp->Prop}(h:Run S X σ B φ H RB (r.bind fun x st1=>onBl x fun b=>k b st1) Q):Run S X σ B φ H RB ((yaR r).bind k) Q:=by
 cases r with
 |bad=>exact h
 |exc c s=>exact h
 |ok v s =>
  cases v with
  |bl b=>exact h
  |_=>exact h.elim
theorem zax (ha:KqT X a (tTs S X ca)):KqT X (.UnaryOp .Not a pos) (tTs S X (.not ca)):= by
 with_unfolding_all
 exact PT.imp (zoO ha) fun σ H Q ⟨B,φ,st,ρ,rs,re,h⟩=>by
  simp only [ev] at h
  rw [zib _ fun k st1=>.ok (.bl (!k)) st1] at h
  exact tTs.bind rs re (Run.bl_tru (k:=fun b st1=>.ok (!b) st1) h) fun b H1 st1 φ1 s1 rs1 re1 h1=>h1.ok rs1 rfl
variable {rest:List Expr}
theorem zb2 (ha:KqT X a (tTs S X ca)):KqW X (.BoolOp .And [a] pos) (tTs S X ca):= by
 with_unfolding_all
 exact zog ha
theorem zbG (ha:KqT X a (tTs S X ca)):KqW X (.BoolOp .Or [a] pos) (tTs S X ca):= by
 with_unfolding_all
 exact zoE ha
theorem zc2 (ha:KqT X a (tTs S X ca))(hb:KqW X (.BoolOp .And (b::rest) pos) (tTs S X cb)):KqW X (.BoolOp .And (a::b::rest) pos) (tTs S X (.and ca cb)):= by
 with_unfolding_all
 exact PW.imp (zoR ha hb) fun σ H Q ⟨B,φ,st,ρ,rs,re,h⟩=>by
  simp only [ev] at h
  rw [zib _ fun k st1=>cond k (ev S.call ρ st1 cb) (.ok (.bl false) st1)] at h
  refine tTs.bind rs re (Run.bl_tru h) fun k H1 st1 φ1 s1 rs1 re1 h1=>?_
  cases k with
  |false=>exact h1.ok rs1 rfl
  |true=>exact ⟨B,φ1,st1,ρ,rs1,re1,h1⟩
theorem zbP (ha:KqT X a (tTs S X ca))(hb:KqW X (.BoolOp .Or (b::rest) pos) (tTs S X cb)):KqW X (.BoolOp .Or (a::b::rest) pos) (tTs S X (.or ca cb)):= by
 with_unfolding_all
 exact PW.imp (zpH ha hb) fun σ H Q ⟨B,φ,st,ρ,rs,re,h⟩=>by
  simp only [ev] at h
  rw [zib _ fun k st1=>cond k (.ok (.bl true) st1) (ev S.call ρ st1 cb)] at h
  refine tTs.bind rs re (Run.bl_tru h) fun k H1 st1 φ1 s1 rs1 re1 h1=>?_
  cases k with
  |true=>exact h1.ok rs1 rfl
  |false=>exact ⟨B,φ1,st1,ρ,rs1,re1,h1⟩
theorem zaG {op:BoolOp}(h:KqE X a (tE S X ca)):KqE X (.BoolOp op [a] pos) (tE S X ca):= by
 with_unfolding_all
 exact zoL h
theorem zap (ha:KqE X a (tE S X ca))(hb:KqE X (.BoolOp .And (b::rest) pos) (tE S X cb)):KqE X (.BoolOp .And (a::b::rest) pos) (tE S X (.and ca cb)):= by
 with_unfolding_all
 exact PE.imp (zpj ha hb) fun σ H Q ⟨B,φ,st,ρ,rs,re,h⟩=>by
  simp only [ev] at h
  refine tE.bind rs re h fun x H1 v st1 φ1 s1 rs1 re1 rv h1=>?_
  cases v with
  |bl k =>
   simp only [ye] at rv
   refine ⟨k,rv,?_⟩
   cases k with
   |true=>exact ⟨B,φ1,st1,ρ,rs1,re1,h1⟩
   |false=>exact h1.ok rs1 (by simp only [ye])
  |_=>exact h1.elim
theorem zfG (ha:KqE X a (tE S X ca))(hb:KqE X (.BoolOp .Or (b::rest) pos) (tE S X cb)):KqE X (.BoolOp .Or (a::b::rest) pos) (tE S X (.or ca cb)):= by
 with_unfolding_all
 exact PE.imp (zpu ha hb) fun σ H Q ⟨B,φ,st,ρ,rs,re,h⟩=>by
  simp only [ev] at h
  refine tE.bind rs re h fun x H1 v st1 φ1 s1 rs1 re1 rv h1=>?_
  cases v with
  |bl k =>
   simp only [ye] at rv
   refine ⟨k,rv,?_⟩
   cases k with
   |false=>exact ⟨B,φ1,st1,ρ,rs1,re1,h1⟩
   |true=>exact h1.ok rs1 (by simp only [ye])
  |_=>exact h1.elim
theorem zg4 (ha:KqE X a (tE S X ca)):KqE X (.UnaryOp .Not a pos) (tE S X (.not ca)):= by
 with_unfolding_all
 exact PE.imp (zoT ha) fun σ H Q ⟨B,φ,st,ρ,rs,re,h⟩=>by
  simp only [ev] at h
  refine tE.bind rs re h fun x H1 v st1 φ1 s1 rs1 re1 rv h1=>?_
  cases v with
  |bl k =>
   simp only [ye] at rv
   exact ⟨k,rv,h1.ok rs1 (by simp only [ye])⟩
  |_=>exact h1.elim
theorem zgI (ha:KqE X a (tE S X ca)):KqE X (.UnaryOp .USub a pos) (tE S X (.neg ca)):= by
 with_unfolding_all
 exact PE.imp (zpx zpa ha) fun σ H Q ⟨B,φ,st,ρ,rs,re,h⟩=>by
  simp only [ev] at h
  refine tE.bind rs re h fun x H1 v st1 φ1 s1 rs1 re1 rv h1=>?_
  split at h1
  ·simp only [ye] at rv
   exact ⟨_,rv,h1.ok rs1 (by simp only [ye])⟩
  ·exact h1.elim
theorem zlz (hc:KqT X c (tTs S X cc))(ha:KqE X a (tE S X ca))(hb:KqE X b (tE S X cb)):KqE X (.IfExp c a b pos) (tE S X (.ite cc ca cb)):= by
 with_unfolding_all
 exact PE.imp (zmy hc ha hb) fun σ H Q ⟨B,φ,st,ρ,rs,re,h⟩=>by
  simp only [ev] at h
  have e:((ev S.call ρ st cc).bind fun x st1=>onO (truV st1 x) fun k=>cond k (ev S.call ρ st1 ca) (ev S.call ρ st1 cb))=(yaR (ev S.call ρ st cc)).bind fun k st1=>cond k (ev S.call ρ st1 ca) (ev S.call ρ st1 cb):=by
   unfold yaR
   rw [R.bind_assoc]
   congr 1
   funext x st1
   cases truV st1 x <;> rfl
  rw [e] at h
  refine tTs.bind rs re h fun k H1 st1 φ1 s1 rs1 re1 h1=>?_
  cases k with
  |true=>exact ⟨B,φ1,st1,ρ,rs1,re1,h1⟩
  |false=>exact ⟨B,φ1,st1,ρ,rs1,re1,h1⟩
theorem zhB:PA X [] (tAs S X .nil):=yaw.imp fun σ H Q ⟨B,φ,st,ρ,rs,re,h⟩=>by
 simp only [evs] at h
 exact h.ok rs (by simp only [yo])
theorem zj:KqA X [] (tAs S X .nil):=by with_unfolding_all exact zhB
theorem zfT (ha:PE X a (tE S X ca))(hr:PA X es (tAs S X ces))(hs:starEach (a::es) X.env=(false,eval a X.env)::starEach es X.env:=by rfl):PA X (a::es) (tAs S X (.cons ca ces)) :=
 (zbC ha hr hs).imp fun σ H Q ⟨B,φ,st,ρ,rs,re,h⟩=>by
  simp only [evs] at h
  refine tE.bind rs re h fun x H1 v st1 φ1 s1 rs1 re1 rv h1=>tAs.bind rs1 re1 h1 fun xs H2 vs st2 φ2 s2 rs2 re2 rvs h2=>?_
  refine h2.ok rs2 ?_
  simp only [yo]
  exact ⟨x,xs,rfl,rv.step s2,rvs⟩
theorem zc (ha:KqE X a (tE S X ca))(hr:KqA X es (tAs S X ces))(hs:starEach (a::es) X.env=(false,eval a X.env)::starEach es X.env:=by rfl):KqA X (a::es) (tAs S X (.cons ca ces)):=by with_unfolding_all exact zfT ha hr hs
theorem zB {k:Nat}(h:KqA X es (tAs S X ces)):KqE X (.Tuple es k pos) (tE S X (.tup ces)):= by
 with_unfolding_all
 exact PE.imp (zlu h) fun σ H Q ⟨B,φ,st,ρ,rs,re,h⟩=>by
  simp only [ev] at h
  refine tAs.bind rs re h fun xs H1 vs st1 φ1 s1 rs1 re1 rv h1=>?_
  split at h1
  ·rename_i c
   refine ⟨by rw [<- zaY,<- rv.length];exact c,fun p hp=>h1 _ _ φ1 (.upd hp) (rs1.upd hp) (.tup_new hp rs1 rv)⟩
  ·exact h1.elim
theorem zeH (h:KqA X es (tAs S X ces)):KqE X (.List es pos) (tE S X (.lst ces)):= by
 with_unfolding_all
 exact PE.imp (zmJ h) fun σ H Q ⟨B,φ,st,ρ,rs,re,h⟩=>by
  simp only [ev] at h
  refine tAs.bind rs re h fun xs H1 vs st1 φ1 s1 rs1 re1 rv h1=>?_
  split at h1
  ·rename_i c
   refine ⟨by rw [<- zaY,<- rv.length];exact c,fun p hp=>h1 _ _ φ1 (.upd hp) (rs1.upd hp) (.lst_new hp rs1 rv)⟩
  ·exact h1.elim
theorem Step.push {p:Addr}{o:HO}(hp:H p=none):Step φ H (φ++[some p]) (L2.upd H p o):=by
 refine ⟨fun b u n e=>by rw [zH (zO e hp)];exact e,by simp,fun n a hn e=>?_,fun b h=>?_⟩
 ·rw [List.getElem?_append_left hn] at e
  exact e
 ·rw [List.mem_append] at h
  rcases h with h|h
  ·exact .inl h
  ·have:b=p:=by simpa using h
   subst this
   exact .inr hp
theorem yw.push {K:PySem.W.Frag}{cl:Nat->Addr}{p:Addr}{u:HO}{o:Ob}(rs:yw K cl B φ H st)(hp:H p=none)(hb:¬B p)(ho:yck K cl B (φ++[some p]) (L2.upd H p u) o p):yw K cl B (φ++[some p]) (L2.upd H p u) (st++[o]):=by
 have s:Step φ H (φ++[some p]) (L2.upd H p u):=.push hp
 have np:some p∉φ:=fun z=>by
  obtain ⟨w,e⟩:=rs.there z
  rw [hp] at e;cases e
 have hl:φ.length=st.length:=rs.len
 refine ⟨by simp [hl],fun m n a e1 e2=>?_,fun n a e=>?_,fun n o' e ho'=>?_,fun a h=>?_,fun a h=>?_⟩
 ·by_cases hm:m<φ.length
  ·rw [List.getElem?_append_left hm] at e1
   by_cases hn:n<φ.length
   ·rw [List.getElem?_append_left hn] at e2
    exact rs.inj m n a e1 e2
   ·rw [List.getElem?_append_right (by omega)] at e2
    have:a=p:=by
     cases q:n - φ.length with
     |zero=>rw [q] at e2;simpa using e2.symm
     |succ k=>rw [q] at e2;simp at e2
    subst this
    exact absurd (List.mem_of_getElem? e1) np
  ·rw [List.getElem?_append_right (by omega)] at e1
   have:m - φ.length=0/\a=p:=by
    cases q:m - φ.length with
    |zero=>rw [q] at e1;exact ⟨rfl,by simpa using e1.symm⟩
    |succ k=>rw [q] at e1;simp at e1
   obtain ⟨q1,rfl⟩:=this
   by_cases hn:n<φ.length
   ·rw [List.getElem?_append_left hn] at e2
    exact absurd (List.mem_of_getElem? e2) np
   ·rw [List.getElem?_append_right (by omega)] at e2
    have:n - φ.length=0:=by
     cases q:n - φ.length with
     |zero=>rfl
     |succ k=>rw [q] at e2;simp at e2
    omega
 ·by_cases hn:n<φ.length
  ·rw [List.getElem?_append_left hn] at e
   obtain ⟨o',q,r⟩:=rs.obj n a e
   refine ⟨o',by rw [List.getElem?_append_left (by omega)];exact q,r.step s ?_⟩
   rw [zH]
   rintro rfl
   exact np (List.mem_of_getElem? e)
  ·rw [List.getElem?_append_right (by omega)] at e
   have:n - φ.length=0/\a=p:=by
    cases q:n - φ.length with
    |zero=>rw [q] at e;exact ⟨rfl,by simpa using e.symm⟩
    |succ k=>rw [q] at e;simp at e
   obtain ⟨q1,rfl⟩:=this
   refine ⟨o,?_,ho⟩
   rw [List.getElem?_append_right (by omega)]
   have:n - st.length=0:=by omega
   rw [this];rfl
 ·by_cases hn:n<φ.length
  ·rw [List.getElem?_append_left (by omega)] at e
   obtain ⟨a,q⟩:=rs.liv n o' e ho'
   exact ⟨a,by rw [List.getElem?_append_left hn];exact q⟩
  ·rw [List.getElem?_append_right (by omega)] at e
   have:n - st.length=0:=by
    cases q:n - st.length with
    |zero=>rfl
    |succ k=>rw [q] at e;simp at e
   refine ⟨p,?_⟩
   rw [List.getElem?_append_right (by omega)]
   have:n - φ.length=0:=by omega
   rw [this];rfl
 ·rw [List.mem_append] at h
  rcases h with h|h
  ·exact rs.nb a h
  ·have:a=p:=by simpa using h
   subst this
   exact hb
 ·obtain ⟨w,e⟩:=rs.dom a h
  exact ⟨w,by rw [zH (zO e hp)];exact e⟩
theorem yw.nB {K:PySem.W.Frag}{cl:Nat->Addr}{p:Addr}(rs:yw K cl B φ H st)(hp:H p=none):¬B p:=fun z=>by
 obtain ⟨o,e⟩:=rs.dom p z
 rw [hp] at e;cases e
theorem ye.loc_new {K:PySem.W.Frag}{cl:Nat->Addr}{p:Addr}(rs:yw K cl B φ H st):ye K cl B (φ++[some p]) H1 (.loc st.length) (.ref p):=by
 simp only [ye]
 have hl:=rs.len
 refine ⟨by simp [hl],p,rfl,fun b e=>?_⟩
 rw [List.getElem?_append_right (by omega)] at e
 have:st.length - φ.length=0:=by omega
 rw [this] at e
 simpa using e.symm
theorem zdl (h:KqA X es (tAs S X ces)):KqE X (.List es pos) (tE S X (.newl ces)):= by
 with_unfolding_all
 exact PE.imp (zmJ h) fun σ H Q ⟨B,φ,st,ρ,rs,re,h⟩=>by
  simp only [ev] at h
  refine tAs.bind rs re h fun xs H1 vs st1 φ1 s1 rs1 re1 rv h1=>?_
  split at h1
  ·rename_i c
   refine ⟨by rw [<- zaY,<- rv.length];exact c,fun p hp=>h1 _ _ (φ1++[some p]) (.push hp) (rs1.push hp (rs1.nB hp) ⟨xs,zU,rv.step (.push hp)⟩) (.loc_new rs1)⟩
  ·exact h1.elim
end
section
variable {S:Se}{X:Cx}{σ:St}{B:Addr->Prop}{φ φ1:Ph}{H H1:Hp}{st:Store}{ρ:IC.Env}{pos p2:Pos}{a b c d:Expr}{ca cb cc:Ce}{es:List Expr}{ces:Ces}{K:PySem.W.Frag}{cl:Nat->Addr}
theorem zkO {o:COp}{v w:PV}{α β:Type}{Rel:Ph->Hp->α->β->Prop}{k:Bool->R α}{Q:β->Hp->Prop}(h:Run S X σ B φ H Rel (onO (blO (cmpV o v w)) k) Q):∃b,cmpV o v w=some (.bl b)/\Run S X σ B φ H Rel (k b) Q:=by
 cases e:cmpV o v w with
 |none=>rw [e] at h;exact h.elim
 |some z =>
  obtain ⟨b,rfl⟩:=zg7 e
  rw [e] at h
  exact ⟨b,rfl,h⟩
theorem zeW {op op':CmpOp}{o p:COp}(ho:OpR X (compareOp op) (rT2 S X (cmpV o)))(ho':OpR X (compareOp op') (rT2 S X (cmpV p)))(ha:KqE X a (tE S X ca))(hb:KqE X b (tE S X cb))(hc:KqE X c (tE S X cc))
  (hm:lastMarks [op,op'] [b,c]=false:=by with_unfolding_all rfl):KqE X (.Compare a [op,op'] [b,c] pos) (tE S X (.chain o p ca cb cc)):= by
 with_unfolding_all
 exact PE.imp (zlT ho ho' ha hb hc hm) fun σ H Q ⟨B,φ,st,ρ,rs,re,h⟩=>by
  simp only [ev] at h
  refine tE.bind rs re h fun x H1 v st1 φ1 s1 rs1 re1 rv h1=>tE.bind rs1 re1 h1 fun y H2 w st2 φ2 s2 rs2 re2 rw h2=>?_
  obtain ⟨k,e,h2⟩:=zkO h2
  refine ⟨B,φ2,st2,v,w,.bl k,rs2,rv.step s2,rw,e,fun z' H' φ' s' rs' rz=>?_⟩
  simp only [ye] at rz
  refine ⟨k,rz,?_⟩
  cases k with
  |false=>exact h2 _ H' φ' s' rs' (by simp only [ye])
  |true =>
   refine tE.bind rs' (re2.step s') (Run.on s' h2) fun z H3 v3 st3 φ3 s3 rs3 re3 rv3 h3=>?_
   obtain ⟨q,eq,hq⟩:=zbp h3 rs3
   exact ⟨B,φ3,st3,w,v3,q,rs3,(rw.step s').step s3,rv3,eq,hq⟩
theorem zjh {op op':CmpOp}{o p:COp}(ho:OpR X (compareOp op) (rT2 S X (cmpV o)))(ho':OpR X (compareOp op') (rT2 S X (cmpV p)))(ha:KqE X a (tE S X ca))(hb:KqE X b (tE S X cb))(hc:KqE X c (tE S X cc))
  (hm:lastMarks [op,op'] [b,c]=false:=by with_unfolding_all rfl):KqT X (.Compare a [op,op'] [b,c] pos) (tTs S X (.chain o p ca cb cc)):= by
 with_unfolding_all
 exact PT.imp (zlR ho ho' ha hb hc hm) fun σ H Q ⟨B,φ,st,ρ,rs,re,h⟩=>by
  simp only [ev,yaR,R.bind_assoc] at h
  refine tE.bind rs re h fun x H1 v st1 φ1 s1 rs1 re1 rv h1=>tE.bind rs1 re1 h1 fun y H2 w st2 φ2 s2 rs2 re2 rw h2=>?_
  have h2':Run S X σ B φ2 H2 RB (onO (blO (cmpV o v w)) fun k=>cond k ((ev S.call ρ st2 cc).bind fun z st3=>(toR (cmpV p w z) st3).bind fun x st=>onO (truV st x) fun b=>.ok b st) (.ok false st2)) Q:=by
   cases e:cmpV o v w with
   |none=>rw [e] at h2;exact h2
   |some z =>
    obtain ⟨b,rfl⟩:=zg7 e
    rw [e] at h2
    cases b with
    |false=>exact h2
    |true =>
     simp only [blO,onO,cond_true,R.bind_assoc] at h2 ⊢
     exact h2
  obtain ⟨k,e,h2⟩:=zkO h2'
  refine ⟨B,φ2,st2,v,w,.bl k,rs2,rv.step s2,rw,e,fun z' H' φ' s' rs' rz=>?_⟩
  simp only [ye] at rz
  refine ⟨k,rz,?_⟩
  cases k with
  |false=>exact ⟨false,rfl,h2 _ H' φ' s' rs' rfl⟩
  |true =>
   refine tE.bind rs' (re2.step s') (Run.on s' h2) fun z H3 v3 st3 φ3 s3 rs3 re3 rv3 h3=>?_
   cases eq:cmpV p w v3 with
   |none=>rw [eq] at h3;exact h3.elim
   |some q =>
    obtain ⟨b,rfl⟩:=zg7 eq
    rw [eq] at h3
    refine ⟨B,φ3,st3,w,v3,.bl b,rs3,(rw.step s').step s3,rv3,eq,fun z2 H4 φ4 s4 rs4 rz4=>?_⟩
    simp only [ye] at rz4
    exact ⟨b,rz4,h3 b H4 φ4 s4 rs4 rfl⟩
theorem yo.at {vs:List PV}{xs:List V}{i:Int}{v:PV}(l:yo K cl B φ H vs xs)(h:at? vs i=some v):∃x,atI xs i=some x/\ye K cl B φ H v x:=by
 unfold at? at h
 rw [l.length] at h
 unfold atI
 cases e:ixI xs.length i with
 |none=>rw [e] at h;cases h
 |some j =>
  rw [e] at h
  have e':ixN xs.length i=some j:=e
  rw [e']
  exact l.get j h
theorem yw.list {n:Nat}{vs:List PV}{x:V}(rs:yw K cl B φ H st)(r:ye K cl B φ H (.loc n) x)(h:st[n]?=some (.lst vs)):∃a xs,x=.ref a/\φ[n]?=some (some a)/\H a=some (.lst xs)/\yo K cl B φ H vs xs:=by
 simp only [ye] at r
 obtain ⟨hn,a,rfl,ha⟩:=r
 obtain ⟨b,hb⟩:=rs.liv n _ h (by intro z;cases z)
 obtain rfl:=ha b hb
 obtain ⟨o,ho,ro⟩:=rs.obj n b hb
 rw [h] at ho;cases ho
 obtain ⟨xs,hx,l⟩:=ro
 exact ⟨b,xs,rfl,hb,hx,l⟩
noncomputable def rTS (S:Se)(X:Cx)(f:Store->PV->PV->Option PV):R2:=fun x y H Q=>∃B φ st v w z,yw X.K S.cl B φ H st/\ye X.K S.cl B φ H v x/\ye X.K S.cl B φ H w y/\f st v w=some z /\
 ∀z' H' φ',Step φ H φ' H'->yw X.K S.cl B φ' H' st->ye X.K S.cl B φ' H' z z'->Q z' H'
theorem zfl {α:Type}{xs:List α}{i:PV}{z:α}(h:idxI xs i=some z):∃k,i=.int k/\at? xs k=some z:=by
 cases i with
 |int k=>exact ⟨k,rfl,h⟩
 |_=>cases h
theorem znU:IxR X (rTS S X idxV):=by
 rintro value slice pins s σ H x y v u Q I rx ry ⟨B,φ,st,a,i,z,rs,ra,ri,e,q⟩ hs
 cases a with
 |tp k vs =>
  obtain ⟨k,rfl,e⟩:=zfl e
  simp only [ye] at ra ri
  subst ri
  obtain ⟨p,xs,rfl,rt,l⟩:=ra
  obtain ⟨w,e1,rw⟩:=l.at e
  exact zjc value slice pins s σ H _ _ v u Q I rx ry (.inr (.inl ⟨p,xs,k,w,rfl,rfl,rt.sq,e1,q w H φ .rfl rs rw⟩)) hs
 |lst vs =>
  obtain ⟨k,rfl,e⟩:=zfl e
  simp only [ye] at ra ri
  subst ri
  obtain ⟨p,xs,rfl,rt,l⟩:=ra
  obtain ⟨w,e1,rw⟩:=l.at e
  exact zjc value slice pins s σ H _ _ v u Q I rx ry (.inl ⟨p,xs,k,w,rfl,rfl,rt.sq,e1,q w H φ .rfl rs rw⟩) hs
 |loc n =>
  simp only [idxV] at e
  split at e
  ·rename_i vs h1
   obtain ⟨k,rfl,e⟩:=zfl e
   simp only [ye] at ri
   subst ri
   obtain ⟨p,xs,rfl,_,hx,l⟩:=rs.list ra h1
   obtain ⟨w,e1,rw⟩:=l.at e
   exact zjc value slice pins s σ H _ _ v u Q I rx ry (.inl ⟨p,xs,k,w,rfl,rfl,.of hx,e1,q w H φ .rfl rs rw⟩) hs
  ·cases e
 |str t =>
  simp only [idxV] at e
  split at e
  ·rename_i hl
   cases e1:idxI t.cps.toList i with
   |none=>rw [e1] at e;cases e
   |some c =>
    rw [e1] at e
    cases e
    obtain ⟨k,rfl,e1⟩:=zfl e1
    simp only [ye] at ra ri
    subst ra ri
    exact zjc value slice pins s σ H _ _ v u Q I rx ry (.inr (.inr ⟨t,k,c,rfl,rfl,by rw [<- zaY];exact hl,e1,q _ H φ .rfl rs (by simp only [ye])⟩)) hs
  ·cases e
 |_=>cases e
theorem zp (ha:KqE X a (tE S X ca))(hb:KqE X b (tE S X cb))(hs:ybW b:=by exact fun _ _=>rfl):KqE X (.Subscript a b pos) (tE S X (.idx ca cb)):= by
 with_unfolding_all
 exact PE.imp (zpD znU ha hb hs) fun σ H Q ⟨B,φ,st,ρ,rs,re,h⟩=>by
  simp only [ev] at h
  refine tE.bind rs re h fun x H1 v st1 φ1 s1 rs1 re1 rv h1=>tE.bind rs1 re1 h1 fun y H2 w st2 φ2 s2 rs2 re2 rw h2=>?_
  obtain ⟨z,e,q⟩:=zbp h2 rs2
  exact ⟨B,φ2,st2,v,w,z,rs2,rv.step s2,rw,e,q⟩
theorem yo.cut {vs:List PV}{xs:List V}(lo hi:Option Int)(l:yo K cl B φ H vs xs):yo K cl B φ H (IC.cut vs lo hi) (yct xs lo hi):=by
 have e1:∀n o,ycw n o=HT.sIx n 0 o:=fun n o=>by cases o <;> rfl
 have e2:∀n o,ycL n o=HT.sIx n n o:=fun n o=>by cases o <;> rfl
 unfold IC.cut yct
 rw [l.length,e1,e2]
 exact (l.drop _).take _
noncomputable def tO (S:Se)(X:Cx)(c:Ce):TO:=fun σ H Q=>tE S X c σ H fun x H1=>(x=.non/\Q none H1) \/ ∃i,x=.int i/\Q (some i) H1
theorem znS:PO X none (tO S X (.cst .non)):=fun pins s σ H Q I h=>by
 refine znn pins s σ H Q I ?_
 obtain ⟨B,φ,st,ρ,rs,re,h⟩:=h
 simp only [ev] at h
 rcases h.ok rs (x:=V.non) (by simp only [ye]) with q|⟨i,z,_⟩
 ·exact q.2
 ·cases z
theorem z9:KqO X none (tO S X (.cst .non)):=by with_unfolding_all exact znS
theorem zab (ha:KqE X a (tE S X ca)):KqO X (some a) (tO S X ca):= by
 with_unfolding_all
 intro pins s σ H Q I hw
 rw [evalPart_some]
 refine thn (ha pins s σ H _ I hw) fun u s1 ⟨x,H1,I1,r1,q1⟩=>?_
 rcases q1 with ⟨rfl,q⟩|⟨i,rfl,q⟩
 ·cases r1
  exact ⟨none,H1,I1,.none,q⟩
 ·obtain ⟨t,rfl⟩:=r1
  exact ⟨some i,H1,I1,.int i t,q⟩
noncomputable def rSl (S:Se)(X:Cx):V->Option Int->Option Int->Hp->VK->Prop:=fun x lo hi H Q=>∃B φ st v z,yw X.K S.cl B φ H st/\ye X.K S.cl B φ H v x/\yaZ v lo hi=some z /\
 ∀z' H' φ',Step φ H φ' H'->yw X.K S.cl B φ' H' st->ye X.K S.cl B φ' H' z z'->Q z' H'
theorem zd6 {prog:Program}{w:World}{A:Around}{E:Value->Shared->Prop}{s:Shared}{t sl:Addr}{items:Array Value}{vl vu:Value}{lo hi:Option Int}{Q:Value->Shared->Prop}(ht:IsTup s.heap t items)(hs:s.heap.IsSliceOf sl vl vu .none)(pl:IsPart vl lo)(pu:IsPart vu hi)
  (hw:HT.sIx items.size 0 lo=0/\HT.sIx items.size items.size hi=items.size)
  (h:Q (.ref t) s):wpAny (model prog w) A (getItem (.ref t) (.ref sl)) Q E s:=by
 obtain ⟨os,hos,hcs,hds⟩:=id hs
 have hTs:s.TypeIs (.ref sl) "slice":=⟨os,hos,hcs⟩
 unfold getItem
 try with_reducible refine wpAny_holding ?_
 first|refine wpAny_bind (wpAny_pure ?_)|skip
 refine wpAny_bind (wpAny_sequenceKey ht.typeIs (by decide) ?_)
 refine wpAny_bind (wpAny_callSpecial?_slot (name:=Str.ofString "__getitem__") ht.typeIs PyProof.Rows.slot_tuple_getitem
  (wpAny_call_entry PyProof.Rows.slot_tuple_getitem ht.typeIs entry_tuple_getitem ?_ (args_tuple_getitem _ _)))
 show wpAny _ _ (Builtin.Tuple.tupleItemsOf (.ref t) >>= _) _ _ s
 refine wpAny_bind (PyProof.Rows.tupleItemsOf_ ht ?_)
 refine wpAny_bind (wpAny_typeOf hTs ?_)
 rw [if_pos (by decide)]
 refine wpAny_bind (HT.sliceApplied_gen hs pl pu ?_)
 have hyes:(((HT.sIx items.size 0 lo:Nat):Int) == 0 && (1:Int) == 1 && (HT.sIx items.size items.size hi - HT.sIx items.size 0 lo) == items.size)=true:=by
  rw [hw.1,hw.2]
  simp
 show wpAny _ _ (if (((HT.sIx items.size 0 lo:Nat):Int) == 0 && (1:Int) == 1 && (HT.sIx items.size items.size hi - HT.sIx items.size 0 lo) == items.size)=true then _ else _) _ _ s
 rw [if_pos hyes]
 refine wpAny_bind (wpAny_bind (wpAny_typeOf ht.typeIs (wpAny_pure ?_)))
 rw [if_pos (by decide)]
 first
  | exact wpAny_bind (wpAny_pure (wpAny_pure ⟨_,rfl,wpAny_pure h⟩))
  | exact wpAny_bind (wpAny_rule (wpAny_pure ⟨_,rfl,wpAny_pure h⟩))
  | (wp_step;wp_step;exact ⟨_,rfl,wpAny_pure h⟩)
noncomputable def yfe (K:PySem.W.Frag):V->Option Int->Option Int->Hp->VK->Prop:=fun x lo hi H Q=>∃a xs,x=.ref a/\SqT K H a xs /\
 (HT.sIx xs.length 0 lo=0/\HT.sIx xs.length xs.length hi=xs.length)/\Q (.ref a) H
theorem zmm:SlR X (yfe X.K):=by
 intro pins s σ H x v vl vu lo hi sl Q I rx hs pl pu h
 obtain ⟨a,xs,rfl,hx,hw,q⟩:=h
 cases rx
 obtain ⟨its,r,ht,hz⟩:=I.tuple hx
 have hlen:its.toArray.size=xs.length:=by rw [List.size_toArray];exact r.length.symm
 refine ⟨"tuple",_,PyProof.Rows.slot_tuple_getitem.lookup,ht.typeIs,?_⟩
 exact zd6 ht hs pl pu (by rw [hlen];exact hw) ⟨.ref a,H,I,rfl,q⟩
noncomputable def yfA:V->Option Int->Option Int->Hp->VK->Prop:=fun x lo hi H Q=>∃y:Str,x=.str y/\y.length<=sizeLine/\Q (.str ⟨((y.cps.toList.drop (HT.sIx y.cps.toList.length 0 lo)).take (HT.sIx y.cps.toList.length y.cps.toList.length hi - HT.sIx y.cps.toList.length 0 lo)).toArray⟩) H
theorem yfG (lo hi:Option Int)(n:Nat):Builtin.Str.strSliceIndices lo hi 1 n=sliceRange ((HT.sIx n 0 lo:Nat):Int) ((HT.sIx n n hi:Nat):Int) 1:=by
 unfold Builtin.Str.strSliceIndices
 simp only [show (1:Int) > 0 by decide,if_true]
 congr 1
 ·cases lo with
  |none=>simp [HT.sIx]
  |some i =>
   simp only [HT.sIx]
   by_cases h:i<0
   ·simp only [h,if_true] <;> omega
   ·simp only [h,if_false] <;> omega
 ·cases hi with
  |none=>simp [HT.sIx]
  |some i =>
   simp only [HT.sIx]
   by_cases h:i<0
   ·simp only [h,if_true] <;> omega
   ·simp only [h,if_false] <;> omega
theorem zjS (y:Str)(lo hi:Option Int):Txt.slice y lo hi=⟨((y.cps.toList.drop (HT.sIx y.cps.toList.length 0 lo)).take (HT.sIx y.cps.toList.length y.cps.toList.length hi - HT.sIx y.cps.toList.length 0 lo)).toArray⟩:=by
 have hn:y.length=y.cps.toList.length:=by simp [Str.length]
 unfold Txt.slice
 rw [yfG,hn,sliceRange_one]
 have ha:=HT.sIx_le y.cps.toList.length 0 (Nat.zero_le _) lo
 have hb:=HT.sIx_le y.cps.toList.length y.cps.toList.length (Nat.le_refl _) hi
 generalize HT.sIx y.cps.toList.length 0 lo=a at *
 generalize HT.sIx y.cps.toList.length y.cps.toList.length hi=b at *
 split
 ·rename_i c
  simp only [List.length_map,List.length_range,Bool.and_eq_true,beq_iff_eq] at c
  obtain ⟨rfl,rfl⟩:a=0/\b=y.cps.toList.length:=by omega
  rw [List.drop_zero,Nat.sub_zero,List.take_length]
 ·rw [pick_run]
theorem zod:SlR X yfA:=by
 intro pins s σ H x v vl vu lo hi sl Q I rx hs pl pu h
 obtain ⟨y,rfl,hz,q⟩:=h
 obtain ⟨t,rfl⟩:=rx
 rw [<- zjS] at q
 refine ⟨"str",_,PySem.F.slot_str_getitem.lookup,typeIs_str _ _ _,?_⟩
 have go:∀l u:Option (Int×Tok),vl=partValue l->vu=partValue u->lo=l.map (·.1)->hi=u.map (·.1)->wpAny (model X.prog X.w) X.A (getItem (.str y t) (.ref sl)) (EP X pins σ Q) X.xe s:=by
  rintro l u rfl rfl rfl rfl
  refine wpAny_getItem_str_slice (l:=l) (u:=u) (st:=none) hs rfl ?_
  exact post_val_or_str ⟨Nat.le_trans (Txt.slice_le y _ _) hz,fun t' k=>⟨.str _,H,I.tok k,⟨_,rfl⟩,q⟩⟩
 cases pl with
 |none =>
  cases pu with
  |none=>exact go none none rfl rfl rfl rfl
  |int j u=>exact go none (some (j,u)) rfl rfl rfl rfl
 |int i t1 =>
  cases pu with
  |none=>exact go (some (i,t1)) none rfl rfl rfl rfl
  |int j u=>exact go (some (i,t1)) (some (j,u)) rfl rfl rfl rfl
theorem znx:SlR X (rSl S X):=by
 rintro pins s σ H x v vl vu lo hi sl Q I rx hs pl pu ⟨B,φ,st,w,z,rs,rw,e,q⟩
 have e1:∀n o,ycw n o=HT.sIx n 0 o:=fun n o=>by cases o <;> rfl
 have e2:∀n o,ycL n o=HT.sIx n n o:=fun n o=>by cases o <;> rfl
 cases w with
 |tp k vs =>
  simp only [yaZ] at e
  split at e
  ·rename_i c
   cases e
   have rw':=rw
   simp only [ye] at rw
   obtain ⟨p,xs,rfl,rt,l⟩:=rw
   refine zmm pins s σ H _ v vl vu lo hi sl Q I rx hs pl pu ⟨p,xs,rfl,rt.sq,?_,q _ H φ .rfl rs rw'⟩
   rw [l.length,e1,e2] at c
   exact c
  ·rename_i c
   cases e
   simp only [ye] at rw
   obtain ⟨p,xs,rfl,rt,l⟩:=rw
   refine zoC pins s σ H _ v vl vu lo hi sl Q I rx hs pl pu ⟨p,xs,rfl,rt.sq,?_,fun t ht=>q _ _ φ (.upd ht) (rs.upd ht) (.tup_new ht rs (l.cut lo hi))⟩
   rw [l.length,e1,e2] at c
   exact c
 |str y =>
  simp only [yaZ] at e
  split at e
  ·rename_i c
   cases e
   simp only [ye] at rw
   subst rw
   refine zod pins s σ H _ v vl vu lo hi sl Q I rx hs pl pu ⟨y,rfl,by rw [<- zaY];exact c,?_⟩
   have:=q (.str ⟨(cut y.cps.toList lo hi).toArray⟩) H φ .rfl rs (by simp only [ye])
   rw [cut,e1,e2] at this
   exact this
  ·cases e
 |lst vs =>
  simp only [yaZ] at e
  cases e
  simp only [ye] at rw
  obtain ⟨p,xs,rfl,rt,l⟩:=rw
  exact zjV pins s σ H _ v vl vu lo hi sl Q I rx hs pl pu ⟨p,xs,rfl,rt.sq,fun t ht=>q _ _ φ (.upd ht) (rs.upd ht) (.lst_new ht rs (l.cut lo hi))⟩
 |scr vs =>
  simp only [yaZ] at e
  cases e
  simp only [ye] at rw
  obtain ⟨p,xs,rfl,rt,l⟩:=rw
  exact zjV pins s σ H _ v vl vu lo hi sl Q I rx hs pl pu ⟨p,xs,rfl,(by rcases rt with rt|rt;exact .inl rt.1;exact .inr rt),fun t ht=>q _ _ φ (.upd ht) (rs.upd ht) (.lst_new ht rs (l.cut lo hi))⟩
 |_=>cases e
theorem zaq {lo hi:Option Expr}(ha:KqE X a (tE S X ca))(hl:KqO X lo (tO S X cb))(hh:KqO X hi (tO S X cc)):KqE X (.Subscript a (.Slice lo hi none p2) pos) (tE S X (.slc ca cb cc)):= by
 with_unfolding_all
 exact PE.imp (zmz znx ha hl hh) fun σ H Q ⟨B,φ,st,ρ,rs,re,h⟩=>by
  simp only [ev] at h
  have oi:∀{v:PV} {x:V} {o:Option Int} {B φ H},ye X.K S.cl B φ H v x->ycd v=some o->(x=.non/\o=none) \/ ∃i,x=.int i/\o=some i:=fun {v x o B φ H} r e=>by
   cases v with
   |non=>simp only [ye] at r;cases e;exact .inl ⟨r,rfl⟩
   |int i=>simp only [ye] at r;cases e;exact .inr ⟨i,r,rfl⟩
   |_=>cases e
  refine tE.bind rs re h fun x H1 v st1 φ1 s1 rs1 re1 rv h1=>tE.bind rs1 re1 h1 fun y H2 w st2 φ2 s2 rs2 re2 rw h2=>?_
  cases eo:ycd w with
  |none=>rw [eo] at h2;exact h2.elim
  |some o1 =>
   rw [eo] at h2
   have key:tO S X cc σ H2 fun u H3=>rSl S X x o1 u H3 Q:=by
    refine tE.bind rs2 re2 h2 fun y' H3 w' st3 φ3 s3 rs3 re3 rw' h3=>?_
    obtain ⟨z,e,q⟩:=zbp h3 rs3
    unfold ycx at e
    cases eo':ycd w' with
    |none=>rw [eo'] at e;cases e
    |some o2 =>
     rw [eo'] at e
     have fin:rSl S X x o1 o2 H3 Q:=⟨B,φ3,st3,v,z,rs3,(rv.step s2).step s3,e,q⟩
     rcases oi rw' eo' with ⟨rfl,rfl⟩|⟨i,rfl,rfl⟩
     ·exact .inl ⟨rfl,fin⟩
     ·exact .inr ⟨i,rfl,fin⟩
   rcases oi rw eo with ⟨rfl,rfl⟩|⟨i,rfl,rfl⟩
   ·exact .inl ⟨rfl,key⟩
   ·exact .inr ⟨i,rfl,key⟩
end
section
variable {S:Se}{X:Cx}{σ:St}{B:Addr->Prop}{φ φ1:Ph}{H H1:Hp}{st:Store}{ρ:IC.Env}{p pos p2:Pos}{a b c d:Expr}{ca cb cc:Ce}{es:List Expr}{ces:Ces}{K:PySem.W.Frag}{cl:Nat->Addr}
noncomputable def rB (S:Se)(X:Cx)(k:Blt):List V->Hp->VK->Prop:=fun xs H Q=>∃B φ st vs z,yw X.K S.cl B φ H st/\yo X.K S.cl B φ H vs xs/\yaf k st vs=some z /\
 ∀z' H' φ',Step φ H φ' H'->yw X.K S.cl B φ' H' st->ye X.K S.cl B φ' H' z z'->Q z' H'
theorem yo.one {v:PV}{xs:List V}(l:yo K cl B φ H [v] xs):∃x,xs=[x]/\ye K cl B φ H v x:=by
 simp only [yo] at l
 obtain ⟨y,ys,rfl,r,rfl⟩:=l
 exact ⟨y,rfl,r⟩
theorem yo.two {v w:PV}{xs:List V}(l:yo K cl B φ H [v,w] xs):∃x y,xs=[x,y]/\ye K cl B φ H v x/\ye K cl B φ H w y:=by
 simp only [yo] at l
 obtain ⟨y,ys,rfl,r,z,zs,rfl,r2,rfl⟩:=l
 exact ⟨y,z,rfl,r,r2⟩
theorem zeL {k:Blt}{st:Store}{vs:List PV}{z:PV}(h:yaf k st vs=some z)(h2:∀x y,yaf k st [x,y]=none):∃x,vs=[x]:=by
 match vs,h with
 | [x],_=>exact ⟨x,rfl⟩
 | [x,y],h=>rw [h2] at h;cases h
theorem zep {v:PV}{x:V}{vs:List PV}(rs:yw K cl B φ H st)(r:ye K cl B φ H v x)(h:yG st v=some vs):∃a xs,x=.ref a/\SqL K H a xs/\yo K cl B φ H vs xs:=by
 cases v with
 |lst ws =>
  cases h
  simp only [ye] at r
  obtain ⟨a,xs,rfl,rt,l⟩:=r
  exact ⟨a,xs,rfl,rt.sq,l⟩
 |loc n =>
  simp only [yG] at h
  split at h
  ·rename_i ws hw
   cases h
   obtain ⟨a,xs,rfl,_,hx,l⟩:=rs.list r hw
   exact ⟨a,xs,rfl,.of hx,l⟩
  ·cases h
 |_=>cases h
theorem zli {v:PV}{x:V}{vs:List PV}(rs:yw K cl B φ H st)(r:ye K cl B φ H v x)(h:yay st v=some vs):∃a xs,x=.ref a/\(SqL K H a xs \/ SqT K H a xs)/\yo K cl B φ H vs xs:=by
 cases v with
 |tp k ws =>
  cases h
  simp only [ye] at r
  obtain ⟨a,xs,rfl,rt,l⟩:=r
  exact ⟨a,xs,rfl,.inr rt.sq,l⟩
 |lst ws =>
  obtain ⟨a,xs,e,q,l⟩:=zep rs r (vs:=vs) h
  exact ⟨a,xs,e,.inl q,l⟩
 |loc n =>
  obtain ⟨a,xs,e,q,l⟩:=zep rs r (vs:=vs) h
  exact ⟨a,xs,e,.inl q,l⟩
 |_=>cases h
theorem zaJ:yad X (.builtin "len") (rB S X .len):=by
 rintro pins s σ H xs us Q I r ⟨B,φ,st,vs,z,rs,l,e,q⟩
 obtain ⟨v,rfl⟩:=zeL e fun _ _=>rfl
 obtain ⟨x,rfl,rv⟩:=l.one
 simp only [yaf,lenV] at e
 split at e
 ·rename_i t
  split at e
  ·rename_i c
   cases e
   simp only [ye] at rv
   subst rv
   exact zhj pins s σ H _ us Q I r ⟨t,rfl,by rw [<- zaY];exact c,q _ H φ .rfl rs (by simp only [ye])⟩
  ·cases e
 ·cases e1:yay st v with
  |none=>rw [e1] at e;cases e
  |some ws =>
   rw [e1] at e
   cases e
   obtain ⟨a,ys,rfl,h,l⟩:=zli rs rv e1
   refine zhh pins s σ H _ us Q I r ⟨a,ys,rfl,?_,q _ H φ .rfl rs (by simp only [ye];rw [l.length])⟩
   exact h
theorem zom:yad X (.type "int") (rB S X .int):=by
 rintro pins s σ H xs us Q I r ⟨B,φ,st,vs,z,rs,l,e,q⟩
 obtain ⟨v,rfl⟩:=zeL e fun _ _=>rfl
 obtain ⟨x,rfl,rv⟩:=l.one
 simp only [yaf] at e
 cases v with
 |int i =>
  cases e
  simp only [ye] at rv
  subst rv
  exact zhf pins s σ H _ us Q I r (.inl ⟨i,rfl,q _ H φ .rfl rs (by simp only [ye])⟩)
 |bl k =>
  cases e
  simp only [ye] at rv
  subst rv
  exact zhf pins s σ H _ us Q I r (.inr ⟨k,rfl,q _ H φ .rfl rs (by simp only [ye,bi])⟩)
 |_=>cases e
theorem znC {k:Blt}{st:Store}{vs:List PV}{z:PV}(h:yaf k st vs=some z)(h2:∀x,yaf k st [x]=none):∃x y,vs=[x,y]:=by
 match vs,h with
 | [x,y],_=>exact ⟨x,y,rfl⟩
 | [x],h=>rw [h2] at h;cases h
theorem zo1 (hc:X.calm=true):yad X (.builtin "min") (rB S X .min):=by
 rintro pins s σ H xs us Q I r ⟨B,φ,st,vs,z,rs,l,e,q⟩
 obtain ⟨v,w,rfl⟩:=znC e fun _=>rfl
 obtain ⟨x,y,rfl,rv,rw⟩:=l.two
 simp only [yaf,yeO] at e
 split at e
 ·cases e
  simp only [ye] at rv rw
  subst rv rw
  exact zj6 hc pins s σ H _ us Q I r ⟨_,_,rfl,q _ H φ .rfl rs (by simp only [ye])⟩
 ·cases e
theorem yo.ints:∀{ns:List Int} {xs:List V},yo K cl B φ H (ns.map .int) xs->xs=ns.map V.int
 | [],xs,h=>by simpa only [List.map_nil,yo] using h
 |n::ns,xs,h=>by
  simp only [List.map_cons,yo] at h
  obtain ⟨y,ys,rfl,r,l⟩:=h
  simp only [ye] at r
  rw [r,yo.ints l]
  rfl
theorem yo.bls:∀{ns:List Bool} {xs:List V},yo K cl B φ H (ns.map .bl) xs->xs=ns.map V.bl
 | [],xs,h=>by simpa only [List.map_nil,yo] using h
 |n::ns,xs,h=>by
  simp only [List.map_cons,yo] at h
  obtain ⟨y,ys,rfl,r,l⟩:=h
  simp only [ye] at r
  rw [r,yo.bls l]
  rfl
theorem ziB:yad X (.type "tuple") (rB S X .tuple):=by
 rintro pins s σ H xs us Q I r ⟨B,φ,st,vs,z,rs,l,e,q⟩
 obtain ⟨v,rfl⟩:=zeL e fun _ _=>rfl
 obtain ⟨x,rfl,rv⟩:=l.one
 simp only [yaf,yep] at e
 split at e
 ·cases e
  simp only [ye] at rv
  obtain ⟨a,ys,rfl,rt,l⟩:=rv
  exact zeE pins s σ H _ us Q I r ⟨a,ys,rfl,.inr ⟨rt.sq,q _ H φ .rfl rs (by simp only [ye];exact ⟨a,ys,rfl,rt,l⟩)⟩⟩
 ·cases e1:yG st v with
  |none=>rw [e1] at e;cases e
  |some ws =>
   rw [e1] at e
   cases e
   obtain ⟨a,ys,rfl,h,l⟩:=zep rs rv e1
   exact zeE pins s σ H _ us Q I r ⟨a,ys,rfl,.inl ⟨h,fun t ht=>q _ _ φ (.upd ht) (rs.upd ht) (.tup_new ht rs l)⟩⟩
theorem zof:yad X (.type "list") (rB S X .list):=by
 rintro pins s σ H xs us Q I r ⟨B,φ,st,vs,z,rs,l,e,q⟩
 obtain ⟨v,rfl⟩:=zeL e fun _ _=>rfl
 obtain ⟨x,rfl,rv⟩:=l.one
 simp only [yaf] at e
 cases e1:yay st v with
 |none=>rw [e1] at e;cases e
 |some ws =>
  rw [e1] at e
  cases e
  obtain ⟨a,ys,rfl,h,l⟩:=zli rs rv e1
  refine ze6 pins s σ H _ us Q I r ⟨a,ys,rfl,?_,fun t ht=>q _ _ φ (.upd ht) (rs.upd ht) (.lst_new ht rs l)⟩
  exact h
theorem zmR:∀{vs:List PV} {m:Bool},IC.allB vs=some m->∃ns:List Bool,vs=ns.map .bl/\m=ns.all id
 | [],m,h=>by cases h;exact ⟨[],rfl,rfl⟩
 | .bl i::r,m,h=>by
  simp only [IC.allB] at h
  split at h
  ·rename_i c e
   cases h
   obtain ⟨ns,e1,e2⟩:=zmR e
   exact ⟨i::ns,by rw [e1];rfl,by rw [e2];rfl⟩
  ·cases h
 | .non::r,m,h=>by cases h
 | .int _::r,m,h=>by cases h
 | .str _::r,m,h=>by cases h
 | .tp _ _::r,m,h=>by cases h
 | .lst _::r,m,h=>by cases h
 | .loc _::r,m,h=>by cases h
 | .exn _::r,m,h=>by cases h
 | .scr _::r,m,h=>by cases h
theorem zmY (hc:X.calm=true):yad X (.builtin "all") (rB S X .all):=by
 rintro pins s σ H xs us Q I r ⟨B,φ,st,vs,z,rs,l,e,q⟩
 obtain ⟨v,rfl⟩:=zeL e fun _ _=>rfl
 obtain ⟨x,rfl,rv⟩:=l.one
 simp only [yaf] at e
 cases e1:yG st v with
 |none=>rw [e1] at e;cases e
 |some ws =>
  rw [e1] at e
  simp only [Option.bind_some] at e
  cases e2:IC.allB ws with
  |none=>rw [e2] at e;cases e
  |some m =>
   rw [e2] at e
   cases e
   obtain ⟨ns,rfl,rfl⟩:=zmR e2
   obtain ⟨a,ys,rfl,h,l⟩:=zep rs rv e1
   rw [l.bls] at h
   exact zmi hc pins s σ H _ us Q I r ⟨a,ns,rfl,h,q _ H φ .rfl rs (by simp only [ye])⟩
variable {x:Str}{id T:String}{k:Blt}
theorem zV (hc:yad X (.builtin id) (rB S X k))(hg:Gl X x)(hm:X.mg x=none)(hv:bootBuiltins x=some (.builtin id))(ha:KqA X (a::es) (tAs S X ces))(hn:x ≠ "__name__":=by decide)(hdb:(x == ("__debug__":Str))=false:=by decide)
  (he:starEach (a::es) X.env=(false,eval a X.env)::starEach es X.env:=by rfl) (hpl:(backTo pos (starEach es X.env)).any (·.1)=false:=by rfl):KqE X (.Call (.Name x p) (a::es) [] pos) (tE S X (.blt k ces)):= by
 with_unfolding_all
 exact PE.imp (zfi hc hg hm hv ha hn hdb he hpl) fun σ H Q ⟨B,φ,st,ρ,rs,re,h⟩=>by
  simp only [ev] at h
  refine tAs.bind rs re h fun xs H1 vs st1 φ1 s1 rs1 re1 rv h1=>?_
  obtain ⟨z,e,q⟩:=zbp h1 rs1
  exact ⟨B,φ1,st1,vs,z,rs1,rv,e,q⟩
theorem zez (hc:yad X (.type T) (rB S X k))(hg:Gl X x)(hm:X.mg x=none)(hv:bootBuiltins x=some (.type T))(ha:KqA X (a::es) (tAs S X ces))(hn:x ≠ "__name__":=by decide)(hdb:(x == ("__debug__":Str))=false:=by decide)
  (he:starEach (a::es) X.env=(false,eval a X.env)::starEach es X.env:=by rfl) (hpl:(backTo pos (starEach es X.env)).any (·.1)=false:=by rfl):KqE X (.Call (.Name x p) (a::es) [] pos) (tE S X (.blt k ces)):= by
 with_unfolding_all
 exact PE.imp (zhz hc hg hm hv ha hn hdb he hpl) fun σ H Q ⟨B,φ,st,ρ,rs,re,h⟩=>by
  simp only [ev] at h
  refine tAs.bind rs re h fun xs H1 vs st1 φ1 s1 rs1 re1 rv h1=>?_
  obtain ⟨z,e,q⟩:=zbp h1 rs1
  exact ⟨B,φ1,st1,vs,z,rs1,rv,e,q⟩
end
section
variable {S:Se}{X:Cx}{σ:St}{B:Addr->Prop}{φ φ1:Ph}{H H1:Hp}{st:Store}{ρ:IC.Env}{p pos p2 apos:Pos}{a b c d:Expr}{ca cb cc:Ce}{es:List Expr}{ces:Ces}{K:PySem.W.Frag}{cl:Nat->Addr}
theorem Step.put {l:Addr}{u:HO}(hl:some l∈φ):Step φ H φ (L2.upd H l u) :=
 ⟨fun b o n e=>by rw [zH (show b≠l from fun z=>n (by rw [z];exact hl))];exact e,Nat.le_refl _,fun _ _ _ e=>e,fun _ h=>.inl h⟩
theorem yw.put {n:Nat}{l:Addr}{u:HO}{o:Ob}(rs:yw K cl B φ H st)(hn:φ[n]?=some (some l))(ho:yck K cl B φ (L2.upd H l u) o l):yw K cl B φ (L2.upd H l u) (st.set n o):=by
 have hm:some l∈φ:=List.mem_of_getElem? hn
 have s:Step φ H φ (L2.upd H l u):=.put hm
 have hlt:n<st.length:=by rw [<- rs.len];exact (List.getElem?_eq_some_iff.mp hn).1
 refine ⟨by rw [List.length_set];exact rs.len,rs.inj,fun m a e=>?_,fun m o' e ho'=>?_,rs.nb,fun a h=>?_⟩
 ·by_cases hmn:m=n
  ·subst hmn
   rw [hn] at e;cases e
   exact ⟨o,by rw [List.getElem?_set_self hlt],ho⟩
  ·obtain ⟨o',q,r⟩:=rs.obj m a e
   refine ⟨o',by rw [List.getElem?_set_ne (Ne.symm hmn)];exact q,r.step s ?_⟩
   rw [zH]
   rintro rfl
   exact hmn (rs.inj m n a e hn)
 ·by_cases hmn:m=n
  ·subst hmn
   exact ⟨l,hn⟩
  ·rw [List.getElem?_set_ne (Ne.symm hmn)] at e
   exact rs.liv m o' e ho'
 ·obtain ⟨w,e⟩:=rs.dom a h
  by_cases z:a=l
  ·subst z;exact ⟨u,zU⟩
  ·exact ⟨w,by rw [zH z];exact e⟩
theorem ybr:1000000<=sizeLine:=by rw [sizeLine_eq];decide
theorem zfQ {m:Mth}{v:PV}{st:Store}{α β:Type}{Rel:Ph->Hp->α->β->Prop}{k:Bool->R α}{Q:β->Hp->Prop}(h:Run S X σ B φ H Rel (onO (yV m st v) k) Q):∃b,yV m st v=some b/\Run S X σ B φ H Rel (k b) Q:=by
 cases e:yV m st v with
 |none=>rw [e] at h;exact h.elim
 |some z=>rw [e] at h;exact ⟨z,rfl,h⟩
theorem zc4 (ha:KqE X a (tE S X ca))(hb:KqE X b (tE S X cb))(hs:starEach [b] X.env=[(false,eval b X.env)]:=by rfl)(hbase:attributeBase a "append" X.env (eval a X.env)=eval a X.env:=by rfl)(hline:(apos.endLine == pos.line)=true:=by rfl)
  (hfew:((backTo pos (starEach [b] X.env)).all (fun x=>!x.1) && (backToKw pos (keywordEach [] X.env)).all (fun x=>x.1.isSome) && decide (([b]:List Expr).length+([]:List Keyword).length+(if ([]:List Keyword).isEmpty then 0 else 1)<30))=true:=by rfl) :
  KqE X (.Call (.Attribute a "append" apos) [b] [] pos) (tE S X (.mth .append ca (.cons cb .nil))):= by
 with_unfolding_all
 exact PE.imp (zmx PySem.F.plainAttrs_list PySem.F.slot_list_append PySem.F.type_list_append zhK ha (zfT (S:=S) hb zhB hs) hbase hfew hline hs rfl) fun σ H Q ⟨B,φ,st,ρ,rs,re,h⟩=>by
  simp only [ev] at h
  refine tE.bind rs re h fun x H1 v st1 φ1 s1 rs1 re1 rv h1=>?_
  obtain ⟨_,e1,h1⟩:=zfQ h1
  have t1:∃ws,yG st1 v=some ws:=by
   simp only [yV] at e1
   cases q:yG st1 v with
   |none=>rw [q] at e1;cases e1
   |some ws=>exact ⟨ws,rfl⟩
  obtain ⟨ws,t1⟩:=t1
  obtain ⟨l,xs,rfl,hl,_⟩:=zep rs1 rv t1
  refine ⟨.inl ⟨rfl,xs,hl⟩,tAs.bind rs1 re1 h1 fun ys H2 vs st2 φ2 s2 rs2 re2 rvs h2=>?_⟩
  have rv2:=rv.step s2
  rcases vs with _|⟨w,_|⟨w',t⟩⟩
  ·exact h2.elim
  ·obtain ⟨y,rfl,rw⟩:=rvs.one
   simp only [yaI,yer] at h2
   split at h2
   ·rename_i n
    split at h2
    ·rename_i zs hz
     split at h2
     ·rename_i c
      obtain ⟨l',xs',e,hn,hx,lr⟩:=rs2.list rv2 hz
      cases e
      refine ⟨l,xs',y,rfl,rfl,hx,by have:=ybr;have:=lr.length;omega,?_⟩
      exact h2 _ _ φ2 (.put (List.mem_of_getElem? hn)) (rs2.put hn ⟨_,zU,(lr.append (by simp only [yo];exact ⟨y,[],rfl,rw,rfl⟩)).step (.put (List.mem_of_getElem? hn))⟩) (by simp only [ye])
     ·exact h2.elim
    ·exact h2.elim
   ·exact h2.elim
  ·exact h2.elim
theorem zd2 (ha:KqE X a (tE S X ca))(hb:KqE X b (tE S X cb))(hs:starEach [b] X.env=[(false,eval b X.env)]:=by rfl)(hbase:attributeBase a "extend" X.env (eval a X.env)=eval a X.env:=by rfl)(hline:(apos.endLine == pos.line)=true:=by rfl)
  (hfew:((backTo pos (starEach [b] X.env)).all (fun x=>!x.1) && (backToKw pos (keywordEach [] X.env)).all (fun x=>x.1.isSome) && decide (([b]:List Expr).length+([]:List Keyword).length+(if ([]:List Keyword).isEmpty then 0 else 1)<30))=true:=by rfl) :
  KqE X (.Call (.Attribute a "extend" apos) [b] [] pos) (tE S X (.mth .extend ca (.cons cb .nil))):= by
 with_unfolding_all
 exact PE.imp (zmx PySem.F.plainAttrs_list PySem.F.slot_list_extend PySem.F.type_list_extend zkm ha (zfT (S:=S) hb zhB hs) hbase hfew hline hs rfl) fun σ H Q ⟨B,φ,st,ρ,rs,re,h⟩=>by
  simp only [ev] at h
  refine tE.bind rs re h fun x H1 v st1 φ1 s1 rs1 re1 rv h1=>?_
  obtain ⟨_,e1,h1⟩:=zfQ h1
  have t1:∃ws,yG st1 v=some ws:=by
   simp only [yV] at e1
   cases q:yG st1 v with
   |none=>rw [q] at e1;cases e1
   |some ws=>exact ⟨ws,rfl⟩
  obtain ⟨ws,t1⟩:=t1
  obtain ⟨l,xs,rfl,hl,_⟩:=zep rs1 rv t1
  refine ⟨.inl ⟨rfl,xs,hl⟩,tAs.bind rs1 re1 h1 fun ys H2 vs st2 φ2 s2 rs2 re2 rvs h2=>?_⟩
  have rv2:=rv.step s2
  rcases vs with _|⟨w,_|⟨w',t⟩⟩
  ·exact h2.elim
  ·obtain ⟨y,rfl,rw⟩:=rvs.one
   simp only [yaI,yeD] at h2
   split at h2
   ·rename_i n
    split at h2
    ·rename_i zs hz
     split at h2
     ·rename_i ks
      split at h2
      ·rename_i c
       obtain ⟨l',xs',e,hn,hx,lr⟩:=rs2.list rv2 hz
       cases e
       simp only [ye] at rw
       obtain ⟨b',ys',rfl,rl,lr2⟩:=rw
       refine ⟨l,b',xs',ys',rfl,rfl,hx,rl.1,by have:=ybr;have:=lr.length;have:=lr2.length;omega,?_⟩
       exact h2 _ _ φ2 (.put (List.mem_of_getElem? hn)) (rs2.put hn ⟨_,zU,(lr.append lr2).step (.put (List.mem_of_getElem? hn))⟩) (by simp only [ye])
      ·exact h2.elim
     ·exact h2.elim
    ·exact h2.elim
   ·exact h2.elim
  ·exact h2.elim
theorem zmk (ha:KqE X a (tE S X ca)):KqE X a (tE S X (.frz ca)):= by
 with_unfolding_all
 exact ha.imp fun σ H Q ⟨B,φ,st,ρ,rs,re,h⟩=>by
  simp only [ev] at h
  refine tE.bind rs re h fun x H1 v st1 φ1 s1 rs1 re1 rv h1=>?_
  unfold ycU at h1
  split at h1
  ·rename_i n
   split at h1
   ·rename_i vs hv
    obtain ⟨l,xs,rfl,hn,hx,lr⟩:=rs1.list rv hv
    have hm:some l∈φ1:=List.mem_of_getElem? hn
    have hlt:n<φ1.length:=(List.getElem?_eq_some_iff.mp hn).1
    have nl:some l∉φ1.set n none:=fun z=>by
     obtain ⟨m,e⟩:=List.mem_iff_getElem?.mp z
     by_cases hmn:m=n
     ·subst hmn
      rw [List.getElem?_set_self hlt] at e;cases e
     ·rw [List.getElem?_set_ne (Ne.symm hmn)] at e
      exact hmn (rs1.inj m n l e hn)
    have sb:∀b,some b∈φ1.set n none->some b∈φ1:=fun b z=>by
     obtain ⟨m,e⟩:=List.mem_iff_getElem?.mp z
     by_cases hmn:m=n
     ·subst hmn
      rw [List.getElem?_set_self hlt] at e;cases e
     ·rw [List.getElem?_set_ne (Ne.symm hmn)] at e
      exact List.mem_of_getElem? e
    have s:Step φ1 H1 (φ1.set n none) H1:=⟨fun _ _ _ e=>e,by simp,fun m a hm' e=>by
     by_cases hmn:m=n
     ·subst hmn
      rw [List.getElem?_set_self hlt] at e;cases e
     ·rw [List.getElem?_set_ne (Ne.symm hmn)] at e
      exact e,fun b z=>.inl (sb b z)⟩
    refine h1 _ H1 (φ1.set n none) s ⟨by simp [rs1.len],fun m k a e1 e2=>?_,fun m a e=>?_,fun m o e ho=>?_,fun a z=>rs1.nb a (sb a z),rs1.dom⟩ ?_
    ·by_cases h1':m=n
     ·subst h1';rw [List.getElem?_set_self hlt] at e1;cases e1
     ·by_cases h2':k=n
      ·subst h2';rw [List.getElem?_set_self hlt] at e2;cases e2
      ·rw [List.getElem?_set_ne (Ne.symm h1')] at e1
       rw [List.getElem?_set_ne (Ne.symm h2')] at e2
       exact rs1.inj m k a e1 e2
    ·by_cases hmn:m=n
     ·subst hmn;rw [List.getElem?_set_self hlt] at e;cases e
     ·rw [List.getElem?_set_ne (Ne.symm hmn)] at e
      obtain ⟨o,q,r⟩:=rs1.obj m a e
      exact ⟨o,by rw [List.getElem?_set_ne (Ne.symm hmn)];exact q,r.step s rfl⟩
    ·by_cases hmn:m=n
     ·subst hmn
      rw [List.getElem?_set_self (by rw [<- rs1.len];exact hlt)] at e;cases e
      exact absurd rfl ho
     ·rw [List.getElem?_set_ne (Ne.symm hmn)] at e ⊢
      exact rs1.liv m o e ho
    ·simp only [ye]
     exact ⟨l,xs,rfl,⟨hx,rs1.nb l hm,nl⟩,lr.step s⟩
   ·exact h1.elim
  ·exact h1.ok rs1 rv
end
section
variable {S:Se}{X:Cx}{σ:St}{B:Addr->Prop}{φ φ1:Ph}{H H1:Hp}{st:Store}{ρ:IC.Env}{p pos p2 apos:Pos}{a b c d:Expr}{ca cb cc:Ce}{es:List Expr}{ces:Ces}{K:PySem.W.Frag}{cl:Nat->Addr}
end
section
variable {X:Cx}
theorem zkt {x:V}:∀{xs:List V} {us:List Value},Vals xs us->xs.all yap=true->us.countP (eqU x)=xs.countP fun y=>eqV y x
 |_,_,.nil,_=>rfl
 |y::xs,u::us,.cons r t,f=>by
  rw [List.all_cons,Bool.and_eq_true] at f
  rw [List.countP_cons,List.countP_cons,zho r f.1,zkt t f.2]
noncomputable def ydy:V->List V->Hp->VK->Prop:=fun x vs H Q=>∃l xs y,x=.ref l/\vs=[y]/\H l=some (.lst xs)/\yap y=true/\xs.all yap=true/\Q (.int (xs.countP fun z=>eqV z y)) H
theorem zmD:MtM X "list.count" ydy:=by
 intro pins s σ H x vs v us Q I rx rv h
 obtain ⟨l,xs,y,rfl,rfl,hH,fy,fs,q⟩:=h
 cases rx
 obtain ⟨w,rfl,rw⟩:=vals1 rv
 obtain ⟨z,its,n,r,hl,e⟩:=I.lstM hH
 refine call_meets F.slot_list_count ⟨_,e,rfl⟩ F.entry_list_count (F.args_list_count_2 _ _) (SeqAt.list_countAt l its.toArray n none #[] w (eqU y)) ⟨e,fun u hu=>zev rw fy r fs u (by simpa using hu),?_⟩
 refine ⟨.int _,H,I.tok _,⟨_,rfl⟩,?_⟩
 rw [show its.toArray.toList=its from rfl,zkt r fs]
 exact q
noncomputable def ydi:V->List V->Hp->VK->Prop:=fun x vs H Q=>∃l xs y j,x=.ref l/\vs=[y]/\H l=some (.lst xs)/\yap y=true/\xs.all yap=true/\(∃z,xs[j]?=some z/\eqV z y=true)/\(∀m z,m<j->xs[m]?=some z->eqV z y=false)/\Q (.int (j:Nat)) H
theorem ziR {xs:List V}{us:List Value}(h:Vals xs us):∀{m:Nat} {u:Value},us[m]?=some u->∃z,xs[m]?=some z/\RelV z u:=by
 induction h with
 |nil=>intro m u e;simp at e
 |cons r t ih =>
  intro m u e
  cases m with
  |zero=>simp at e;subst e;exact ⟨_,rfl,r⟩
  |succ m=>simp at e;obtain ⟨z,e1,e2⟩:=ih e;exact ⟨z,by simpa using e1,e2⟩
theorem zmC:MtM X "list.index" ydi:=by
 intro pins s σ H x vs v us Q I rx rv h
 obtain ⟨l,xs,y,j,rfl,rfl,hH,fy,fs,⟨z,hz,ez⟩,hno,q⟩:=h
 cases rx
 obtain ⟨w,rfl,rw⟩:=vals1 rv
 obtain ⟨hsz,its,n,r,hl,e⟩:=I.lstM hH
 have hj:j<its.length:=by
  have:=(List.getElem?_eq_some_iff.1 hz).1
  omega
 have flatAt:∀{m:Nat} {z:V},xs[m]?=some z->yap z=true:=fun {m z} hm=>List.all_eq_true.1 fs z (List.mem_of_getElem? hm)
 have sz:sizeLine<2 ^ 63 - 1:=by rw [sizeLine_eq];decide
 refine call_meets F.slot_list_index ⟨_,e,rfl⟩ F.entry_list_index (F.args_list_index_2 _ _) (SeqAt.list_indexAt l its.toArray n none #[] w (eqU y) j (by simpa using hj) (by omega) ?_ ?_) ⟨e,fun u hu=>zev rw fy r fs u (by simpa using hu),?_⟩
 ·obtain ⟨z',e1,r1⟩:=ziR r (m:=j) (u:=its[j]) (by simp [hj])
  rw [hz] at e1
  cases e1
  simp only [List.getElem_toArray]
  rw [zho r1 (flatAt hz)]
  exact ez
 ·intro m hm hlt
  have hm':m<its.length:=by simpa using hm
  obtain ⟨z',e1,r1⟩:=ziR r (m:=m) (u:=its[m]) (by simp [hm'])
  simp only [List.getElem_toArray]
  rw [zho r1 (flatAt e1)]
  exact hno m z' hlt e1
 ·exact ⟨.int _,H,I.tok _,⟨_,rfl⟩,q⟩
end
section
variable {S:Se}{X:Cx}{σ:St}{B:Addr->Prop}{φ φ1:Ph}{H H1:Hp}{st:Store}{ρ:IC.Env}{p pos p2 apos:Pos}{a b:Expr}{ca cb:Ce}{K:PySem.W.Frag}{cl:Nat->Addr}
theorem ziq {v:PV}{x:V}(r:ye K cl B φ H v x)(h:IC.flat v=true):∀{vs:List PV} {xs:List V},yo K cl B φ H vs xs->vs.all IC.flat=true->(xs.countP fun y=>eqV y x)=vs.countP fun y=>peq y v
 | [],xs,l,_=>by simp only [yo] at l;subst l;rfl
 |w::vs,xs,l,f=>by
  simp only [yo] at l
  obtain ⟨y,ys,rfl,rw,l⟩:=l
  rw [List.all_cons,Bool.and_eq_true] at f
  rw [List.countP_cons,List.countP_cons,ziq r h l f.2,(rw.flat f.1).2 v x h r]
theorem zit {v:PV}{x:V}(r:ye K cl B φ H v x)(h:IC.flat v=true):∀{vs:List PV} {xs:List V} {j:Nat},yo K cl B φ H vs xs->vs.all IC.flat=true->yb4 v vs=some j->(∃z,xs[j]?=some z/\eqV z x=true)/\∀m z,m<j->xs[m]?=some z->eqV z x=false
 | [],xs,j,l,_,e=>by cases e
 |w::vs,xs,j,l,f,e=>by
  simp only [yo] at l
  obtain ⟨y,ys,rfl,rw,l⟩:=l
  rw [List.all_cons,Bool.and_eq_true] at f
  have hq:=(rw.flat f.1).2 v x h r
  simp only [yb4] at e
  split at e
  ·rename_i c
   cases e
   exact ⟨⟨y,rfl,by rw [hq];exact c⟩,fun m z hm=>by omega⟩
  ·rename_i c
   cases e1:yb4 v vs with
   |none=>rw [e1] at e;cases e
   |some i =>
    rw [e1] at e
    cases e
    obtain ⟨q1,q2⟩:=zit r h l f.2 e1
    refine ⟨by simpa using q1,fun m z hm hz=>?_⟩
    cases m with
    |zero =>
     simp at hz
     subst hz
     rw [hq]
     simpa using c
    |succ m=>exact q2 m z (Nat.lt_of_succ_lt_succ hm) (by simpa using hz)
theorem zgz (ha:KqE X a (tE S X ca))(hb:KqE X b (tE S X cb))(hs:starEach [b] X.env=(false,eval b X.env)::starEach [] X.env:=by rfl)(hbase:attributeBase a "count" X.env (eval a X.env)=eval a X.env:=by rfl)(hline:(apos.endLine == pos.line)=true:=by rfl)(hany:(backTo pos (starEach [] X.env)).any (·.1)=false:=by rfl)
  (hfew:((backTo pos (starEach [b] X.env)).all (fun x=>!x.1) && (backToKw pos (keywordEach [] X.env)).all (fun x=>x.1.isSome) && decide (([b]:List Expr).length+([]:List Keyword).length+(if ([]:List Keyword).isEmpty then 0 else 1)<30))=true:=by rfl) :
  KqE X (.Call (.Attribute a "count" apos) [b] [] pos) (tE S X (.mth .count ca (.cons cb .nil))):= by
 with_unfolding_all
 exact PE.imp (zmx PySem.F.plainAttrs_list PySem.F.slot_list_count PySem.F.type_list_count zmD ha (zfT (S:=S) hb zhB hs) hbase hfew hline hs hany) fun σ H Q ⟨B,φ,st,ρ,rs,re,h⟩=>by
  simp only [ev] at h
  refine tE.bind rs re h fun x H1 v st1 φ1 s1 rs1 re1 rv h1=>?_
  obtain ⟨_,e1,h1⟩:=zfQ h1
  obtain ⟨ws,t1⟩:∃ws,yG st1 v=some ws:=by
   simp only [yV] at e1
   cases q:yG st1 v with
   |none=>rw [q] at e1;cases e1
   |some ws=>exact ⟨ws,rfl⟩
  obtain ⟨l,xs,rfl,hl,_⟩:=zep rs1 rv t1
  refine ⟨.inl ⟨rfl,xs,hl⟩,tAs.bind rs1 re1 h1 fun ys H2 vs st2 φ2 s2 rs2 re2 rvs h2=>?_⟩
  have rv2:=rv.step s2
  rcases vs with _|⟨w,_|⟨w',t⟩⟩
  ·exact h2.elim
  ·obtain ⟨y,rfl,rw⟩:=rvs.one
   simp only [yaI,yew] at h2
   cases t2:yG st2 v with
   |none=>rw [t2] at h2;exact h2.elim
   |some zs =>
    rw [t2] at h2
    dsimp only at h2
    split at h2
    ·rename_i c
     rw [Bool.and_eq_true] at c
     obtain ⟨l',xs',e',hl',lr⟩:=zep rs2 rv2 t2
     cases e'
     obtain ⟨q1,_⟩:=zdf rw c.1 lr c.2
     cases v with
     |loc n =>
      simp only [yG] at t2
      split at t2
      ·rename_i zs' hz
       cases t2
       obtain ⟨l2,xs2,e2,hn,hx,lr2⟩:=rs2.list rv2 hz
       cases e2
       obtain ⟨q1,_⟩:=zdf rw c.1 lr2 c.2
       exact ⟨l,xs2,y,rfl,rfl,hx,(rw.flat c.1).1,q1,h2.ok rs2 (by simp only [ye];rw [ziq rw c.1 lr2 c.2])⟩
      ·cases t2
     |lst zs' =>
      cases t2
      simp only [ye] at rv2
      obtain ⟨a',xs2,e2,⟨hx,_,_⟩,lr2⟩:=rv2
      cases e2
      obtain ⟨q1,_⟩:=zdf rw c.1 lr2 c.2
      exact ⟨l,xs2,y,rfl,rfl,hx,(rw.flat c.1).1,q1,h2.ok rs2 (by simp only [ye];rw [ziq rw c.1 lr2 c.2])⟩
     |_=>cases t2
    ·exact h2.elim
  ·exact h2.elim
theorem zgr (ha:KqE X a (tE S X ca))(hb:KqE X b (tE S X cb))(hs:starEach [b] X.env=(false,eval b X.env)::starEach [] X.env:=by rfl)(hbase:attributeBase a "index" X.env (eval a X.env)=eval a X.env:=by rfl)(hline:(apos.endLine == pos.line)=true:=by rfl)(hany:(backTo pos (starEach [] X.env)).any (·.1)=false:=by rfl)
  (hfew:((backTo pos (starEach [b] X.env)).all (fun x=>!x.1) && (backToKw pos (keywordEach [] X.env)).all (fun x=>x.1.isSome) && decide (([b]:List Expr).length+([]:List Keyword).length+(if ([]:List Keyword).isEmpty then 0 else 1)<30))=true:=by rfl) :
  KqE X (.Call (.Attribute a "index" apos) [b] [] pos) (tE S X (.mth .index ca (.cons cb .nil))):= by
 with_unfolding_all
 exact PE.imp (zmx PySem.F.plainAttrs_list PySem.F.slot_list_index PySem.F.type_list_index zmC ha (zfT (S:=S) hb zhB hs) hbase hfew hline hs hany) fun σ H Q ⟨B,φ,st,ρ,rs,re,h⟩=>by
  simp only [ev] at h
  refine tE.bind rs re h fun x H1 v st1 φ1 s1 rs1 re1 rv h1=>?_
  obtain ⟨_,e1,h1⟩:=zfQ h1
  obtain ⟨ws,t1⟩:∃ws,yG st1 v=some ws:=by
   simp only [yV] at e1
   cases q:yG st1 v with
   |none=>rw [q] at e1;cases e1
   |some ws=>exact ⟨ws,rfl⟩
  obtain ⟨l,xs,rfl,hl,_⟩:=zep rs1 rv t1
  refine ⟨.inl ⟨rfl,xs,hl⟩,tAs.bind rs1 re1 h1 fun ys H2 vs st2 φ2 s2 rs2 re2 rvs h2=>?_⟩
  have rv2:=rv.step s2
  rcases vs with _|⟨w,_|⟨w',t⟩⟩
  ·exact h2.elim
  ·obtain ⟨y,rfl,rw⟩:=rvs.one
   simp only [yaI,yda] at h2
   cases t2:yG st2 v with
   |none=>rw [t2] at h2;exact h2.elim
   |some zs =>
    rw [t2] at h2
    dsimp only at h2
    split at h2
    ·rename_i c
     rw [Bool.and_eq_true] at c
     split at h2
     ·rename_i j hj
      cases v with
      |loc n =>
       simp only [yG] at t2
       split at t2
       ·rename_i zs' hz
        cases t2
        obtain ⟨l2,xs2,e2,hn,hx,lr2⟩:=rs2.list rv2 hz
        cases e2
        obtain ⟨q1,_⟩:=zdf rw c.1 lr2 c.2
        obtain ⟨q2,q3⟩:=zit rw c.1 lr2 c.2 hj
        exact ⟨l,xs2,y,j,rfl,rfl,hx,(rw.flat c.1).1,q1,q2,q3,h2.ok rs2 (by simp only [ye])⟩
       ·cases t2
      |lst zs' =>
       cases t2
       simp only [ye] at rv2
       obtain ⟨a',xs2,e2,⟨hx,_,_⟩,lr2⟩:=rv2
       cases e2
       obtain ⟨q1,_⟩:=zdf rw c.1 lr2 c.2
       obtain ⟨q2,q3⟩:=zit rw c.1 lr2 c.2 hj
       exact ⟨l,xs2,y,j,rfl,rfl,hx,(rw.flat c.1).1,q1,q2,q3,h2.ok rs2 (by simp only [ye])⟩
      |_=>cases t2
     ·exact h2.elim
    ·exact h2.elim
  ·exact h2.elim
end
section
variable (S:Se)(X:Cx)
def yai (B:Addr->Prop)(φ:Ph)(H:Hp)(f:Fl)(D:Ends):Prop :=
 match f with
 | .nx ρ' st'=>∀σ' H' φ',Step φ H φ' H'->yw X.K S.cl B φ' H' st'->yF X.K S.cl B φ' H' ρ' σ'->D.nx σ' H'
 | .rt v st'=>∀x H' φ',Step φ H φ' H'->yw X.K S.cl B φ' H' st'->ye X.K S.cl B φ' H' v x->D.rt x H'
 | .bk ρ' st'=>∀σ' H' φ',Step φ H φ' H'->yw X.K S.cl B φ' H' st'->yF X.K S.cl B φ' H' ρ' σ'->D.bk σ' H'
 | .ct ρ' st'=>∀σ' H' φ',Step φ H φ' H'->yw X.K S.cl B φ' H' st'->yF X.K S.cl B φ' H' ρ' σ'->D.ct σ' H'
 | .exc k ρ' st'=>∀σ' φ1 H1 e s',Step φ H φ1 H1->yF X.K S.cl B φ1 H1 ρ' σ'->ExcAt S X σ' B φ1 H1 k st' e s'->X.xe e s'
 | .bad=>False
noncomputable def tS (c:Cs):TS:=fun D σ H=>∃B φ st ρ,yw X.K S.cl B φ H st/\yF X.K S.cl B φ H ρ σ/\yai S X B φ H (ex S.call ρ st c) D
noncomputable def tSs (c:Css):TS:=fun D σ H=>∃B φ st ρ,yw X.K S.cl B φ H st/\yF X.K S.cl B φ H ρ σ/\yai S X B φ H (exs S.call ρ st c) D
end
section
variable {S:Se}{X:Cx}{σ:St}{B:Addr->Prop}{φ φ1:Ph}{H H1:Hp}{st:Store}{ρ:IC.Env}{D:Ends}{pos p2 px:Pos}{a b c o:Expr}{ca cb cc:Ce}{s1:Stmt}{ss ss':List Stmt}{c1:Cs}{cs cs':Css}
theorem yai.on {f:Fl}(s:Step φ H φ1 H1)(h:yai S X B φ H f D):yai S X B φ1 H1 f D:=by
 cases f with
 |nx ρ st=>exact fun σ' H' φ' t=>h σ' H' φ' (s.trans t)
 |rt ρ st=>exact fun σ' H' φ' t=>h σ' H' φ' (s.trans t)
 |bk ρ st=>exact fun σ' H' φ' t=>h σ' H' φ' (s.trans t)
 |ct ρ st=>exact fun σ' H' φ' t=>h σ' H' φ' (s.trans t)
 |exc k ρ st=>exact fun σ' φ2 H2 e s' t=>h σ' φ2 H2 e s' (s.trans t)
 |bad=>exact h
theorem tE.fl {k:PV->Store->Fl}{P:V->Hp->Prop}(rs:yw X.K S.cl B φ H st)(re:yF X.K S.cl B φ H ρ σ)(h:yai S X B φ H ((ev S.call ρ st ca).fl ρ k) D)
  (n:∀x H1 v st1 φ1,Step φ H φ1 H1->yw X.K S.cl B φ1 H1 st1->yF X.K S.cl B φ1 H1 ρ σ->ye X.K S.cl B φ1 H1 v x->yai S X B φ1 H1 (k v st1) D->P x H1):tE S X ca σ H P:=by
 refine ⟨B,φ,st,ρ,rs,re,?_⟩
 cases e:ev S.call ρ st ca with
 |ok v st' =>
  rw [e] at h
  exact fun x H' φ' s rs' rv=>n x H' v st' φ' s rs' (re.step s) rv (h.on s)
 |exc k st' =>
  rw [e] at h
  exact fun e s' x=>h σ φ H e s' .rfl re x
 |bad=>rw [e] at h;exact h
theorem PS.imp {t t':TS}(h:PS X s1 t')(k:∀D σ H,t D σ H->t' D σ H):PS X s1 t:=fun pins s σ H D I q=>h pins s σ H D I (k D σ H q)
theorem PSs.imp {t t':TS}(h:PSs X ss t')(k:∀D σ H,t D σ H->t' D σ H):PSs X ss t:=fun pins s σ H D I q=>h pins s σ H D I (k D σ H q)
theorem yF.set {K:PySem.W.Frag}{cl:Nat->Addr}(r:yF K cl B φ H ρ σ)(i:Nat){v:PV}{x:V}(rv:ye K cl B φ H v x):yF K cl B φ H (ρ.set i (some v)) (σ.set i (some x)):=by
 refine ⟨by rw [List.length_set,List.length_set];exact r.len,fun j w e=>?_⟩
 by_cases h:j=i
 ·subst h
  by_cases hl:j<ρ.length
  ·rw [List.getElem?_set_self hl] at e
   cases e
   exact ⟨x,by rw [List.getElem?_set_self (by rw [<- r.len];exact hl)],rv⟩
  ·rw [List.getElem?_eq_none (by rw [List.length_set];omega)] at e
   cases e
 ·rw [List.getElem?_set_ne (Ne.symm h)] at e ⊢
  exact r.get j w e
theorem zov:PSs X [] (tSs S X .nil):=ycJ.imp fun D σ H ⟨B,φ,st,ρ,rs,re,h⟩=>by
 simp only [exs] at h
 exact h σ H φ .rfl rs re
theorem zl:ybQ X [] (tSs S X .nil):=by with_unfolding_all exact zov
theorem zd (h1:KqS X s1 (tS S X c1))(h2:ybQ X ss (tSs S X cs)):ybQ X (s1::ss) (tSs S X (.cons c1 cs)):= by
 with_unfolding_all
 exact PSs.imp (zmd h1 h2) fun D σ H ⟨B,φ,st,ρ,rs,re,h⟩=>by
  simp only [exs] at h
  refine ⟨B,φ,st,ρ,rs,re,?_⟩
  cases e:ex S.call ρ st c1 with
  |nx ρ1 st1 =>
   rw [e] at h
   exact fun σ' H' φ' s rs' re'=>⟨B,φ',st1,ρ1,rs',re',h.on s⟩
  |rt v st1=>rw [e] at h;exact h
  |bk ρ1 st1=>rw [e] at h;exact h
  |ct ρ1 st1=>rw [e] at h;exact h
  |exc k ρ1 st1=>rw [e] at h;exact h
  |bad=>rw [e] at h;exact h
theorem zao (he:KqE X a (tE S X ca))(hs:swapsWith a none pos.line X.env=pure false:=by rfl):KqS X (.Expr a pos) (tS S X (.expr ca)):= by
 with_unfolding_all
 exact PS.imp (zni he hs) fun D σ H ⟨B,φ,st,ρ,rs,re,h⟩=>by
  simp only [ex] at h
  exact tE.fl rs re h fun x H1 v st1 φ1 s rs1 re1 rv h1=>h1 σ H1 φ1 .rfl rs1 re1
theorem zy (he:KqE X a (tE S X ca)):KqS X (.Return (some a) pos) (tS S X (.ret ca)):= by
 with_unfolding_all
 exact PS.imp (zoJ he) fun D σ H ⟨B,φ,st,ρ,rs,re,h⟩=>by
  simp only [ex] at h
  exact tE.fl rs re h fun x H1 v st1 φ1 s rs1 re1 rv h1=>h1 x H1 φ1 .rfl rs1 rv
theorem zz {i:Nat}{x:Str}(hN:X.N.Nodup)(hi:X.N[i]?=some x)(hx:Loc X.env.scope x)(he:KqE X a (tE S X ca))(hs:swapsWith a (some (.Name x px)) pos.line X.env=pure false:=by rfl)
  (hf:X.fn x=true \/ X.env.scope.names.lookup x=some .local:=by first|exact .inl rfl|exact .inr rfl|assumption):KqS X (.Assign [.Name x px] a pos) (tS S X (.asg (.n i) ca)):= by
 with_unfolding_all
 exact PS.imp (zpk hN hi hx he hs hf) fun D σ H ⟨B,φ,st,ρ,rs,re,h⟩=>by
  simp only [ex] at h
  exact tE.fl rs re h fun x H1 v st1 φ1 s rs1 re1 rv h1=>h1 _ H1 φ1 .rfl rs1 (re1.set i rv)
theorem flT (r:R PV)(f:Bool->Store->Fl):(r.fl ρ fun x st1=>onF (truV st1 x) fun k=>f k st1)=(yaR r).fl ρ f:=by
 cases r with
 |ok v s =>
  simp only [R.fl,yaR,R.bind]
  cases truV s v <;> rfl
 |exc c s=>rfl
 |bad=>rfl
theorem tTs.fl {k:Bool->Store->Fl}{P:Bool->Hp->Prop}(rs:yw X.K S.cl B φ H st)(re:yF X.K S.cl B φ H ρ σ)(h:yai S X B φ H ((yaR (ev S.call ρ st ca)).fl ρ k) D)
  (n:∀b H1 st1 φ1,Step φ H φ1 H1->yw X.K S.cl B φ1 H1 st1->yF X.K S.cl B φ1 H1 ρ σ->yai S X B φ1 H1 (k b st1) D->P b H1):tTs S X ca σ H P:=by
 refine ⟨B,φ,st,ρ,rs,re,?_⟩
 cases e:yaR (ev S.call ρ st ca) with
 |ok v st' =>
  rw [e] at h
  exact fun x H' φ' s rs' rv=>by
   subst rv
   exact n v H' st' φ' s rs' (re.step s) (h.on s)
 |exc k st' =>
  rw [e] at h
  exact fun e s' x=>h σ φ H e s' .rfl re x
 |bad=>rw [e] at h;exact h
theorem zG (hc:KqT X c (tTs S X cc))(ha:ybQ X ss (tSs S X cs))(hb:ybQ X ss' (tSs S X cs')):KqS X (.If c ss ss' pos) (tS S X (.ite cc cs cs')):= by
 with_unfolding_all
 exact PS.imp (zpv hc ha hb) fun D σ H ⟨B,φ,st,ρ,rs,re,h⟩=>by
  simp only [ex] at h
  rw [flT _ fun k st1=>cond k (exs S.call ρ st1 cs) (exs S.call ρ st1 cs')] at h
  refine tTs.fl rs re h fun k H1 st1 φ1 s rs1 re1 h1=>?_
  cases k with
  |true=>exact ⟨B,φ1,st1,ρ,rs1,re1,h1⟩
  |false=>exact ⟨B,φ1,st1,ρ,rs1,re1,h1⟩
theorem zl9 {i:Nat}{x:Str}{op:Operator}{bo:BOp}(hN:X.N.Nodup)(hi:X.N[i]?=some x)(hx:Loc X.env.scope x)(he:KqE X a (tE S X ca))(ho:PIp X op (rT2 S X (ybU bo)))
  (hf:X.fn x=true \/ X.env.scope.names.lookup x=some .local:=by first|exact .inl rfl|exact .inr rfl|assumption) (hd:(x == ("__debug__":Str))=false:=by decide) (hcd:(x == ("__classdict__":Str))=false:=by decide):KqS X (.AugAssign (.Name x px) op a pos) (tS S X (.aug i bo ca)):= by
 with_unfolding_all
 exact PS.imp (zos hN hi hx he ho hf) fun D σ H ⟨B,φ,st,ρ,rs,re,h⟩=>by
  simp only [ex] at h
  cases q:ρ[i]? with
  |none=>rw [q] at h;exact h.elim
  |some w =>
   cases w with
   |none=>rw [q] at h;exact h.elim
   |some w =>
    rw [q] at h
    obtain ⟨y,hy,rw⟩:=re.get i w q
    refine ⟨y,hy,tE.fl rs re h fun z H1 v st1 φ1 s rs1 re1 rv h1=>?_⟩
    cases e:ybU bo w v with
    |none=>rw [e] at h1;exact h1.elim
    |some u =>
     rw [e] at h1
     exact ⟨B,φ1,st1,w,v,u,rs1,rw.step s,rv,e,fun z' H' φ' s' rs' rz=>h1 _ H' φ' s' rs' ((re1.step s').set i rz)⟩
end
section
variable (S:Se)(X:Cx)
structure Drw (B:Addr->Prop)(φ0:Ph)(H0:Hp)(xs:List PV)(J:It):Prop where
 stop:∀φ H,Step φ0 H0 φ H->J.stop xs.length H
 go:∀(i:Nat) φ H,Step φ0 H0 φ H->i<xs.length->J.go i H
 yld:∀(i:Nat) φ H st x H' (B':Addr->Prop),(∀y,B' y->B y \/ H0 y=none)->Step φ0 H0 φ H->yw X.K S.cl B' φ H st->i<xs.length->J.yld i H x H'->∃v,xs[i]?=some v/\ye X.K S.cl B' φ H' v x/\∀b o,H b=some o->H' b=some o
noncomputable abbrev RD (B:Addr->Prop):Ph->Hp->List PV->It->Prop:=fun φ H=>Drw S X B φ H
noncomputable def tI (c:Cit):TI:=fun σ H R=>∃B φ st ρ,yw X.K S.cl B φ H st/\yF X.K S.cl B φ H ρ σ/\Run S X σ B φ H (RD S X B) (evi S.call ρ st c) R
end
section
variable {S:Se}{X:Cx}{σ:St}{B:Addr->Prop}{φ φ1:Ph}{H H1:Hp}{st:Store}{ρ:IC.Env}{D:Ends}{pos p p2 px:Pos}{a b c o tg l:Expr}{ca cb cc:Ce}{es:List Expr}{ces:Ces}{ss:List Stmt}{cs:Css}{ci:Cit}{ct:Tg}
theorem zoc:PE X a (tE S X .nope):=fun pins s σ H Q I ⟨B,φ,st,ρ,rs,re,h⟩=>by
 simp only [ev] at h
 exact h.elim
theorem zjX:KqE X a (tE S X .nope):=by with_unfolding_all exact zoc
theorem zm9 {s1:Stmt}:PS X s1 (tS S X .nope):=fun pins s σ H D I ⟨B,φ,st,ρ,rs,re,h⟩=>by
 simp only [ex] at h
 exact h.elim
theorem zbd {s1:Stmt}:KqS X s1 (tS S X .nope):=by with_unfolding_all exact zm9
theorem PI.imp {t t':TI}(h:PI X tg l t')(k:∀σ H R,t σ H R->t' σ H R):PI X tg l t:=fun pins s σ H R I q=>h pins s σ H R I (k σ H R q)
theorem zoU {tl:TE}(hl:PE X l tl):PI X tg l (fun σ H R=>tl σ H fun x H1=>∃a,x=.ref a/\(((∃xs,SqL X.K H1 a xs)/\R (Itl X.K a) H1) \/ ((∃xs,SqT X.K H1 a xs)/\R (Itt X.K a) H1))):=by
 intro pins s σ H R I h
 refine thn (hl pins s σ H _ I h) fun v s1 ⟨x,H1,I1,r1,q1⟩=>?_
 obtain ⟨a,e,q1⟩:=q1
 subst e
 cases r1
 rcases q1 with ⟨⟨xs,hq⟩,q⟩|⟨⟨xs,hq⟩,q⟩
 ·obtain ⟨its,rv,p,hz⟩:=I1.list hq
  refine wpAny_pyIter_list p.isList ?_
  refine ⟨s1.heap.objs.size,[s1.heap.objs.size],_,_,H1,rfl,I1.kept (t':=s1.toks) fun b o e=>Heap.get?_push_of_some _ e,zj3 a _,⟨_,Heap.get?_push_size _ rfl,rfl,rfl⟩,fun b hb=>?_,q⟩
  have e:b=s1.heap.objs.size:=by simpa using hb
  subst e
  exact I1.fpOk (Nat.le_refl _) (I1.hok.fresh (Nat.le_refl _))
 ·obtain ⟨its,rv,p,hz⟩:=I1.tuple hq
  refine wpAny_pyIter_tuple (show s1.heap.IsTuple a its.toArray from p) ?_
  refine ⟨s1.heap.objs.size,[s1.heap.objs.size],_,_,H1,rfl,I1.kept (t':=s1.toks) fun b o e=>Heap.get?_push_of_some _ e,zjO a _,⟨_,Heap.get?_push_size _ rfl,rfl,rfl⟩,fun b hb=>?_,q⟩
  have e:b=s1.heap.objs.size:=by simpa using hb
  subst e
  exact I1.fpOk (Nat.le_refl _) (I1.hok.fresh (Nat.le_refl _))
theorem zoj {k:Bool}{vs:List PV}{xs:List V}{y:Addr}(rt:ybF X.K B φ H k y xs)(l:yo X.K S.cl B φ H vs xs):Drw S X B φ H vs (Itt X.K y):=by
 have hl:=l.length
 refine ⟨fun φ' H' s=>⟨xs,(rt.step s).sq,by omega⟩,fun i φ' H' s hi=>⟨xs,xs[i]'(by omega),(rt.step s).sq,by simp [show i<xs.length by omega]⟩,fun i φ' H' st x H2 B' hB s rs hi q=>?_⟩
 obtain ⟨rfl,q⟩:=q
 obtain ⟨v,hv⟩:∃v,vs[i]?=some v:=⟨vs[i],by simp [hi]⟩
 obtain ⟨x',hx',rv⟩:=l.get i hv
 have:=q xs (rt.step s).sq
 rw [this] at hx'
 cases hx'
 exact ⟨v,hv,(rv.moreB hB).step s,fun _ _ e=>e⟩
theorem zm3 {vs:List PV}{xs:List V}{y:Addr}(rt:ycE B φ H y xs)(l:yo X.K S.cl B φ H vs xs):Drw S X B φ H vs (Itl X.K y):=by
 have hl:=l.length
 refine ⟨fun φ' H' s=>⟨xs,(rt.step s).sq,by omega⟩,fun i φ' H' s hi=>⟨xs,xs[i]'(by omega),(rt.step s).sq,by simp [show i<xs.length by omega]⟩,fun i φ' H' st x H2 B' hB s rs hi q=>?_⟩
 obtain ⟨rfl,q⟩:=q
 obtain ⟨v,hv⟩:∃v,vs[i]?=some v:=⟨vs[i],by simp [hi]⟩
 obtain ⟨x',hx',rv⟩:=l.get i hv
 have:=q xs (rt.step s).sq
 rw [this] at hx'
 cases hx'
 exact ⟨v,hv,(rv.moreB hB).step s,fun _ _ e=>e⟩
theorem zfm (hl:KqE X l (tE S X ca)):KqI X tg l (tI S X (.seq ca)):= by
 with_unfolding_all
 exact PI.imp (zoU hl) fun σ H R ⟨B,φ,st,ρ,rs,re,h⟩=>by
  simp only [evi] at h
  refine tE.bind rs re h fun x H1 v st1 φ1 s1 rs1 re1 rv h1=>?_
  cases v with
  |tp k vs =>
   simp only [ye] at rv
   obtain ⟨y,xs,rfl,rt,l⟩:=rv
   exact ⟨y,rfl,.inr ⟨⟨xs,rt.sq⟩,h1.ok rs1 (zoj rt l)⟩⟩
  |lst vs =>
   simp only [ye] at rv
   obtain ⟨y,xs,rfl,rt,l⟩:=rv
   exact ⟨y,rfl,.inl ⟨⟨xs,rt.sq⟩,h1.ok rs1 (zm3 rt l)⟩⟩
  |_=>exact h1.elim
theorem zgn:∀(n:Nat) (lo d:Int) (i:Nat),(yD n lo d)[i]?=if i<n then some (.int (lo+i*d)) else none
 |0,lo,d,i=>by simp [yD]
 |n+1,lo,d,0=>by simp [yD]
 |n+1,lo,d,i+1=>by
  simp only [yD,List.getElem?_cons_succ]
  rw [zgn n (lo+d) d i]
  by_cases h:i<n
  ·rw [if_pos h,if_pos (by omega),Int.natCast_succ,Int.add_mul,Int.one_mul,Int.add_assoc,Int.add_comm d]
  ·rw [if_neg h,if_neg (by omega)]
theorem zdL:∀(n:Nat) (lo d:Int),(yD n lo d).length=n
 |0,lo,d=>rfl
 |n+1,lo,d=>by simp [yD,zdL n]
theorem zkU {lo:Int}{n:Nat}:Drw S X B φ H (yD n lo 1) (Itr lo n):=by
 refine ⟨fun φ' H' s=>by rw [zdL];exact Nat.le_refl _,fun i φ' H' s hi=>by rw [zdL] at hi;exact hi,fun i φ' H' st x H2 B' hB s rs hi q=>?_⟩
 rw [zdL] at hi
 obtain ⟨rfl,rfl⟩:=q
 refine ⟨.int (lo+i),?_,by simp only [ye],fun _ _ e=>e⟩
 rw [zgn,if_pos hi,Int.mul_one]
theorem zjW {o:Option (List PV)}{st:Store}{Q:It->Hp->Prop}(h:Run S X σ B φ H (RD S X B) (toL o st) Q):∃xs,o=some xs/\Run S X σ B φ H (RD S X B) (.ok xs st) Q:=by
 cases o with
 |none=>exact h.elim
 |some z=>exact ⟨z,rfl,h⟩
theorem zb7 (hg:Gl X "range")(hm:X.mg "range"=none)(ha:KqE X a (tE S X ca))(hs:starEach [a] X.env=[(false,eval a X.env)]:=by rfl):KqI X tg (.Call (.Name "range" p) [a] [] pos) (tI S X (.range1 ca)):= by
 with_unfolding_all
 exact PI.imp (zlk hg hm (zbC ha yaw hs) hs) fun σ H R ⟨B,φ,st,ρ,rs,re,h⟩=>by
  simp only [evi] at h
  refine tE.bind rs re h fun x H1 v st1 φ1 s1 rs1 re1 rv h1=>?_
  obtain ⟨xs,e,h1⟩:=zjW h1
  cases v with
  |int j =>
   simp only [ycA] at e
   split at e
   ·cases e
    simp only [ye] at rv
    subst rv
    exact ⟨j,rfl,by omega,by omega,h1.ok rs1 zkU⟩
   ·cases e
  |_=>cases e
theorem zfJ:∀(xs:List PV) (k i:Nat),(yab k xs)[i]?=(xs[i]?).map fun x=>.tup [.int ((k+i:Nat):Int),x]
 | [],k,i=>by simp [yab]
 |x::xs,k,0=>by simp [yab]
 |x::xs,k,i+1=>by
  simp only [yab,List.getElem?_cons_succ]
  rw [zfJ xs (k+1) i]
  have:k+1+i=k+(i+1):=by omega
  rw [this]
theorem zfU:∀(xs:List PV) (k:Nat),(yab k xs).length=xs.length
 | [],k=>rfl
 |x::xs,k=>by simp [yab,zfU xs]
theorem zlX {k:Bool}{vs:List PV}{xs:List V}{y:Addr}(rt:ybF X.K B φ H k y xs)(l:yo X.K S.cl B φ H vs xs):Drw S X B φ H (yab 0 vs) (Ite X.K y):=by
 have hl:=l.length
 have hp:=zfU vs 0
 refine ⟨fun φ' H' s=>⟨xs,(rt.step s).sq,by omega⟩,fun i φ' H' s hi=>⟨xs,xs[i]'(by omega),(rt.step s).sq,by simp [show i<xs.length by omega]⟩,fun i φ' H' st x H2 B' hB s rs hi q=>?_⟩
 obtain ⟨T,hT,rfl,q⟩:=q
 obtain ⟨v,hv⟩:∃v,vs[i]?=some v:=⟨vs[i]'(by omega),by simp [show i<vs.length by omega]⟩
 obtain ⟨x',hx',rv⟩:=l.get i hv
 have e:=q xs x' (rt.step s).sq hx'
 subst e
 refine ⟨.tup [.int i,v],?_,.tup_new hT rs ?_,fun b o e=>by rw [zH (zO e hT)];exact e⟩
 ·rw [zfJ,hv]
  simp
 ·simp only [yo,ye]
  exact ⟨_,_,rfl,rfl,x',[],rfl,(rv.moreB hB).step s,rfl⟩
theorem zk6 {es:List Expr}{kk:Nat}{tp:Pos}(hg:Gl X "enumerate")(hm:X.mg "enumerate"=none)(ha:KqE X a (tE S X ca))(hs:starEach [a] X.env=[(false,eval a X.env)]:=by rfl) :
  KqI X (.Tuple es kk tp) (.Call (.Name "enumerate" p) [a] [] pos) (tI S X (.enum ca)):= by
 with_unfolding_all
 exact PI.imp (zlJ hg hm (zbC ha yaw hs) hs) fun σ H R ⟨B,φ,st,ρ,rs,re,h⟩=>by
  simp only [evi] at h
  refine tE.bind rs re h fun x H1 v st1 φ1 s1 rs1 re1 rv h1=>?_
  cases v with
  |tp k vs =>
   simp only [ye] at rv
   obtain ⟨y,xs,rfl,rt,l⟩:=rv
   exact ⟨y,rfl,⟨xs,rt.sq⟩,h1.ok rs1 (zlX rt l)⟩
  |_=>exact h1.elim
noncomputable def tG (S:Se)(X:Cx)(t:Tg):TG:=fun v σ H Q=>∃B φ st ρ w ρ',yw X.K S.cl B φ H st/\yF X.K S.cl B φ H ρ σ/\ye X.K S.cl B φ H w v/\yL t w ρ=some ρ'/\∀σ',yF X.K S.cl B φ H ρ' σ'->Q σ' H
theorem PG.imp {t t':TG}(h:PG X tg t')(k:∀v σ H Q,t v σ H Q->t' v σ H Q):PG X tg t:=fun pins s σ H v u Q I rv q=>h pins s σ H v u Q I rv (k v σ H Q q)
theorem zbq {i:Nat}{x:Str}(hN:X.N.Nodup)(hi:X.N[i]?=some x)(hx:Loc X.env.scope x)(hf:X.fn x=true \/ X.env.scope.names.lookup x=some .local:=by first|exact .inl rfl|exact .inr rfl|assumption):KqG X (.Name x pos) (tG S X (.n i)):= by
 with_unfolding_all
 exact PG.imp (zls hN hi hx hf) fun v σ H Q ⟨B,φ,st,ρ,w,ρ',rs,re,rv,e,q⟩=>by
  cases e
  exact q _ (re.set i rv)
noncomputable def gNs (l:List Nat):TGs:=fun vs σ H Q=>vs.length=l.length/\Q ((l.zip vs).foldl (fun σ p=>σ.set p.1 (some p.2)) σ) H
theorem PGs.imp {es:List Expr}{t t':TGs}(h:PGs X es t')(k:∀v σ H Q,t v σ H Q->t' v σ H Q):PGs X es t:=fun pins s σ H vs us Q I rv q=>h pins s σ H vs us Q I rv (k vs σ H Q q)
theorem znP:PGs X [] (gNs []):=ybX.imp fun vs σ H Q ⟨h,q⟩=>by
 cases vs with
 |nil=>exact ⟨rfl,q⟩
 |cons _ _=>cases h
theorem zfy:ydN X [] (gNs []):=by with_unfolding_all exact znP
theorem zbW {es:List Expr}{l:List Nat}{i:Nat}{x:Str}(hN:X.N.Nodup)(hi:X.N[i]?=some x)(hx:Loc X.env.scope x)(h2:ydN X es (gNs l))(hf:X.fn x=true \/ X.env.scope.names.lookup x=some .local:=by first|exact .inl rfl|exact .inr rfl|assumption):ydN X (.Name x pos::es) (gNs (i::l)):= by
 with_unfolding_all
 exact PGs.imp (zha (zls hN hi hx hf) h2) fun vs σ H Q ⟨h,q⟩=>by
  cases vs with
  |nil=>cases h
  |cons v vs=>exact ⟨v,vs,rfl,by simpa using h,q⟩
theorem yF.sets {K:PySem.W.Frag}{cl:Nat->Addr}:∀(l:List Nat) {vs:List PV} {xs:List V} {ρ:IC.Env} {σ:St},yF K cl B φ H ρ σ->yo K cl B φ H vs xs ->
  yF K cl B φ H ((l.zip vs).foldl (fun ρ p=>ρ.set p.1 (some p.2)) ρ) ((l.zip xs).foldl (fun σ p=>σ.set p.1 (some p.2)) σ)
 | [],vs,xs,ρ,σ,re,l=>by simpa using re
 |i::is,[],xs,ρ,σ,re,l=>by
  simp only [yo] at l
  subst l
  simpa using re
 |i::is,v::vs,xs,ρ,σ,re,l=>by
  simp only [yo] at l
  obtain ⟨y,ys,rfl,r,l⟩:=l
  simp only [List.zip_cons_cons,List.foldl_cons]
  exact yF.sets is (re.set i r) l
theorem zg5 {es:List Expr}{l:List Nat}{k:Nat}(hc:X.calm=true)(h:ydN X es (gNs l))(hn:(assignEach es X.env).length=l.length:=by rfl)(hst:(assignEach es X.env).findIdx? (·.1)=none:=by rfl):KqG X (.Tuple es k pos) (tG S X (.t l)):= by
 with_unfolding_all
 exact PG.imp (zmN hc h hn hst) fun v σ H Q ⟨B,φ,st,ρ,w,ρ',rs,re,rv,e,q⟩=>by
  cases w with
  |tp kk vs =>
   simp only [yL] at e
   split at e
   ·rename_i c
    cases e
    simp only [ye] at rv
    obtain ⟨y,xs,rfl,rt,lr⟩:=rv
    have hl:=lr.length
    exact ⟨y,xs,rfl,rt.sq,by omega,by omega,q _ (yF.sets l re lr)⟩
   ·cases e
  |_=>cases e
theorem zki {es:List Expr}{l:List Nat}{k:Nat}(he:KqE X a (tE S X ca))(hg:KqG X (.Tuple es k p2) (tG S X (.t l)))(hs:swapsWithSole [.Tuple es k p2] a pos.line X.env=pure false:=by rfl)(hw:swappedStores [.Tuple es k p2] a X.env=pure none:=by rfl) :
  KqS X (.Assign [.Tuple es k p2] a pos) (tS S X (.asg (.t l) ca)):= by
 with_unfolding_all
 exact PS.imp (zlo he hg hs hw) fun D σ H ⟨B,φ,st,ρ,rs,re,h⟩=>by
  simp only [ex] at h
  refine tE.fl rs re h fun x H1 v st1 φ1 s rs1 re1 rv h1=>?_
  cases e:yL (.t l) v ρ with
  |none=>rw [e] at h1;exact h1.elim
  |some ρ' =>
   rw [e] at h1
   exact ⟨B,φ1,st1,ρ,v,ρ',rs1,re1,rv,e,fun σ' re'=>h1 σ' H1 φ1 .rfl rs1 re'⟩
theorem tI.fl {k:List PV->Store->Fl}{P:It->Hp->Prop}(rs:yw X.K S.cl B φ H st)(re:yF X.K S.cl B φ H ρ σ)(h:yai S X B φ H ((evi S.call ρ st ci).fl ρ k) D)
  (n:∀x H1 v st1 φ1,Step φ H φ1 H1->yw X.K S.cl B φ1 H1 st1->yF X.K S.cl B φ1 H1 ρ σ->Drw S X B φ1 H1 v x->yai S X B φ1 H1 (k v st1) D->P x H1):tI S X ci σ H P:=by
 refine ⟨B,φ,st,ρ,rs,re,?_⟩
 cases e:evi S.call ρ st ci with
 |ok v st' =>
  rw [e] at h
  exact fun x H' φ' s rs' rv=>n x H' v st' φ' s rs' (re.step s) rv (h.on s)
 |exc k st' =>
  rw [e] at h
  exact fun e s' x=>h σ φ H e s' .rfl re x
 |bad=>rw [e] at h;exact h
theorem zcT (hp:PassesOwn (model X.prog X.w) X.A X.env X.xe)(hc:X.calm=true)(hi:KqI X tg l (tI S X ci))(hg:KqG X tg (tG S X ct))(hb:ybQ X ss (tSs S X cs))(hs:∀x,foldedSetIterable l X.env x=pure x:=by intro _;rfl) :
  KqS X (.For tg l ss [] pos) (tS S X (.for ct ci cs)):= by
 with_unfolding_all
 exact PS.imp (zph hp hc hi hg hb hs) fun D σ H ⟨B,φ,st,ρ,rs,re,h⟩=>by
  simp only [ex] at h
  refine tI.fl rs re h fun J H1 xs st1 φ1 s1 rs1 re1 dr h1=>?_
  refine ⟨fun i m σ H=>∃φ st ρ,i+m=xs.length/\Step φ1 H1 φ H/\yw X.K S.cl B φ H st/\yF X.K S.cl B φ H ρ σ/\yai S X B φ H (forL ct (fun ρ2 st2=>exs S.call ρ2 st2 cs) (xs.drop i) ρ st) D,
   ⟨xs.length,φ1,st1,ρ,by omega,.rfl,rs1,re1,by simpa using h1⟩,?_⟩
  rintro i m σ2 H2 ⟨φ2,st2,ρ2,hm,s2,rs2,re2,h2⟩
  by_cases hi:i<xs.length
  ·refine .inr ⟨dr.go i φ2 H2 s2 hi,fun σ' H'=>∃φ st ρ,Step φ1 H1 φ H'/\yw X.K S.cl B φ H' st/\yF X.K S.cl B φ H' ρ σ'/\yai S X B φ H' (forL ct (fun ρ2 st2=>exs S.call ρ2 st2 cs) (xs.drop (i+1)) ρ st) D,
    fun σ' H' ⟨φ,st,ρ,s,q⟩=>⟨m - 1,by omega,φ,st,ρ,by omega,s,q⟩,fun x H3 hy=>?_⟩
   obtain ⟨v,hv,rv,kk⟩:=dr.yld i φ2 H2 st2 x H3 B (fun _ z=>.inl z) s2 rs2 hi hy
   have e:xs.drop i=v::xs.drop (i+1):=by
    rw [List.drop_eq_getElem_cons hi]
    rw [List.getElem?_eq_getElem hi] at hv
    rw [Option.some.inj hv]
   have s3:Step φ2 H2 φ2 H3:=⟨fun b o _ e=>kk b o e,Nat.le_refl _,fun _ _ _ e=>e,fun _ h=>.inl h⟩
   have rs3:yw X.K S.cl B φ2 H3 st2:=rs2.same kk
   rw [e,forL] at h2
   cases eb:yL ct v ρ2 with
   |none=>rw [eb] at h2;exact h2.elim
   |some ρ3 =>
    rw [eb] at h2
    refine ⟨B,φ2,st2,ρ2,v,ρ3,rs3,re2.step s3,rv,eb,fun σ' re'=>⟨B,φ2,st2,ρ3,rs3,re',?_⟩⟩
    have h3:=yai.on s3 h2
    dsimp only at h3
    cases ee:exs S.call ρ3 st2 cs with
    |nx ρ4 st4 =>
     rw [ee] at h3
     exact fun σ4 H4 φ4 s4 rs4 re4=>⟨φ4,st4,ρ4,s2.trans (s3.trans s4),rs4,re4,yai.on s4 h3⟩
    |ct ρ4 st4 =>
     rw [ee] at h3
     exact fun σ4 H4 φ4 s4 rs4 re4=>⟨φ4,st4,ρ4,s2.trans (s3.trans s4),rs4,re4,yai.on s4 h3⟩
    |bk ρ4 st4=>rw [ee] at h3;exact h3
    |rt v4 st4=>rw [ee] at h3;exact h3
    |exc k ρ4 st4=>rw [ee] at h3;exact h3
    |bad=>rw [ee] at h3;exact h3
  ·have e:i=xs.length:=by omega
   subst e
   rw [List.drop_length,forL] at h2
   exact .inl ⟨dr.stop φ2 H2 s2,h2 σ2 H2 φ2 .rfl rs2 re2⟩
theorem zjC (hp:PassesOwn (model X.prog X.w) X.A X.env X.xe)(hc:KqT X c (tTs S X cc))(hb:ybQ X ss (tSs S X cs)):KqS X (.While c ss [] pos) (tS S X (.while cc cs)):= by
 with_unfolding_all
 exact PS.imp (zmE hp hc hb) fun D σ H ⟨B,φ,st,ρ,rs,re,h⟩=>by
  simp only [ex] at h
  refine ⟨fun m σ H=>∃φ st ρ,yw X.K S.cl B φ H st/\yF X.K S.cl B φ H ρ σ/\yai S X B φ H (yav (fun ρ2 st2=>ev S.call ρ2 st2 cc) (fun ρ2 st2=>exs S.call ρ2 st2 cs) m ρ st) D,⟨100000,φ,st,ρ,rs,re,h⟩,?_⟩
  rintro m σ2 H2 ⟨φ2,st2,ρ2,rs2,re2,h2⟩
  cases m with
  |zero=>exact h2.elim
  |succ m =>
   rw [yav] at h2
   rw [flT _ fun k st1=>cond k (yaG (exs S.call ρ2 st1 cs) fun ρ2 st2=>yav (fun ρ2 st2=>ev S.call ρ2 st2 cc) (fun ρ2 st2=>exs S.call ρ2 st2 cs) m ρ2 st2) (.nx ρ2 st1)] at h2
   refine tTs.fl rs2 re2 h2 fun k H3 st3 φ3 s3 rs3 re3 h3=>?_
   cases k with
   |false=>exact h3 σ2 H3 φ3 .rfl rs3 re3
   |true =>
    refine ⟨fun σ' H'=>∃φ st ρ,yw X.K S.cl B φ H' st/\yF X.K S.cl B φ H' ρ σ'/\yai S X B φ H' (yav (fun ρ2 st2=>ev S.call ρ2 st2 cc) (fun ρ2 st2=>exs S.call ρ2 st2 cs) m ρ st) D,
     fun σ' H' q=>⟨m,by omega,q⟩,B,φ3,st3,ρ2,rs3,re3,?_⟩
    simp only [cond_true] at h3
    cases ee:exs S.call ρ2 st3 cs with
    |nx ρ4 st4 =>
     rw [ee] at h3
     exact fun σ4 H4 φ4 s4 rs4 re4=>⟨φ4,st4,ρ4,rs4,re4,yai.on s4 h3⟩
    |ct ρ4 st4 =>
     rw [ee] at h3
     exact fun σ4 H4 φ4 s4 rs4 re4=>⟨φ4,st4,ρ4,rs4,re4,yai.on s4 h3⟩
    |bk ρ4 st4=>rw [ee] at h3;exact h3
    |rt v4 st4=>rw [ee] at h3;exact h3
    |exc k ρ4 st4=>rw [ee] at h3;exact h3
    |bad=>rw [ee] at h3;exact h3
end
section
variable (S:Se)(K:PySem.W.Frag)
def yeM {α β:Type}(B:Addr->Prop)(φ:Ph)(H:Hp)(Rel:Ph->Hp->α->β->Prop)(r:R α)(Q:β->Hp->Prop):Prop :=
 match r with
 | .ok v st'=>∀x H' φ',Step φ H φ' H'->yw K S.cl B φ' H' st'->Rel φ' H' v x->Q x H'
 |_=>False
noncomputable def tE0 (c:Ce):TE:=fun σ H Q=>∃B φ st ρ,yw K S.cl B φ H st/\yF K S.cl B φ H ρ σ/\yeM S K B φ H (fun φ H=>ye K S.cl B φ H) (ev S.call ρ st c) Q
noncomputable def tT0 (c:Ce):TT:=fun σ H Q=>∃B φ st ρ,yw K S.cl B φ H st/\yF K S.cl B φ H ρ σ/\yeM S K B φ H RB (yaR (ev S.call ρ st c)) Q
noncomputable def tG0 (t:Tg):TG:=fun v σ H Q=>∃B φ st ρ w ρ',yw K S.cl B φ H st/\yF K S.cl B φ H ρ σ/\ye K S.cl B φ H w v/\yL t w ρ=some ρ'/\∀σ',yF K S.cl B φ H ρ' σ'->Q σ' H
end
section
variable {S:Se}{X:Cx}{K:PySem.W.Frag}{cl:Nat->Addr}{σ:St}{B:Addr->Prop}{φ φ1:Ph}{H H1:Hp}{st:Store}{ρ:IC.Env}{pos p p2 px:Pos}{a b c o tg l elt iter:Expr}{ca cb cc ce:Ce}{ci:Cit}{ct:Tg}
theorem zet (hK:X.K=K)(h:KqE X a (tE S X ca)):KqE X a (tE0 S K ca):= by
 with_unfolding_all
 subst hK
 refine h.imp fun σ H Q ⟨B,φ,st,ρ,rs,re,q⟩=>⟨B,φ,st,ρ,rs,re,?_⟩
 cases e:ev S.call ρ st ca with
 |ok v st'=>rw [e] at q;exact q
 |exc k st'=>rw [e] at q;exact q.elim
 |bad=>rw [e] at q;exact q
theorem zlZ:PTs X [] (tT0 S K (.cst (.bl true))):=fun pins s σ H Q I ⟨B,φ,st,ρ,rs,re,q⟩=>by
 refine znc pins s σ H Q I ?_
 simp only [ev,yaR,R.bind,truV,onO] at q
 exact q true H φ .rfl rs rfl
theorem zdH:ydK X [] (tT0 S K (.cst (.bl true))):=by with_unfolding_all exact zlZ
theorem zeo (hK:X.K=K)(h:KqG X tg (tG S X ct)):KqG X tg (tG0 S K ct):= by
 with_unfolding_all
 subst hK
 exact h
theorem ybF.skip {k:Bool}{D y:Addr}{u:HO}{xs:List V}(hD:B D)(r:ybF K B φ H k y xs):ybF K B φ (L2.upd H D u) k y xs:=by
 rcases r with ⟨r,b,n⟩|r
 ·exact .inl ⟨by rw [zH (show y≠D from fun z=>b (z ▸ hD))];exact r,b,n⟩
 ·exact .inr r
mutual
theorem ye.skip {D:Addr}{u:HO}(hD:B D):∀(v:PV) (x:V),ye K cl B φ H v x->ye K cl B φ (L2.upd H D u) v x
 | .non,x,h=>by simp only [ye] at h ⊢;exact h
 | .bl b,x,h=>by simp only [ye] at h ⊢;exact h
 | .int i,x,h=>by simp only [ye] at h ⊢;exact h
 | .str y,x,h=>by simp only [ye] at h ⊢;exact h
 | .tp k vs,x,h=>by
  simp only [ye] at h ⊢
  obtain ⟨y,xs,e,r,l⟩:=h
  exact ⟨y,xs,e,r.skip hD,yo.skip hD vs xs l⟩
 | .lst vs,x,h=>by
  simp only [ye] at h ⊢
  obtain ⟨y,xs,e,⟨r,b,n⟩,l⟩:=h
  exact ⟨y,xs,e,⟨by rw [zH (show y≠D from fun z=>b (z ▸ hD))];exact r,b,n⟩,yo.skip hD vs xs l⟩
 | .loc n,x,h=>by simp only [ye] at h ⊢;exact h
 | .exn c,x,h=>by
  simp only [ye] at h ⊢
  obtain ⟨y,e,r,b,n⟩:=h
  exact ⟨y,e,by rw [zH (show y≠D from fun z=>b (z ▸ hD))];exact r,b,n⟩
 | .scr vs,x,h=>by
  simp only [ye] at h ⊢
  obtain ⟨y,xs,e,r,l⟩:=h
  refine ⟨y,xs,e,?_,yo.skip hD vs xs l⟩
  rcases r with ⟨r,b,n⟩|r
  ·refine .inl ⟨?_,b,n⟩
   have ne:y≠D:=fun z=>b (z ▸ hD)
   rcases r with r|⟨o,r⟩
   ·exact .inl (by rw [zH ne];exact r)
   ·exact .inr ⟨o,by rw [zH ne];exact r⟩
  ·exact .inr r
theorem yo.skip {D:Addr}{u:HO}(hD:B D):∀(v:List PV) (x:List V),yo K cl B φ H v x->yo K cl B φ (L2.upd H D u) v x
 | [],x,h=>by simp only [yo] at h ⊢;exact h
 |v::vs,x,h=>by
  simp only [yo] at h ⊢
  obtain ⟨y,ys,e,r,l⟩:=h
  exact ⟨y,ys,e,ye.skip hD v y r,yo.skip hD vs ys l⟩
end
theorem DK.skip {D:Addr}{u:HO}(hD:B D):∀{kvs:List (PV×PV)} {ks:List (Key×V)},DK K cl B φ H kvs ks->DK K cl B φ (L2.upd H D u) kvs ks
 | [],ks,h=>h
 | (k,v)::r,ks,h=>by
  obtain ⟨q,x,t,e,m,rv,l⟩:=h
  exact ⟨q,x,t,e,m,rv.skip hD,DK.skip hD l⟩
theorem DT.skip {D:Addr}{u:HO}(hD:B D):∀{kvs:List (PV×PV)} {ks:List (List Key×V)},DT K cl B φ H kvs ks->DT K cl B φ (L2.upd H D u) kvs ks
 | [],ks,h=>h
 | (k,v)::r,ks,h=>by
  obtain ⟨q,x,t,e,m,rv,l⟩:=h
  exact ⟨q,x,t,e,m,rv.skip hD,DT.skip hD l⟩
theorem FS.skip {D:Addr}{u:HO}(hD:B D):∀{kvs:List (Str×PV)} {ks:List (Str×V)},FS K cl B φ H kvs ks->FS K cl B φ (L2.upd H D u) kvs ks
 | [],ks,h=>h
 | (k,v)::r,ks,h=>by
  obtain ⟨x,t,e,rv,l⟩:=h
  exact ⟨x,t,e,rv.skip hD,FS.skip hD l⟩
theorem yw.skip {D:Addr}{u:HO}(hD:B D)(rs:yw K cl B φ H st):yw K cl B φ (L2.upd H D u) st:=by
 refine ⟨rs.len,rs.inj,fun n y e=>?_,rs.liv,rs.nb,fun y h=>?_⟩
 ·obtain ⟨o,q,r⟩:=rs.obj n y e
  have ne:y≠D:=fun z=>rs.nb y (List.mem_of_getElem? e) (z ▸ hD)
  refine ⟨o,q,?_⟩
  cases o with
  |lst vs =>
   obtain ⟨xs,hx,l⟩:=r
   exact ⟨xs,by rw [zH ne];exact hx,l.skip hD⟩
  |dct t kvs =>
   cases t with
   |false =>
    obtain ⟨xs,hx,l⟩:=r
    exact ⟨xs,by rw [zH ne];exact hx,l.skip hD⟩
   |true =>
    obtain ⟨xs,hx,l⟩:=r
    exact ⟨xs,by rw [zH ne];exact hx,l.skip hD⟩
  |ins c fs =>
   obtain ⟨ks,⟨dx,hx⟩,l⟩:=r
   exact ⟨ks,⟨dx,by rw [zH ne];exact hx⟩,l.skip hD⟩
  |dead=>exact r.elim
 ·by_cases z:y=D
  ·subst z;exact ⟨u,zU⟩
  ·obtain ⟨w,e⟩:=rs.dom y h
   exact ⟨w,by rw [zH z];exact e⟩
theorem yF.skip {D:Addr}{u:HO}(hD:B D)(re:yF K cl B φ H ρ σ):yF K cl B φ (L2.upd H D u) ρ σ:=⟨re.len,fun i v e=>by
 obtain ⟨x,h,q⟩:=re.get i v e
 exact ⟨x,h,q.skip hD⟩⟩
noncomputable def Bx (B:Addr->Prop)(D:Addr):Addr->Prop:=fun y=>B y \/ y=D
theorem zks {D:Addr}(hn:H D=none):∀y,Bx B D y->B y \/ H y=none:=fun y z=>z.elim .inl fun q=>.inr (q ▸ hn)
theorem ye.more {D:Addr}(hn:H D=none){v:PV}{x:V}(h:ye K cl B φ H v x):ye K cl (Bx B D) φ H v x:=h.moreB (zks hn)
theorem yo.more {D:Addr}(hn:H D=none){v:List PV}{x:List V}(h:yo K cl B φ H v x):yo K cl (Bx B D) φ H v x:=h.moreB (zks hn)
mutual
theorem ye.less {D:Addr}:∀(v:PV) (x:V),ye K cl (Bx B D) φ H v x->ye K cl B φ H v x
 | .non,x,h=>by simp only [ye] at h ⊢;exact h
 | .bl b,x,h=>by simp only [ye] at h ⊢;exact h
 | .int i,x,h=>by simp only [ye] at h ⊢;exact h
 | .str y,x,h=>by simp only [ye] at h ⊢;exact h
 | .tp k vs,x,h=>by
  simp only [ye] at h ⊢
  obtain ⟨y,xs,e,r,l⟩:=h
  refine ⟨y,xs,e,?_,yo.less vs xs l⟩
  rcases r with ⟨r,b,n⟩|r
  ·exact .inl ⟨r,fun z=>b (.inl z),n⟩
  ·exact .inr r
 | .lst vs,x,h=>by
  simp only [ye] at h ⊢
  obtain ⟨y,xs,e,⟨r,b,n⟩,l⟩:=h
  exact ⟨y,xs,e,⟨r,fun z=>b (.inl z),n⟩,yo.less vs xs l⟩
 | .loc n,x,h=>by simp only [ye] at h ⊢;exact h
 | .exn c,x,h=>by
  simp only [ye] at h ⊢
  obtain ⟨y,e,r,b,n⟩:=h
  exact ⟨y,e,r,fun z=>b (.inl z),n⟩
 | .scr vs,x,h=>by
  simp only [ye] at h ⊢
  obtain ⟨y,xs,e,r,l⟩:=h
  refine ⟨y,xs,e,?_,yo.less vs xs l⟩
  rcases r with ⟨r,b,n⟩|r
  ·exact .inl ⟨r,fun z=>b (.inl z),n⟩
  ·exact .inr r
theorem yo.less {D:Addr}:∀(v:List PV) (x:List V),yo K cl (Bx B D) φ H v x->yo K cl B φ H v x
 | [],x,h=>by simp only [yo] at h ⊢;exact h
 |v::vs,x,h=>by
  simp only [yo] at h ⊢
  obtain ⟨y,ys,e,r,l⟩:=h
  exact ⟨y,ys,e,ye.less v y r,yo.less vs ys l⟩
end
theorem DK.more {D:Addr}(hn:H D=none):∀{kvs:List (PV×PV)} {ks:List (Key×V)},DK K cl B φ H kvs ks->DK K cl (Bx B D) φ H kvs ks
 | [],ks,h=>h
 | (k,v)::r,ks,h=>by
  obtain ⟨q,x,t,e,m,rv,l⟩:=h
  exact ⟨q,x,t,e,m,rv.more hn,DK.more hn l⟩
theorem DT.more {D:Addr}(hn:H D=none):∀{kvs:List (PV×PV)} {ks:List (List Key×V)},DT K cl B φ H kvs ks->DT K cl (Bx B D) φ H kvs ks
 | [],ks,h=>h
 | (k,v)::r,ks,h=>by
  obtain ⟨q,x,t,e,m,rv,l⟩:=h
  exact ⟨q,x,t,e,m,rv.more hn,DT.more hn l⟩
theorem FS.more {D:Addr}(hn:H D=none):∀{kvs:List (Str×PV)} {ks:List (Str×V)},FS K cl B φ H kvs ks->FS K cl (Bx B D) φ H kvs ks
 | [],ks,h=>h
 | (k,v)::r,ks,h=>by
  obtain ⟨x,t,e,rv,l⟩:=h
  exact ⟨x,t,e,rv.more hn,FS.more hn l⟩
theorem DK.less {D:Addr}:∀{kvs:List (PV×PV)} {ks:List (Key×V)},DK K cl (Bx B D) φ H kvs ks->DK K cl B φ H kvs ks
 | [],ks,h=>h
 | (k,v)::r,ks,h=>by
  obtain ⟨q,x,t,e,m,rv,l⟩:=h
  exact ⟨q,x,t,e,m,rv.less,DK.less l⟩
theorem DT.less {D:Addr}:∀{kvs:List (PV×PV)} {ks:List (List Key×V)},DT K cl (Bx B D) φ H kvs ks->DT K cl B φ H kvs ks
 | [],ks,h=>h
 | (k,v)::r,ks,h=>by
  obtain ⟨q,x,t,e,m,rv,l⟩:=h
  exact ⟨q,x,t,e,m,rv.less,DT.less l⟩
theorem FS.less {D:Addr}:∀{kvs:List (Str×PV)} {ks:List (Str×V)},FS K cl (Bx B D) φ H kvs ks->FS K cl B φ H kvs ks
 | [],ks,h=>h
 | (k,v)::r,ks,h=>by
  obtain ⟨x,t,e,rv,l⟩:=h
  exact ⟨x,t,e,rv.less,FS.less l⟩
theorem yw.less {D:Addr}(rs:yw K cl (Bx B D) φ H st):yw K cl B φ H st:=by
 refine ⟨rs.len,rs.inj,fun n y e=>?_,rs.liv,fun y h z=>rs.nb y h (.inl z),fun y h=>rs.dom y (.inl h)⟩
 obtain ⟨o,q,r⟩:=rs.obj n y e
 refine ⟨o,q,?_⟩
 cases o with
 |lst vs=>obtain ⟨xs,hx,l⟩:=r;exact ⟨xs,hx,l.less⟩
 |dct t kvs=>cases t <;> (obtain ⟨xs,hx,l⟩:=r;exact ⟨xs,hx,l.less⟩)
 |ins c fs=>obtain ⟨ks,hx,l⟩:=r;exact ⟨ks,hx,l.less⟩
 |dead=>exact r.elim
theorem yw.more {D:Addr}{u:HO}(hn:H D=none)(rs:yw K cl B φ H st):yw K cl (Bx B D) φ (L2.upd H D u) st:=by
 have nD:some D∉φ:=fun z=>by
  obtain ⟨w,e⟩:=rs.there z
  rw [hn] at e;cases e
 have s:Step φ H φ (L2.upd H D u):=.upd hn
 have rs':=rs.upd (o:=u) hn
 refine ⟨rs.len,rs.inj,fun n y e=>?_,rs.liv,fun y h z=>z.elim (rs.nb y h) fun q=>nD (q ▸ h),fun y h=>?_⟩
 ·obtain ⟨o,q,r⟩:=rs.obj n y e
  have ne:y≠D:=fun z=>nD (z ▸ List.mem_of_getElem? e)
  have hD:Bx B D D:=.inr rfl
  refine ⟨o,q,?_⟩
  cases o with
  |lst vs=>obtain ⟨xs,hx,l⟩:=r;exact ⟨xs,by rw [zH ne];exact hx,(l.more hn).skip hD⟩
  |dct t kvs =>
   cases t with
   |false=>obtain ⟨xs,hx,l⟩:=r;exact ⟨xs,by rw [zH ne];exact hx,(l.more hn).skip hD⟩
   |true=>obtain ⟨xs,hx,l⟩:=r;exact ⟨xs,by rw [zH ne];exact hx,(l.more hn).skip hD⟩
  |ins c fs=>obtain ⟨ks,⟨dx,hx⟩,l⟩:=r;exact ⟨ks,⟨dx,by rw [zH ne];exact hx⟩,(l.more hn).skip hD⟩
  |dead=>exact r.elim
 ·rcases h with h|h
  ·exact rs'.dom y h
  ·subst h;exact ⟨u,zU⟩
theorem yF.more {D:Addr}{u:HO}(hn:H D=none)(re:yF K cl B φ H ρ σ):yF K cl (Bx B D) φ (L2.upd H D u) ρ σ:=⟨re.len,fun i v e=>by
 obtain ⟨x,h,q⟩:=re.get i v e
 exact ⟨x,h,(q.more hn).skip (.inr rfl)⟩⟩
noncomputable def yam:Tg->List (Option Nat)->Bool
 | .n i,sl=>decide (sl[i]?=some none)
 | .t l,sl=>l.all fun i=>decide (sl[i]?=some none)
theorem zi2:∀(l:List Nat) (vs:List PV) (ρ:IC.Env) (j:Nat),j∉l->((l.zip vs).foldl (fun ρ p=>ρ.set p.1 (some p.2)) ρ)[j]?=ρ[j]?
 | [],vs,ρ,j,h=>by simp
 |i::is,[],ρ,j,h=>by simp
 |i::is,v::vs,ρ,j,h=>by
  simp only [List.zip_cons_cons,List.foldl_cons]
  rw [zi2 is vs _ j fun z=>h (List.mem_cons_of_mem _ z),List.getElem?_set_ne]
  rintro rfl
  exact h List.mem_cons_self
theorem ziX:∀(l:List Nat) (vs:List PV) (ρ:IC.Env),((l.zip vs).foldl (fun ρ p=>ρ.set p.1 (some p.2)) ρ).length=ρ.length
 | [],vs,ρ=>by simp
 |i::is,[],ρ=>by simp
 |i::is,v::vs,ρ=>by
  simp only [List.zip_cons_cons,List.foldl_cons]
  rw [ziX is vs,List.length_set]
theorem yF.untgt {sl:List (Option Nat)}{ρ0 ρ1:IC.Env}{v:PV}(hf:yam ct sl=true)(h0:∀(i:Nat),sl[i]?=some none->ρ0[i]?=some none)(hb:yL ct v ρ0=some ρ1)(re:yF K cl B φ H ρ1 σ):yF K cl B φ H ρ0 σ:=by
 cases ct with
 |n i =>
  cases hb
  simp only [yam,decide_eq_true_eq] at hf
  refine ⟨by rw [<- re.len,List.length_set],fun j w e=>re.get j w ?_⟩
  rw [List.getElem?_set_ne]
  ·exact e
  ·rintro rfl
   rw [h0 _ hf] at e;cases e
 |t l =>
  cases v with
  |tp k vs =>
   simp only [yL] at hb
   split at hb
   ·cases hb
    simp only [yam,List.all_eq_true,decide_eq_true_eq] at hf
    refine ⟨by rw [<- re.len,ziX],fun j w e=>re.get j w ?_⟩
    rw [zi2]
    ·exact e
    ·intro z
     rw [h0 _ (hf j z)] at e;cases e
   ·cases hb
  |_=>cases hb
theorem yF.inn {sl:List (Option Nat)}(re:yF K cl B φ H ρ σ):yF K cl B φ H (sl.map fun o=>o.bind fun j=>(ρ[j]?).join) (L2.inn sl σ):=by
 unfold L2.inn
 refine ⟨by simp,fun i v e=>?_⟩
 rw [List.getElem?_map] at e ⊢
 cases q:sl[i]? with
 |none=>rw [q] at e;cases e
 |some o =>
  rw [q] at e
  cases o with
  |none=>cases e
  |some j =>
   simp only [Option.map_some,Option.bind_some,Option.some.injEq] at e ⊢
   cases q2:ρ[j]? with
   |none=>rw [q2] at e;cases e
   |some w =>
    rw [q2] at e
    simp only [Option.join_some] at e
    subst e
    obtain ⟨x,hx,rv⟩:=re.get j v q2
    exact ⟨x,by rw [hx];rfl,rv⟩
theorem ybD:1000000<sizeLine:=by rw [sizeLine_eq];decide
theorem zmV {α:Type}{o:Option Bool}{k:Bool->R α}{z:α}{s:Store}(h:onO o k=.ok z s):∃b,o=some b/\k b=.ok z s:=by
 cases o with
 |none=>cases h
 |some b=>exact ⟨b,rfl,h⟩
theorem zdj {α β:Type}{r:R α}{k:α->Store->R β}{z:β}{s:Store}(h:r.bind k=.ok z s):∃a s1,r=.ok a s1/\k a s1=.ok z s:=by
 cases r with
 |ok a s1=>exact ⟨a,s1,rfl,h⟩
 |exc c s=>cases h
 |bad=>cases h
theorem zhM {sl:List (Option Nat)}(hf:yam ct sl=true){H:Hp}{Q:VK}(h:tE S X (.comp sl ct ci cc ce) σ H Q):ych sl (tI S X ci) (tG0 S X.K ct) (tT0 S X.K cc) (tE0 S X.K ce) σ H Q:=by
  obtain ⟨B,φ,st,ρ,rs,re,h⟩:=h
  simp only [ev] at h
  refine ⟨B,φ,st,ρ,rs,re,(Run.bind h).mono fun J H1 ⟨xs,st1,φ1,s1,rs1,dr,h1⟩=>fun D hD=>?_⟩
  generalize hone:(fun (x:PV) (st2:Store)=>match yL ct x (sl.map fun o=>o.bind fun j=>(ρ[j]?).join) with
   |none=>(R.bad:R (Option PV))
   |some ρ1=>(ev S.call ρ1 st2 cc).bind fun b st3=>onO (truV st3 b) fun k=>cond k ((ev S.call ρ1 st3 ce).bind fun y st4=>.ok (some y) st4) (.ok none st3))=one at h1
  cases e:yas one xs st1 with
  |exc k s=>rw [e] at h1;exact h1.elim
  |bad=>rw [e] at h1;exact h1.elim
  |ok zs st5 =>
   rw [e] at h1
   simp only [ybR] at h1
   split at h1
   case isFalse=>exact h1.elim
   rename_i hz
   have nB:¬B D:=rs1.nB hD
   have nD:some D∉φ1:=fun z=>by
    obtain ⟨w,e⟩:=rs1.there z
    rw [hD] at e;cases e
   refine ⟨fun i m σc ys H2=>∃φ2 st2 vs rest,i+m=xs.length/\Step φ1 H1 φ2 H2/\H2 D=some (.lst ys)/\some D∉φ2/\yw X.K S.cl (Bx B D) φ2 H2 st2/\yF X.K S.cl (Bx B D) φ2 H2 (sl.map fun o=>o.bind fun j=>(ρ[j]?).join) σc /\
     yo X.K S.cl (Bx B D) φ2 H2 vs ys/\yas one (xs.drop i) st2=.ok rest st5/\vs++rest=zs,
    ⟨xs.length,φ1,st1,[],zs,by omega,.upd hD,zU,nD,rs1.more hD,(yF.inn (re.step s1)).more hD,by simp only [yo],by simpa using e,rfl⟩,?_⟩
   rintro i m σc ys H2 ⟨φ2,st2,vs,rest,hm,s2,hD2,nD2,rs2,re2,l2,ec,ez⟩
   refine ⟨hD2,?_⟩
   by_cases hi:i<xs.length
   ·have hl2:=l2.length
    have hml:=ybD
    have hzl:=congrArg List.length ez
    rw [List.length_append] at hzl
    refine .inr ⟨dr.go i φ2 H2 s2 hi,by omega,fun σ' ys' H'=>∃φ2 st2 vs rest,Step φ1 H1 φ2 H'/\H' D=some (.lst ys')/\some D∉φ2/\yw X.K S.cl (Bx B D) φ2 H' st2/\yF X.K S.cl (Bx B D) φ2 H' (sl.map fun o=>o.bind fun j=>(ρ[j]?).join) σ' /\
     yo X.K S.cl (Bx B D) φ2 H' vs ys'/\yas one (xs.drop (i+1)) st2=.ok rest st5/\vs++rest=zs,fun σ' ys' H' ⟨φ2,st2,vs,rest,q⟩=>⟨m - 1,by omega,φ2,st2,vs,rest,by omega,q⟩,fun x H3 hy=>?_⟩
    obtain ⟨v,hv,rv,kk⟩:=dr.yld i φ2 H2 st2 x H3 (Bx B D) (fun y z=>z.elim .inl fun q=>.inr (q ▸ hD)) s2 rs2 hi hy
    have s3:Step φ2 H2 φ2 H3:=⟨fun b o _ e=>kk b o e,Nat.le_refl _,fun _ _ _ e=>e,fun _ h=>.inl h⟩
    have rs3:yw X.K S.cl (Bx B D) φ2 H3 st2:=rs2.same kk
    have ed:xs.drop i=v::xs.drop (i+1):=by
     rw [List.drop_eq_getElem_cons hi]
     rw [List.getElem?_eq_getElem hi] at hv
     rw [Option.some.inj hv]
    rw [ed,yas] at ec
    obtain ⟨o,st3,e1,ec⟩:=zdj ec
    obtain ⟨rest',st4,e2,ec⟩:=zdj ec
    rw [<- hone] at e1
    dsimp only at e1
    cases eb:yL ct v (sl.map fun o=>o.bind fun j=>(ρ[j]?).join) with
    |none=>rw [eb] at e1;cases e1
    |some ρ1 =>
     rw [eb] at e1
     dsimp only at e1
     obtain ⟨bv,st6,e3,e1⟩:=zdj e1
     obtain ⟨k,e4,e1⟩:=zmV e1
     have er:st4=st5/\ybP o rest'=rest:=by
      injection ec with q1 q2
      exact ⟨q2,q1⟩
     obtain ⟨rfl,rfl⟩:=er
     refine ⟨Bx B D,φ2,st2,_,v,ρ1,rs3,re2.step s3,rv,eb,fun σ4 re4=>⟨Bx B D,φ2,st2,ρ1,rs3,re4,?_⟩⟩
     have et:yaR (ev S.call ρ1 st2 cc)=.ok k st6:=by
      rw [e3]
      simp only [yaR,R.bind,e4,onO]
     rw [et]
     rintro k' H5 φ5 s5 rs5 rfl
     have nD5:some D∉φ5:=fun z=>by
      rcases s5.new D z with q|q
      ·exact nD2 q
      ·rw [kk D _ hD2] at q;cases q
     have hD5:H5 D=some (.lst ys):=s5.keep D _ nD2 (kk D _ hD2)
     have s25:Step φ1 H1 φ5 H5:=s2.trans (s3.trans s5)
     have l5:=(l2.step s3).step s5
     have re5:yF X.K S.cl (Bx B D) φ5 H5 ρ1 σ4:=re4.step s5
     have h0:∀(i:Nat),sl[i]?=some none->(sl.map fun o=>o.bind fun j=>(ρ[j]?).join)[i]?=some none:=fun i q=>by
      rw [List.getElem?_map,q];rfl
     cases k with
     |false =>
      simp only [cond_false] at e1
      cases e1
      exact ⟨φ5,_,vs,rest',s25,hD5,nD5,rs5,yF.untgt hf h0 eb re5,l5,e2,ez⟩
     |true =>
      simp only [cond_true] at e1
      obtain ⟨y,st7,e5,e1⟩:=zdj e1
      cases e1
      refine ⟨Bx B D,φ5,st6,ρ1,rs5,re5,?_⟩
      rw [e5]
      intro y' H6 φ6 s6 rs6 ry
      have nD6:some D∉φ6:=fun z=>by
       rcases s6.new D z with q|q
       ·exact nD5 q
       ·rw [hD5] at q;cases q
      have hD6:H6 D=some (.lst ys):=s6.keep D _ nD5 hD5
      have hBD:Bx B D D:=.inr rfl
      refine ⟨hD6,φ6,_,vs++[y],rest',?_,zU,nD6,rs6.skip hBD,(yF.untgt hf h0 eb (re5.step s6)).skip hBD,((l5.step s6).append (by simp only [yo];exact ⟨y',[],rfl,ry,rfl⟩)).skip hBD,e2,?_⟩
      ·have s16:=s25.trans s6
       exact ⟨fun b o n q=>by rw [zH (zO q hD)];exact s16.keep b o n q,s16.len,s16.pre,s16.new⟩
      ·simpa [ybP] using ez
   ·have ei:i=xs.length:=by omega
    subst ei
    rw [List.drop_length,yas] at ec
    cases ec
    refine .inl ⟨dr.stop φ2 H2 s2,h1 (.ref D) H2 φ2 s2 rs2.less ?_⟩
    simp only [ye]
    exact ⟨D,ys,rfl,⟨hD2,nB,nD2⟩,by rw [<- ez,List.append_nil];exact l2.less⟩
theorem zhx {sc:Scope}{NC:List Str}{sl:List (Option Nat)}{ifs:List Expr}(hc:X.calm=true)(O:yZ X sc NC sl)(hf:yam ct sl=true)(hi:KqI X tg iter (tI S X ci))(hg:∀j,KqG (cxC X sc NC j) tg (tG0 S X.K ct))
  (ht:∀j,ydK (cxC X sc NC j) ifs (tT0 S X.K cc)) (he:∀j,KqE (cxC X sc NC j) elt (tE0 S X.K ce)) (hs:∀x,foldedSetIterable iter X.env x=pure x:=by intro _;rfl) :
  KqE X (.ListComp elt [⟨tg,iter,ifs,0⟩] sc pos) (tE S X (.comp sl ct ci cc ce)):= by
 with_unfolding_all
 exact PE.imp (znN hc O hi hg ht he hs) fun σ H Q h=>zhM hf h
theorem zk7 {sc:Scope}{NC:List Str}{sl:List (Option Nat)}{ifs:List Expr}{i:Nat}{x:Str}{spos:Pos}(hN:X.N.Nodup)(hix:X.N[i]?=some x)(hx:Loc X.env.scope x)(hc:X.calm=true)(O:yZ X sc NC sl)(hf:yam ct sl=true)(hi:KqI X tg iter (tI S X ci))(hg:∀j,KqG (cxC X sc NC j) tg (tG0 S X.K ct))
  (ht:∀j,ydK (cxC X sc NC j) ifs (tT0 S X.K cc)) (he:∀j,KqE (cxC X sc NC j) elt (tE0 S X.K ce))
  (hsw:swapsWith (.ListComp elt [⟨tg,iter,ifs,0⟩] sc pos) (some (.Name x px)) spos.line X.env=pure true:=by rfl) (hs:∀x,foldedSetIterable iter X.env x=pure x:=by intro _;rfl)
  (hfn:X.fn x=true \/ X.env.scope.names.lookup x=some .local:=by first|exact .inl rfl|exact .inr rfl|assumption):KqS X (.Assign [.Name x px] (.ListComp elt [⟨tg,iter,ifs,0⟩] sc pos) spos) (tS S X (.asg (.n i) (.comp sl ct ci cc ce))):= by
 with_unfolding_all
 exact PS.imp (zlp hN hix hx hc O hi hg ht he hsw hs hfn) fun D σ H ⟨B,φ,st,ρ,rs,re,h⟩=>by
  refine zhM hf ?_
  simp only [ex] at h
  exact tE.fl rs re h fun x H1 v st1 φ1 s rs1 re1 rv h1=>h1 _ H1 φ1 .rfl rs1 (re1.set i rv)
end
noncomputable def spI (K:PySem.W.Frag)(cl:Nat->Addr)(call:Nat->List PV->Store->R PV)(f:Nat):Sp:=fun vs H Q E=>∃B φ st args,yw K cl B φ H st/\yo K cl B φ H args vs/\match call f args st with
 | .ok v st'=>∀x H' φ',Step φ H φ' H'->yw K cl B φ' H' st'->ye K cl B φ' H' v x->Q x H'
 | .exc c st'=>∀H' φ',Step φ H φ' H'->yw K cl B φ' H' st'->E (.ref (cl c)) none H'
 | .bad=>False
section
variable {S:Se}{X:Cx}{k:Nat}{f:Addr}{fd:FuncData}{ps ks:List Str}{sp:Sp}{dvs:List V}{ds:List Value}{x:Str}{p pos:Pos}{e:Expr}{es:List Expr}{t tk:TA}{CX:CXT}{σ:St}{H:Hp}
theorem ziu {pins:List (Addr×Obj)}{s:Shared}{Q:VK}{us:List Value}{vs:List V}{E:XK}(F:yaE X.prog X.w X.K X.mg X.base CX k f fd ps sp)(hr:yaj k X.A)(hb:Binds X.K fd ps ds)(hd:Vals dvs ds)
  (I:Inv X pins σ H s) (r:Vals vs us) (h:sp (vs++dvs) H Q E) (hx:∀e s',CX X.stack H s E e s'->X.xe e s'):wpAny (model X.prog X.w) X.A (call (.ref f) us) (EP X pins σ Q) X.xe s:=by
 have r2:Vals (vs++dvs) (us++ds):=r.append hd
 have hl:(us++ds).length=ps.length:=by rw [<- r2.length];exact F.len _ _ _ _ h
 refine wpAny_call (codeAny_mono (F.run X.A X.stack s H ⟨us,[]⟩ (us++ds) (vs++dvs) Q E hr I.env0 (hb s us I.kIn hl) r2 h) fun r s' hq=>?_)
 cases r with
 |error e=>exact hx e s' hq
 |ok fl =>
  cases fl with
  |ret u=>exact I.after hq
  |next=>exact False.elim hq
  |brk=>exact False.elim hq
  |cont=>exact False.elim hq
noncomputable def yc4 (CX:CXT)(X:Cx)(sp:Sp)(dvs:List V)(t:TA):TE:=fun σ H Q=>t σ H fun vs H1=>∃E:XK,sp (vs++dvs) H1 Q E/\∀pins s e s',Inv X pins σ H1 s->CX X.stack H1 s E e s'->X.xe e s'
theorem zmh (F:yaE X.prog X.w X.K X.mg X.base CX k f fd ps sp)(hr:yaj k X.A)(hg:Gl X x)(hm:X.mg x=some (.ref f))(hk:PySem.W.keepIn X.K (.ref f)=true)(hb:Binds X.K fd ps ds)(hd:Vals dvs ds)
  (ha:PA X (e::es) t) (hdb:(x == ("__debug__":Str))=false:=by decide) (he:starEach (e::es) X.env=(false,eval e X.env)::starEach es X.env:=by rfl) (hpl:(backTo pos (starEach es X.env)).any (·.1)=false:=by rfl) :
  PE X (.Call (.Name x p) (e::es) [] pos) (yc4 CX X sp dvs t):=by
 intro pins s σ H Q I h
 refine wpAny_Call_Name_kw (zeT I hg hm ?_ hdb)
 refine PySem.W.callWith_K (h₀:=X.base) I.ok.mod.kin hk (thn (ha pos pins s σ H _ I h) fun us s1 ⟨vs,H1,I1,r,E,q,hx⟩=>⟨I1.kIn,?_⟩) he hpl
 exact ziu F hr hb hd I1 r q fun e s' c=>hx pins s1 e s' I1 c
variable {B:Addr->Prop}{φ:Ph}{st:Store}{ces:Ces}{fi:Nat}
theorem zhH {vs:List PV}{xs:List V}{Q:VK}(rs:yw X.K S.cl B φ H st)(l:yo X.K S.cl B φ H vs xs)(h:Run S X σ B φ H (RV S X B) (S.call fi vs st) Q) :
  ∃E:XK,spI X.K S.cl S.call fi xs H Q E/\∀pins s e s',Inv X pins σ H s->CX1 X.prog X.w X.stack H s E e s'->X.xe e s':=by
 cases c:S.call fi vs st with
 |ok v st' =>
  rw [c] at h
  refine ⟨fun _ _ _=>False,⟨B,φ,st,vs,rs,l,by rw [c];exact h⟩,fun pins s e s' _ z=>?_⟩
  obtain ⟨_,_,_,_,_,_,_,_,_,_,_,_,_,_,z⟩:=z
  exact z.elim
 |exc k st' =>
  rw [c] at h
  refine ⟨fun cls _ H'=>cls=.ref (S.cl k)/\∃φ',Step φ H φ' H'/\yw X.K S.cl B φ' H' st',⟨B,φ,st,vs,rs,l,by rw [c];exact fun H' φ' s r=>⟨rfl,φ',s,r⟩⟩,fun pins s e s' I z=>h e s' (.inl ⟨pins,H,s,φ,I,.rfl,z⟩)⟩
 |bad=>rw [c] at h;exact h.elim
theorem zo (F:yaE X.prog X.w X.K X.mg X.base (CX1 X.prog X.w) k f fd ps (spI X.K S.cl S.call fi))(hr:yaj k X.A)(hg:Gl X x)(hm:X.mg x=some (.ref f))(hk:PySem.W.keepIn X.K (.ref f)=true)(hb:Binds X.K fd ps [])
  (ha:KqA X (e::es) (tAs S X ces)) (hdb:(x == ("__debug__":Str))=false:=by decide) (he:starEach (e::es) X.env=(false,eval e X.env)::starEach es X.env:=by rfl) (hpl:(backTo pos (starEach es X.env)).any (·.1)=false:=by rfl) :
  KqE X (.Call (.Name x p) (e::es) [] pos) (tE S X (.call fi ces)):= by
 with_unfolding_all
 exact PE.imp (zmh F hr hg hm hk hb .nil ha hdb he hpl) fun σ H Q ⟨B,φ,st,ρ,rs,re,h⟩=>by
  simp only [ev] at h
  refine tAs.bind rs re h fun xs H1 vs st1 φ1 s1 rs1 re1 rv h1=>?_
  rw [List.append_nil]
  exact zhH rs1 rv h1
end
section
variable {P:Program}{w:World}{K:PySem.W.Frag}{mg:Str->Option Value}{base:Heap}{cl:Nat->Addr}{T:Nat->Option IC.Fn}{fi:Nat}{fn:IC.Fn}{x qual:Str}{stm:Stmt}{f:Addr}{fd:FuncData}{N ps:List Str}{k:Nat}
theorem CX1.mono {outer:List PySem.Env}{H:Hp}{s:Shared}{E E':XK}{e:Value}{s':Shared}(h:CX1 P w outer H s E e s')(n:∀cls H',E cls none H'->E' cls none H'):CX1 P w outer H s E' e s':=by
 obtain ⟨a,cls,a0,H',Bh,r1,r2,r3,r4,r5,r6,r7,r8,r9,r10⟩:=h
 exact ⟨a,cls,a0,H',Bh,r1,r2,r3,r4,r5,r6,r7,r8,r9,n _ _ r10⟩
theorem yF.start {B:Addr->Prop}{φ:Ph}{H:Hp}{args:List PV}{vs:List V}(l:yo K cl B φ H args vs)(n:Nat)(hn:N.length - vs.length=n):yF K cl B φ H (args.map some++List.replicate n none) (L2.start N vs):=by
 have hl:=l.length
 unfold L2.start
 refine ⟨by simp [hl,hn],fun i v e=>?_⟩
 by_cases hi:i<args.length
 ·rw [List.getElem?_append_left (by simpa using hi),List.getElem?_map] at e
  cases q:args[i]? with
  |none=>rw [q] at e;cases e
  |some v' =>
   rw [q] at e
   cases e
   obtain ⟨y,hy,rv⟩:=l.get i q
   exact ⟨y,by rw [List.getElem?_append_left (by simp;omega),List.getElem?_map,hy];rfl,rv⟩
 ·rw [List.getElem?_append_right (by simp;omega),List.getElem?_replicate] at e
  split at e <;> cases e
theorem leave {N:List Str}{scope:Scope}{cd:Value}{A:Around}{outer:List PySem.Env}{s₀:Shared}{H₀:Hp}{E:XK}{call:Nat->List PV->Store->R PV}{σ:St}{B:Addr->Prop}{φ:Ph}{H:Hp}{c:Nat}{st':Store}{e:Value}{s':Shared}
  (h:ExcAt ⟨cl,call,true⟩ (yaL (CX1 P w) P w K mg base N qual scope f cd A outer s₀ H₀ E) σ B φ H c st' e s') (n:∀φ' H',Step φ H φ' H'->yw K cl B φ' H' st'->E (.ref (cl c)) none H') :
  (yaL (CX1 P w) P w K mg base N qual scope f cd A outer s₀ H₀ E).xe e s':=by
 rcases h with ⟨pins,H1,s,φ1,I,s1,q⟩|⟨_,pins,H1,s,φ1,h',e0,vs,I,s1,rs,mk,rfl,rfl⟩
 ·exact yem pins σ H1 s e s' I (q.mono fun cls H' ⟨e1,φ',s2,r⟩=>by subst e1;exact n φ' H' (s1.trans s2) r)
 ·exact zjZ I mk (n φ1 H1 s1 rs)
theorem zlc (hT:T fi=some fn):∀(args:List PV) (st:Store),yd T (k+1) fi args st ≠ .bad->args.length=fn.np:=fun args st hne=>by
 apply Classical.byContradiction
 intro c
 apply hne
 rw [yd,hT]
 exact if_neg c
theorem zmK (hT:T fi=some fn)(hnp:ps.length=fn.np){vs:List V}{H:Hp}{Q:VK}{E:XK}(h:spI K cl (yd T (k+1)) fi vs H Q E):vs.length=ps.length:=by
 obtain ⟨B,φ,st,args,rs,l,h⟩:=h
 rw [hnp,<- l.length]
 refine zlc (k:=k) hT args st fun z=>?_
 rw [z] at h
 exact h
theorem znw (hT:T fi=some fn)(hns:N.length=fn.ns){scope:Scope}{cdv:Value}{A:Around}{outer:List PySem.Env}{s:Shared}{vs:List V}{H:Hp}{Q:VK}{E:XK}(h:spI K cl (yd T (k+1)) fi vs H Q E) :
  tSs ⟨cl,yd T k,true⟩ (yaL (CX1 P w) P w K mg base N qual scope f cdv A outer s H E) fn.body { nx:=fun _ H'=>Q .non H',rt:=Q } (L2.start N vs) H:=by
 obtain ⟨B,φ,st,args,rs,l,h⟩:=h
 have hl:args.length=fn.np:=zlc (k:=k) hT args st fun z=>by rw [z] at h;exact h
 have hlen:=l.length
 rw [yd,hT] at h
 dsimp only at h
 rw [if_pos hl] at h
 by_cases hp:fn.pure=true
 ·rw [if_pos hp] at h
  by_cases hz:noLocs args=true
  ·rw [if_pos hz] at h
   have rs0:yw K cl (fun a=>B a \/ some a∈φ) [] H []:=⟨rfl,fun m n a e=>by simp at e,fun n a e=>by simp at e,fun n o e=>by simp at e,fun a z=>by simp at z,fun a z=>z.elim (rs.dom a) rs.there⟩
   have back:∀{φ':Ph} {H':Hp},Step [] H φ' H'->Step φ H φ H'/\yw K cl B φ H' st:=fun {φ' H'} s' =>
    have kk:∀b o,H b=some o->H' b=some o:=fun b o e=>s'.keep b o (by simp) e
    ⟨⟨fun b o _ e=>kk b o e,Nat.le_refl _,fun _ _ _ e=>e,fun _ h=>.inl h⟩,rs.same kk⟩
   refine ⟨_,[],[],_,rs0,yF.start (yo.inn rs.nb args vs hz l) (fn.ns - fn.np) (by omega),?_⟩
   show yai _ _ _ _ _ (exs (yd T k) (args.map some++List.replicate (fn.ns - fn.np) none) [] fn.body) _
   cases e:exs (yd T k) (args.map some++List.replicate (fn.ns - fn.np) none) [] fn.body with
   |nx ρ' st' =>
    rw [e] at h
    intro σ' H' φ' s' rs' re'
    obtain ⟨s2,r2⟩:=back s'
    exact h .non H' φ s2 r2 (by simp only [ye])
   |rt v st' =>
    rw [e] at h
    dsimp only at h
    by_cases hv:noLoc v=true
    ·rw [if_pos hv] at h
     intro y H' φ' s' rs' rv
     obtain ⟨s2,r2⟩:=back s'
     exact h y H' φ s2 r2 (ye.out v y hv rv)
    ·rw [if_neg hv] at h
     exact h.elim
   |exc c ρ' st' =>
    rw [e] at h
    intro σ' φ1 H1 ev s' s1 _ ex
    refine leave ex fun φ2 H2 s2 _=>?_
    obtain ⟨s3,r3⟩:=back (s1.trans s2)
    exact h H2 φ s3 r3
   |bk ρ' st'=>rw [e] at h;exact h.elim
   |ct ρ' st'=>rw [e] at h;exact h.elim
   |bad=>rw [e] at h;exact h.elim
  ·rw [if_neg hz] at h
   exact h.elim
 ·rw [if_neg hp] at h
  refine ⟨B,φ,st,_,rs,yF.start l (fn.ns - fn.np) (by omega),?_⟩
  show yai _ _ _ _ _ (exs (yd T k) (args.map some++List.replicate (fn.ns - fn.np) none) st fn.body) _
  cases e:exs (yd T k) (args.map some++List.replicate (fn.ns - fn.np) none) st fn.body with
  |nx ρ' st' =>
   rw [e] at h
   intro σ' H' φ' s' rs' re'
   exact h .non H' φ' s' rs' (by simp only [ye])
  |rt v st' =>
   rw [e] at h
   intro y H' φ' s' rs' rv
   exact h y H' φ' s' rs' rv
  |exc c ρ' st' =>
   rw [e] at h
   intro σ' φ1 H1 ev s' s1 _ ex
   exact leave ex fun φ2 H2 s2 r2=>h H2 φ2 (s1.trans s2) r2
  |bk ρ' st'=>rw [e] at h;exact h.elim
  |ct ρ' st'=>rw [e] at h;exact h.elim
  |bad=>rw [e] at h;exact h.elim
end
noncomputable def tyN:Ty->String
 | .int=>"int" | .bool=>"bool" | .str=>"str" | .tuple=>"tuple" | .list=>"list" | _=>""
structure ycV (K:PySem.W.Frag)(t:Ty):Prop where
 n:PySem.W.kitOne K (.type "NoneType") (.type (tyN t))=some (yP .non t)
 b:PySem.W.kitOne K (.type "bool") (.type (tyN t))=some (yP (.bl true) t)
 i:PySem.W.kitOne K (.type "int") (.type (tyN t))=some (yP (.int 0) t)
 s:PySem.W.kitOne K (.type "str") (.type (tyN t))=some (yP (.str Str.empty) t)
 p:PySem.W.kitOne K (.type "tuple") (.type (tyN t))=some (yP (.tp true []) t)
 l:PySem.W.kitOne K (.type "list") (.type (tyN t))=some (yP (.lst []) t)
section
variable {S:Se}{X:Cx}{σ:St}{B:Addr->Prop}{φ:Ph}{H:Hp}{st:Store}{p pos p2 px:Pos}{a b c d o:Expr}{ca cb cc:Ce}{t:Ty}
noncomputable def yfK (S:Se)(X:Cx)(t:Ty):List V->Hp->VK->Prop:=fun xs H Q=>∃B φ st v x z,xs=[x,.ty (tyN t)]/\yw X.K S.cl B φ H st/\ye X.K S.cl B φ H v x/\yU v [t]=some z/\yac t=true /\
 ∀z' H' φ',Step φ H φ' H'->yw X.K S.cl B φ' H' st->ye X.K S.cl B φ' H' z z'->Q z' H'
theorem zo6 (Z:ycV X.K t):yad X (.builtin "isinstance") (yfK S X t):=by
 rintro pins s σ H xs us Q I r ⟨B,φ,st,v,x,z,rfl,rs,rv,e,hb,q⟩
 obtain ⟨u,c',rfl,ru,rc⟩:=vals2 r
 cases (show c'=Value.type (tyN t) from rc)
 have fin:∀(k:Bool) (tk:Nat),z=.bl k->EP X pins σ Q (.bool k) { s with toks:=tk }:=fun k tk ez=>⟨.bl k,H,I.tok tk,rfl,q _ H φ .rfl rs (by subst ez;simp only [ye])⟩
 cases v with
 |non =>
  simp only [ye] at rv;subst rv
  cases (show u=Value.none from ru)
  simp only [yU,hb,if_true] at e
  exact PySem.W.kia_one PySem.W.kitx_none I.kIn True.intro Z.n (fun z=>nomatch z) fun tk=>fin _ tk (by cases e;cases t <;> rfl)
 |bl k =>
  simp only [ye] at rv;subst rv
  cases (show u=Value.bool k from ru)
  simp only [yU,hb,if_true] at e
  exact PySem.W.kia_one PySem.W.kitx_bool I.kIn True.intro Z.b (fun z=>nomatch z) fun tk=>fin _ tk (by cases e;cases t <;> rfl)
 |int k =>
  simp only [ye] at rv;subst rv
  obtain ⟨tk,rfl⟩:=ru
  simp only [yU,hb,if_true] at e
  exact PySem.W.kia_one PySem.W.kitx_int I.kIn True.intro Z.i (fun z=>nomatch z) fun tk=>fin _ tk (by cases e;cases t <;> rfl)
 |str k =>
  simp only [ye] at rv;subst rv
  obtain ⟨tk,rfl⟩:=ru
  simp only [yU,hb,if_true] at e
  exact PySem.W.kia_one PySem.W.kitx_str I.kIn True.intro Z.s (fun z=>nomatch z) fun tk=>fin _ tk (by cases e;cases t <;> rfl)
 |tp k vs =>
  simp only [ye] at rv
  obtain ⟨y,ys,rfl,rt,l⟩:=rv
  cases (show u=Value.ref y from ru)
  simp only [yU,hb,if_true] at e
  obtain ⟨its,_,⟨o,g,c,_,_⟩,_⟩:=I.tuple rt.sq
  exact PySem.W.kia_one PySem.W.kitx_tuple I.kIn ⟨o,g,c⟩ Z.p (fun z=>nomatch z) fun tk=>fin _ tk (by cases e;cases t <;> rfl)
 |lst vs =>
  simp only [ye] at rv
  obtain ⟨y,ys,rfl,rt,l⟩:=rv
  cases (show u=Value.ref y from ru)
  simp only [yU,hb,if_true] at e
  obtain ⟨_,_,n,_,h1⟩:=(show yI X.prog X.w H s.heap y (.lst ys) from I.hok y _ rt.1)
  exact PySem.W.kia_one PySem.W.kitx_list I.kIn ⟨_,h1,rfl⟩ Z.l (fun z=>nomatch z) fun tk=>fin _ tk (by cases e;cases t <;> rfl)
 |loc n=>cases e
 |scr n=>cases e
 |exn n=>simp only [yU,List.all_cons,List.all_nil,hb,Bool.and_self,if_true] at e;cases e
theorem zba {T:Str}(Z:ycV X.K t)(ht:yac t=true)(hg:Gl X "isinstance")(hm:X.mg "isinstance"=none)(hgT:Gl X T)(hmT:X.mg T=none)(hT:bootBuiltins T=some (.type (tyN t)))(ha:KqE X a (tE S X ca))(hnT:T ≠ "__name__":=by decide)(hdT:(T == ("__debug__":Str))=false:=by decide)
  (he:starEach [a,.Name T p2] X.env=(false,eval a X.env)::starEach [.Name T p2] X.env:=by rfl) (hpl:(backTo pos (starEach [.Name T p2] X.env)).any (·.1)=false:=by rfl) :
  KqE X (.Call (.Name "isinstance" p) [a,.Name T p2] [] pos) (tE S X (.isi ca [t])):= by
 with_unfolding_all
 exact PE.imp (zfi (zo6 Z) hg hm PyProof.Rows.boot_isinstance (zbC ha (zbC (zkH (v:=.ty (tyN t)) hgT hmT hT rfl hnT hdT) yaw) he) (by decide) (by decide) he hpl) fun σ H Q ⟨B,φ,st,ρ,rs,re,h⟩=>by
  simp only [ev] at h
  refine tE.bind rs re h fun x H1 v st1 φ1 s1 rs1 re1 rv h1=>?_
  obtain ⟨z,e,q⟩:=zbp h1 rs1
  exact ⟨B,φ1,st1,v,x,z,rfl,rs1,rv,e,ht,q⟩
theorem zi1 {st4:Store}{x y v:PV}(h:yat st x y v=some st4):∃n xs k j,x=.loc n/\st[n]?=some (.lst xs)/\y=.int k/\ixI xs.length k=some j/\st4=st.set n (.lst (xs.set j v)):=by
 cases x with
 |loc n =>
  simp only [yat] at h
  cases q:st[n]? with
  |none=>rw [q] at h;cases h
  |some o =>
   rw [q] at h
   cases o with
   |lst xs =>
    cases y with
    |int k =>
     dsimp only at h
     cases q2:ixI xs.length k with
     |none=>rw [q2] at h;cases h
     |some j=>rw [q2] at h;exact ⟨n,xs,k,j,rfl,q,rfl,q2,(Option.some.inj h).symm⟩
    |_=>cases h
   |_=>cases h
 |_=>cases h
theorem yo.put {K:PySem.W.Frag}{cl:Nat->Addr}:∀{vs:List PV} {xs:List V} (j:Nat) {v:PV} {x:V},yo K cl B φ H vs xs->ye K cl B φ H v x->yo K cl B φ H (vs.set j v) (xs.set j x)
 | [],xs,j,v,x,l,r=>by simp only [yo] at l;subst l;simp [yo]
 |w::vs,xs,0,v,x,l,r=>by
  simp only [yo] at l
  obtain ⟨y,ys,rfl,_,l⟩:=l
  simp only [List.set_cons_zero,yo]
  exact ⟨x,ys,rfl,r,l⟩
 |w::vs,xs,j+1,v,x,l,r=>by
  simp only [yo] at l
  obtain ⟨y,ys,rfl,ry,l⟩:=l
  simp only [List.set_cons_succ,yo]
  exact ⟨y,ys.set j x,rfl,ry,yo.put j l r⟩
theorem zdK (he:KqE X a (tE S X ca))(ho:KqE X b (tE S X cb))(hi:KqE X c (tE S X cc))(hs:swapsWithSole [.Subscript b c px] a pos.line X.env=pure false:=by rfl)(hw:swappedStores [.Subscript b c px] a X.env=pure none:=by rfl)
  (hg:KqG X (.Subscript b c px) (yc0 (tE S X cb) (tE S X cc) ybY):=by exact zm1 ‹_› ‹_› zbw):KqS X (.Assign [.Subscript b c px] a pos) (tS S X (.six cb cc ca)):= by
 with_unfolding_all
 exact PS.imp (zlo he hg hs hw) fun D σ H ⟨B,φ,st,ρ,rs,re,h⟩=>by
  simp only [ex] at h
  refine tE.fl rs re h fun v' H1 v st1 φ1 s1 rs1 re1 rv h1=>tE.fl rs1 re1 h1 fun x' H2 x st2 φ2 s2 rs2 re2 rx h2=>tE.fl rs2 re2 h2 fun y' H3 y st3 φ3 s3 rs3 re3 ry h3=>?_
  cases e:yat st3 x y v with
  |none=>rw [e] at h3;exact h3.elim
  |some st4 =>
   rw [e] at h3
   obtain ⟨n,xs,k,j,rfl,hn,rfl,hj,rfl⟩:=zi1 e
   simp only [ye] at ry
   subst ry
   obtain ⟨l,ys,rfl,hp,hx,lr⟩:=rs3.list (rx.step s3) hn
   refine ⟨l,ys,k,j,rfl,rfl,hx,by rw [<- lr.length];exact hj,?_⟩
   have s4:Step φ3 H3 φ3 (L2.upd H3 l (.lst (ys.set j v'))):=.put (List.mem_of_getElem? hp)
   exact h3 σ _ φ3 s4 (rs3.put hp ⟨_,zU,(lr.put j ((rv.step s2).step s3)).step s4⟩) (re3.step s4)
end
section
variable {S:Se}{X:Cx}{σ:St}{B:Addr->Prop}{φ:Ph}{H:Hp}{st:Store}{p pos p2 px py pt pt2 apos:Pos}{a b c d o:Expr}{ca cb cc:Ce}{kt k2:Nat}
theorem zmA {i j:Nat}{x y:Str}(hc:X.calm=true)(hN:X.N.Nodup)(hi:X.N[i]?=some x)(hj:X.N[j]?=some y)(hij:i≠j)(h:KqS X (.Assign [.Tuple [.Name x px,.Name y py] kt pt] (.Tuple [a,b] k2 pt2) pos) (yd3 i j (tAs S X (.cons ca (.cons cb .nil))))) :
  KqS X (.Assign [.Tuple [.Name x px,.Name y py] kt pt] (.Tuple [a,b] k2 pt2) pos) (tS S X (.asg (.t [i,j]) (.tup (.cons ca (.cons cb .nil))))):= by
 with_unfolding_all
 exact h.imp fun D σ H ⟨B,φ,st,ρ,rs,re,h⟩=>by
  simp only [ex,ev] at h
  refine ⟨B,φ,st,ρ,rs,re,?_⟩
  cases e:evs S.call ρ st (.cons ca (.cons cb .nil)) with
  |bad=>rw [e] at h;exact h
  |exc k st'=>rw [e] at h;exact fun e s' x=>h σ φ H e s' .rfl re x
  |ok vs st' =>
   rw [e] at h
   intro xs H' φ' s rs' l
   simp only [R.bind] at h
   split at h
   ·rcases vs with _|⟨v,_|⟨w,_|⟨u,t⟩⟩⟩
    ·exact h.elim
    ·exact h.elim
    ·obtain ⟨v',w',rfl,rv,rw⟩:=l.two
     refine ⟨v',w',rfl,?_⟩
     exact h _ H' φ' s rs' (((re.step s).set i rv).set j rw)
    ·exact h.elim
   ·exact h.elim
theorem zny {bo:BOp}{v w z:PV}(h:ybU bo v w=some z):∃i j,v=.int i/\w=.int j/\IC.binI bo i j=some z:=by
 unfold ybU at h
 split at h
 ·exact ⟨_,_,rfl,rfl,h⟩
 ·cases h
theorem zoi:PIp X .Add (rT2 S X (ybU .add)):=by
 rintro pins s σ H x y v u Q I rx ry ⟨B,φ,st,a,b,z,rs,ra,rb,e,q⟩
 obtain ⟨i,j,rfl,rfl,e⟩:=zny e
 cases e
 simp only [ye] at ra rb
 subst ra rb
 exact zpl pins s σ H _ _ v u Q I rx ry ⟨i,j,rfl,rfl,q _ H φ .rfl rs (by simp only [ye])⟩
end
open Classical in
noncomputable def eqR (h:Heap)(dw:PyData)(u:Value):Bool:=decide (∃d as,Reads h u d as/\PyData.eqv d dw=true)
theorem zmM {h:Heap}{u:Value}{d dw:PyData}{as:List Addr}(r:Reads h u d as):eqR h dw u=PyData.eqv d dw:=by
 unfold eqR
 classical
 cases c:PyData.eqv d dw with
 |true=>exact decide_eq_true (p:=∃d as,Reads h u d as/\PyData.eqv d dw=true) ⟨d,as,r,c⟩
 |false =>
  refine decide_eq_false ?_
  rintro ⟨d',as',r',q⟩
  have:=(reads_det (fun b o e _=>e) r r').1
  subst this
  rw [c] at q
  cases q
section
variable {S:Se}{X:Cx}{σ:St}{B:Addr->Prop}{φ φ1:Ph}{H H1:Hp}{st:Store}{ρ:IC.Env}{p pos p2 px py pt pt2:Pos}{a b c d o a' b' c' d':Expr}{ca cb cc cd ce cf:Ce}{pins:List (Addr×Obj)}{s:Shared}{kt k2:Nat}{es:List Expr}{ces:Ces}{x:Str}
theorem zkd (I:Inv X pins σ H s)(w:PV)(hw:shd 60 w=true):∀(vs:List PV) (xs:List V) (us:List Value),ya8 60 vs=true->yo X.K S.cl B φ H vs xs->Vals xs us->us.any (eqR s.heap (toD w))=inL w vs
 | [],xs,us,h,r,q=>by
  simp only [yo] at r;subst r;cases q;rfl
 |v::vs,xs,us,h,r,q=>by
  simp only [yo] at r
  obtain ⟨y,ys,rfl,rv,l⟩:=r
  simp only [ya8,Bool.and_eq_true] at h
  cases q with
  |cons q1 q2 =>
   obtain ⟨as,z1⟩:=zch (S:=S) I v 60 y _ h.1 rv q1
   rw [List.any_cons,zkd I w hw vs ys _ h.2 l q2,zmM z1,zgW v w 60 60 h.1 hw]
   rfl
theorem zkw (I:Inv X pins σ H s)(w:PV)(hw:shd 60 w=true){wv:Value}{bs:List Addr}(zw:Reads s.heap wv (toD w) bs)(hu:X.A.units+64<cLine):∀(vs:List PV) (xs:List V) (us:List Value),ya8 60 vs=true->yo X.K S.cl B φ H vs xs->Vals xs us->∀u∈us,SeqAt.EqAt X.A.in1 s u wv (eqR s.heap (toD w) u)
 | [],xs,us,h,r,q=>by
  simp only [yo] at r;subst r;cases q;intro u hu;cases hu
 |v::vs,xs,us,h,r,q=>by
  simp only [yo] at r
  obtain ⟨y,ys,rfl,rv,l⟩:=r
  simp only [ya8,Bool.and_eq_true] at h
  cases q with
  |cons q1 q2 =>
   obtain ⟨as,z1⟩:=zch (S:=S) I v 60 y _ h.1 rv q1
   intro u hm
   rcases List.mem_cons.mp hm with rfl|hm
   ·rw [zmM z1]
    obtain ⟨l1,d1⟩:=zgN v 60 h.1
    obtain ⟨l2,d2⟩:=zgN w 60 hw
    refine SeqAt.eqAt_reads _ _ X.A.in1 s _ _ as bs z1 zw l1 l2 ?_
    show X.A.units+1+_<_
    omega
   ·exact zkw I w hw zw hu vs ys _ h.2 l q2 u hm
noncomputable def rTs (S:Se)(X:Cx)(f:Store->PV->PV->Option PV):R2:=fun x y H Q=>∃B φ st v w z,yw X.K S.cl B φ H st/\ye X.K S.cl B φ H v x/\ye X.K S.cl B φ H w y/\f st v w=some z /\
 ∀z' H' φ',Step φ H φ' H'->yw X.K S.cl B φ' H' st->ye X.K S.cl B φ' H' z z'->Q z' H'
theorem zoP (hu:X.A.units+64<cLine):OpR X (compareOp .NotIn) (rTs S X ycv):=by
 rintro pins s σ H x y v u Q I rx ry ⟨B,φ,st,a,b,z,rs,ra,rb,e,q⟩
 cases b with
 |loc n =>
  simp only [ycv] at e
  split at e
  ·rename_i ws hz
   split at e
   ·rename_i c
    rw [Bool.and_eq_true] at c
    cases e
    obtain ⟨l,ys,rfl,hn,hx,lr⟩:=rs.list rb hz
    cases (show u=Value.ref l from ry)
    obtain ⟨_,its,k,r,hl,e2⟩:=I.lstM hx
    obtain ⟨bs,z1⟩:=zch (S:=S) I a 60 x v c.1 ra rx
    refine SeqAt.notIn_listAt (eqR s.heap (toD a)) (items:=its.toArray) ⟨_,e2,rfl,_,rfl⟩ (fun w hw=>zkw (S:=S) I a c.1 z1 hu ws ys its c.2 lr r w (by simpa using hw)) ⟨.bl _,H,I,rfl,?_⟩
    rw [show its.toArray.any (eqR s.heap (toD a))=its.any (eqR s.heap (toD a)) by simp,zkd (S:=S) I a c.1 ws ys its c.2 lr r]
    exact q _ H φ .rfl rs (by simp only [ye])
   ·cases e
  ·cases e
 |_=>cases e
theorem zok {st:Store}{x y z:PV}(h:ycv st x y=some z):∃k,z=.bl k:=by
 unfold ycv at h
 split at h
 ·split at h
  ·split at h
   ·cases h;exact ⟨_,rfl⟩
   ·cases h
  ·cases h
 ·cases h
theorem zme (hu:X.A.units+64<cLine)(ha:KqE X a (tE S X ca))(hb:KqE X b (tE S X cb))(hm:behindInMarks .NotIn b=false):KqT X (.Compare a [.NotIn] [b] pos) (tTs S X (.nin ca cb)):= by
 with_unfolding_all
 exact PT.imp (zkY (zoP hu) ha hb hm) fun σ H Q ⟨B,φ,st,ρ,rs,re,h⟩=>by
  simp only [ev,yaR,R.bind_assoc] at h
  refine tE.bind rs re h fun x H1 v st1 φ1 s1 rs1 re1 rv h1=>tE.bind rs1 re1 h1 fun y H2 w st2 φ2 s2 rs2 re2 rw h2=>?_
  cases e:ycv st2 v w with
  |none=>rw [e] at h2;exact h2.elim
  |some z =>
   obtain ⟨k,rfl⟩:=zok e
   rw [e] at h2
   refine ⟨B,φ2,st2,v,w,.bl k,rs2,rv.step s2,rw,e,fun z' H' φ' s' rs' rz=>?_⟩
   simp only [ye] at rz
   exact ⟨k,rz,h2 k H' φ' s' rs' rfl⟩
theorem zjt (hg:Gl X "list")(hm:X.mg "list"=none)(hv:bootBuiltins "list"=some (.type "list"))(ha:KqA X [a] (tAs S X (.cons ca .nil)))
  (he:starEach [a] X.env=(false,eval a X.env)::starEach [] X.env:=by rfl) (hpl:(backTo pos (starEach [] X.env)).any (·.1)=false:=by rfl):KqE X (.Call (.Name "list" p) [a] [] pos) (tE S X (.thw (.blt .list (.cons ca .nil)))):= by
 with_unfolding_all
 exact PE.imp (zhz ze6 hg hm hv ha (by decide) (by decide) he hpl) fun σ H Q ⟨B,φ,st,ρ,rs,re,h⟩=>by
  simp only [ev,R.bind_assoc] at h
  refine tAs.bind rs re h fun xs H1 vs st1 φ1 s1 rs1 re1 rv h1=>?_
  cases e:yaf .list st1 vs with
  |none=>rw [e] at h1;exact h1.elim
  |some z =>
   rw [e] at h1
   obtain ⟨v,rfl⟩:=zeL e fun _ _=>rfl
   obtain ⟨x,rfl,rv1⟩:=rv.one
   simp only [yaf] at e
   cases e1:yay st1 v with
   |none=>rw [e1] at e;cases e
   |some ws =>
    rw [e1] at e
    cases e
    obtain ⟨y,ys,rfl,hq,l⟩:=zli rs1 rv1 e1
    refine ⟨y,ys,rfl,hq,fun D hD=>?_⟩
    simp only [toR,R.bind,ydA] at h1
    exact h1 _ _ (φ1++[some D]) (.push hD) (rs1.push hD (rs1.nB hD) ⟨ys,zU,l.step (.push hD)⟩) (.loc_new rs1)
theorem tAs.fl {D:Ends}{k:List PV->Store->Fl}{P:List V->Hp->Prop}(rs:yw X.K S.cl B φ H st)(re:yF X.K S.cl B φ H ρ σ)(h:yai S X B φ H ((evs S.call ρ st ces).fl ρ k) D)
  (n:∀x H1 v st1 φ1,Step φ H φ1 H1->yw X.K S.cl B φ1 H1 st1->yF X.K S.cl B φ1 H1 ρ σ->yo X.K S.cl B φ1 H1 v x->yai S X B φ1 H1 (k v st1) D->P x H1):tAs S X ces σ H P:=by
 refine ⟨B,φ,st,ρ,rs,re,?_⟩
 cases e:evs S.call ρ st ces with
 |ok v st' =>
  rw [e] at h
  exact fun x H' φ' s rs' rv=>n x H' v st' φ' s rs' (re.step s) rv (h.on s)
 |exc k st' =>
  rw [e] at h
  exact fun e s' x=>h σ φ H e s' .rfl re x
 |bad=>rw [e] at h;exact h
theorem zkk {D:Ends}{k:Store->Fl}{P:Hp->Prop}{x y v:PV}{x' y' v':V}(rs:yw X.K S.cl B φ H st)(re:yF X.K S.cl B φ H ρ σ)(rx:ye X.K S.cl B φ H x x')(ry:ye X.K S.cl B φ H y y')(rv:ye X.K S.cl B φ H v v')
  (h:yai S X B φ H (match yat st x y v with
   |none=>.bad
   |some st5=>k st5) D)
  (n:∀H1 st1,Step φ H φ H1->yw X.K S.cl B φ H1 st1->yF X.K S.cl B φ H1 ρ σ->yai S X B φ H1 (k st1) D->P H1):ybY x' y' v' H P:=by
 cases e:yat st x y v with
 |none=>rw [e] at h;exact h.elim
 |some st4 =>
  rw [e] at h
  obtain ⟨n',xs,k',j,rfl,hn,rfl,hj,rfl⟩:=zi1 e
  simp only [ye] at ry
  subst ry
  obtain ⟨l,ys,rfl,hp,hx,lr⟩:=rs.list rx hn
  refine ⟨l,ys,k',j,rfl,rfl,hx,by rw [<- lr.length];exact hj,?_⟩
  have s4:Step φ H φ (L2.upd H l (.lst (ys.set j v'))):=.put (List.mem_of_getElem? hp)
  exact n _ _ s4 (rs.put (o:=.lst (xs.set j v)) hp ⟨_,zU,(lr.put j rv).step s4⟩) (re.step s4) (h.on s4)
theorem zhJ (hc:X.calm=true)(he:KqA X [a,b] (tAs S X (.cons ca (.cons cb .nil))))(ho:KqE X c (tE S X cc))(hi:KqE X d (tE S X cd))(ho2:KqE X c' (tE S X ce))(hi2:KqE X d' (tE S X cf))
  (hg1:KqG X (.Subscript c d px) (yc0 (tE S X cc) (tE S X cd) ybY)) (hg2:KqG X (.Subscript c' d' py) (yc0 (tE S X ce) (tE S X cf) ybY))
  (hs:swapsWithSole [.Tuple [.Subscript c d px,.Subscript c' d' py] kt pt] (.Tuple [a,b] k2 pt2) pos.line X.env=pure false:=by rfl) (hw:swappedStores [.Tuple [.Subscript c d px,.Subscript c' d' py] kt pt] (.Tuple [a,b] k2 pt2) X.env=pure none:=by rfl) :
  KqS X (.Assign [.Tuple [.Subscript c d px,.Subscript c' d' py] kt pt] (.Tuple [a,b] k2 pt2) pos) (tS S X (.six2 cc cd ce cf ca cb)):= by
 with_unfolding_all
 exact PS.imp (zlo (zlu he) (zmN hc (zha hg1 (zha hg2 ybX))) hs hw) fun D σ H ⟨B,φ,st,ρ,rs,re,h⟩=>by
  simp only [ex] at h
  have h':yai S X B φ H ((evs S.call ρ st (.cons ca (.cons cb .nil))).fl ρ fun vs st2=>match vs with
   | [v,w]=>(ev S.call ρ st2 cc).fl ρ fun x st3=>(ev S.call ρ st3 cd).fl ρ fun y st4=>match yat st4 x y v with
    |none=>.bad
    |some st5=>(ev S.call ρ st5 ce).fl ρ fun x2 st6=>(ev S.call ρ st6 cf).fl ρ fun y2 st7=>match yat st7 x2 y2 w with
     |some st8=>.nx ρ st8
     |none=>.bad
   |_=>.bad) D:=by
   simp only [evs]
   cases e:ev S.call ρ st ca with
   |ok v st1 =>
    rw [e] at h
    simp only [R.bind,R.fl] at h ⊢
    cases e2:ev S.call ρ st1 cb with
    |ok w st2=>rw [e2] at h;exact h
    |exc k s=>rw [e2] at h;exact h
    |bad=>rw [e2] at h;exact h
   |exc k s=>rw [e] at h;exact h
   |bad=>rw [e] at h;exact h
  refine tAs.fl rs re h' fun xs H1 vs st1 φ1 s1 rs1 re1 rl h1=>?_
  rcases vs with _|⟨v,_|⟨w,_|⟨u,t⟩⟩⟩
  ·exact h1.elim
  ·exact h1.elim
  ·obtain ⟨v',w',rfl,rv,rw⟩:=rl.two
   refine ⟨by show 2<=sizeLine;decide,fun p hp=>⟨p,[v',w'],rfl,.inl (.inl zU),rfl,v',[w'],rfl,?_⟩⟩
   have s2:Step φ1 H1 φ1 (L2.upd H1 p (.tup [v',w'])):=.upd hp
   refine tE.fl (rs1.upd hp) (re1.step s2) (h1.on s2) fun x' H3 x st3 φ3 s3 rs3 re3 rx h3=>tE.fl rs3 re3 h3 fun y' H4 y st4 φ4 s4 rs4 re4 ry h4=>?_
   refine zkk rs4 re4 (rx.step s4) ry (((rv.step s2).step s3).step s4) h4 fun H5 st5 s5 rs5 re5 h5=>⟨w',[],rfl,?_⟩
   refine tE.fl rs5 re5 h5 fun x2' H6 x2 st6 φ6 s6 rs6 re6 rx2 h6=>tE.fl rs6 re6 h6 fun y2' H7 y2 st7 φ7 s7 rs7 re7 ry2 h7=>?_
   have h7':yai S X B φ7 H7 (match yat st7 x2 y2 w with
    |none=>.bad
    |some st8=>.nx ρ st8) D:=by
    cases e:yat st7 x2 y2 w with
    |none=>rw [e] at h7;exact h7
    |some st8=>rw [e] at h7;exact h7
   refine zkk rs7 re7 (rx2.step s7) ry2 ((((((rw.step s2).step s3).step s4).step s5).step s6).step s7) h7' fun H8 st8 s8 rs8 re8 h8=>⟨rfl,?_⟩
   exact h8 σ _ φ7 .rfl rs8 re8
  ·exact h1.elim
end
end L2
namespace WK
open PySem L2 IC
structure Fn (K:PySem.W.Frag)(mg:Str->Option Value)(x:Str)(st:Stmt)(ps:List Str)(f:Addr)(fd:FuncData):Prop where
 F:Fun K x x st f fd
 b:Binds K fd ps []
 m:mg x=some (.ref f)
theorem zkP:bootBuiltins "int"=some (.type "int"):=by decide +kernel
theorem zlh:bootBuiltins "bool"=some (.type "bool"):=by decide +kernel
theorem ziJ:bootBuiltins "str"=some (.type "str"):=by decide +kernel
theorem zcX:bootBuiltins "tuple"=some (.type "tuple"):=by decide +kernel
theorem zjT:bootBuiltins "list"=some (.type "list"):=by decide +kernel
theorem zaK:bootBuiltins "len"=some (.builtin "len"):=by decide +kernel
theorem zo0:bootBuiltins "min"=some (.builtin "min"):=by decide +kernel
theorem zmL:bootBuiltins "all"=some (.builtin "all"):=by decide +kernel
theorem zaD {k:Nat}{A:Around}(r:yaj k A):A.units+1<cLine:=by have:=r.units;omega
def yh (N:List Str)(sc:Scope):Prop:=(N.all fun x=>decide (sc.names.lookup x=some .local) || decide (sc.names.lookup x=some .cell))=true
theorem lcF {N:List Str}{sc:Scope}{i:Nat}{x:Str}(V:yh N sc)(h:N[i]?=some x):Loc sc x:=by
 have:=List.all_eq_true.mp V x (List.mem_of_getElem? h)
 rw [Bool.or_eq_true,decide_eq_true_eq,decide_eq_true_eq] at this
 exact this
theorem zk {S:Se}{X:Cx}{x:Str}{pos:Pos}(V:yh X.N X.env.scope)(i:Nat)(hN:X.N[i]?=some x:=by rfl)(hd:(x == ("__debug__":Str))=false:=by decide)(hcd:(x == ("__classdict__":Str))=false:=by decide):KqE X (.Name x pos) (tE S X (.var i)):= by
 with_unfolding_all
 exact zmH hN (by rcases lcF V hN with h|h;exact .inl h;exact .inr (.inl h)) hd hcd
theorem yb0 {S:Se}{X:Cx}(i:Nat){x:Str}{pos:Pos}(hN:X.N[i]?=some x:=by rfl)(hv:Vis X.env.scope x:=by first|exact Or.inl rfl|exact Or.inr (Or.inl rfl)|exact Or.inr (Or.inr rfl))(hd:(x == ("__debug__":Str))=false:=by decide)
  (hcd:(x == ("__classdict__":Str))=false:=by decide):KqE X (.Name x pos) (tE S X (.var i)):= by
 with_unfolding_all
 exact zmH hN hv hd hcd
end WK
namespace L2
open PySem PySem.Spec PyProof.Rows IC
section
variable {S:Se}{X:Cx}{k:Nat}{f:Addr}{fd:FuncData}{ps ks:List Str}{sp:Sp}{x:Str}{p pos kpos:Pos}{e:Expr}{es:List Expr}{kws:List Keyword}{nm:Option Str}{t tk:TA}{CX:CXT}{ca:Ce}{ces:Ces}{items:List (Sum Ce Int)}{g:List Value->List Value->List Value}{gV:List V->List V->List V}
theorem PK.imp {t t':TA}(h:PK X kws t')(k:∀σ H Q,t σ H Q->t' σ H Q):PK X kws t:=fun pos pins s σ H Q I q=>h pos pins s σ H Q I (k σ H Q q)
end
section
variable {P:Program}{w:World}{K:PySem.W.Frag}{mg:Str->Option Value}{base:Heap}{cl:Nat->Addr}{T:Nat->Option IC.Fn}{fi:Nat}{fn:IC.Fn}{x:Str}{stm:Stmt}{f:Addr}{fd:FuncData}{N ps:List Str}{ds:List Int}{k:Nat}
end
theorem zgX (a b:Key):peq (yaz a) (yaz b)=decide (a=b):=by
 rw [Bool.eq_iff_iff]
 cases a <;> cases b <;> simp [yaz,peq]
theorem zi8:∀(a b:List Key),ybi (a.map yaz) (b.map yaz)=decide (a=b)
 | [],[]=>by simp [ybi]
 | [],y::ys=>by simp [ybi]
 |x::xs,[]=>by simp [ybi]
 |x::xs,y::ys=>by
  simp only [List.map_cons,ybi,zgX,zi8 xs ys]
  rw [Bool.eq_iff_iff]
  simp
theorem zgQ (a b:List Key):peq (.tup (a.map yaz)) (.tup (b.map yaz))=decide (a=b):=by
 simp only [peq,zi8]
theorem zkq {k:PV}(h:ybv k=true):∃q,k=yaz q:=by
 cases k with
 |int i=>exact ⟨.inl i,rfl⟩
 |str i=>exact ⟨.inr i,rfl⟩
 |_=>cases h
theorem zkf:∀{ks:List PV},ks.all ybv=true->∃qs:List Key,ks=qs.map yaz
 | [],_=>⟨[],rfl⟩
 |k::ks,h=>by
  rw [List.all_cons,Bool.and_eq_true] at h
  obtain ⟨q,rfl⟩:=zkq h.1
  obtain ⟨qs,rfl⟩:=zkf h.2
  exact ⟨q::qs,rfl⟩
section
variable {S:Se}{X:Cx}{K:PySem.W.Frag}{cl:Nat->Addr}{σ:St}{B:Addr->Prop}{φ:Ph}{H:Hp}{st:Store}{p pos p2 px apos:Pos}{a b c d o:Expr}{ca cb cc:Ce}
theorem yaF {q:Key}{x:V}:ye K cl B φ H (yaz q) x ↔ x=kV q:=by
 cases q <;> simp [yaz,ye,kV]
theorem zhq:∀{qs:List Key} {xs:List V},yo K cl B φ H (qs.map yaz) xs->xs=qs.map kV
 | [],xs,l=>by simpa only [List.map_nil,yo] using l
 |q::qs,xs,l=>by
  simp only [List.map_cons,yo] at l
  obtain ⟨y,ys,rfl,r,l⟩:=l
  rw [yaF.mp r,zhq l]
  rfl
theorem DK.look {q:Key}:∀{kvs:List (PV×PV)} {ks:List (Key×V)},DK K cl B φ H kvs ks->∀{v:PV} {x:V},ye K cl B φ H v x->ye K cl B φ H ((IC.look (yaz q) kvs).getD v) ((yba ks q).getD x)
 | [],ks,h,v,x,r=>by cases h;exact r
 | (k,w)::t,ks,h,v,x,r=>by
  obtain ⟨q',y,s,rfl,rfl,rv,l⟩:=h
  simp only [IC.look,zgX]
  by_cases e:q'=q
  ·rw [zel (p:=(q',y)) e]
   simp [e,rv]
  ·rw [zeA (p:=(q',y)) e]
   simp only [decide_eq_true_eq,e,if_false]
   exact DK.look l r
theorem DT.look {q:List Key}:∀{kvs:List (PV×PV)} {ks:List (List Key×V)},DT K cl B φ H kvs ks->∀{v:PV} {x:V},ye K cl B φ H v x->ye K cl B φ H ((IC.look (.tup (q.map yaz)) kvs).getD v) ((yba ks q).getD x)
 | [],ks,h,v,x,r=>by cases h;exact r
 | (k,w)::t,ks,h,v,x,r=>by
  obtain ⟨q',y,s,rfl,rfl,rv,l⟩:=h
  simp only [IC.look,zgQ]
  by_cases e:q'=q
  ·rw [zel (p:=(q',y)) e]
   simp [e,rv]
  ·rw [zeA (p:=(q',y)) e]
   simp only [decide_eq_true_eq,e,if_false]
   exact DT.look l r
theorem DK.any {q:Key}:∀{kvs:List (PV×PV)} {ks:List (Key×V)},DK K cl B φ H kvs ks->(kvs.any fun p=>peq p.1 (yaz q))=ks.any fun kv=>decide (kv.1=q)
 | [],ks,h=>by cases h;rfl
 | (k,w)::t,ks,h=>by
  obtain ⟨q',y,s,rfl,rfl,rv,l⟩:=h
  simp only [List.any_cons,zgX,DK.any l]
theorem DT.any {q:List Key}:∀{kvs:List (PV×PV)} {ks:List (List Key×V)},DT K cl B φ H kvs ks->(kvs.any fun p=>peq p.1 (.tup (q.map yaz)))=ks.any fun kv=>decide (kv.1=q)
 | [],ks,h=>by cases h;rfl
 | (k,w)::t,ks,h=>by
  obtain ⟨q',y,s,rfl,rfl,rv,l⟩:=h
  simp only [List.any_cons,zgQ,DT.any l]
theorem DK.map {q:Key}{v:PV}{x:V}(r:ye K cl B φ H v x):∀{kvs:List (PV×PV)} {ks:List (Key×V)},DK K cl B φ H kvs ks->DK K cl B φ H (kvs.map fun p=>if peq p.1 (yaz q)=true then (p.1,v) else p) (ks.map fun kv=>if kv.1=q then (kv.1,x) else kv)
 | [],ks,h=>by cases h;exact rfl
 | (k,w)::t,ks,h=>by
  obtain ⟨q',y,s,rfl,rfl,rv,l⟩:=h
  simp only [List.map_cons,zgX,decide_eq_true_eq]
  by_cases e:q'=q
  ·simp only [e,if_true]
   exact ⟨q,x,_,rfl,rfl,r,DK.map r l⟩
  ·simp only [e,if_false]
   exact ⟨q',y,_,rfl,rfl,rv,DK.map r l⟩
theorem DT.map {q:List Key}{v:PV}{x:V}(r:ye K cl B φ H v x):∀{kvs:List (PV×PV)} {ks:List (List Key×V)},DT K cl B φ H kvs ks->DT K cl B φ H (kvs.map fun p=>if peq p.1 (.tup (q.map yaz))=true then (p.1,v) else p) (ks.map fun kv=>if kv.1=q then (kv.1,x) else kv)
 | [],ks,h=>by cases h;exact rfl
 | (k,w)::t,ks,h=>by
  obtain ⟨q',y,s,rfl,rfl,rv,l⟩:=h
  simp only [List.map_cons,zgQ,decide_eq_true_eq]
  by_cases e:q'=q
  ·simp only [e,if_true]
   exact ⟨q,x,_,rfl,rfl,r,DT.map r l⟩
  ·simp only [e,if_false]
   exact ⟨q',y,_,rfl,rfl,rv,DT.map r l⟩
theorem DK.snoc {q:Key}{v:PV}{x:V}(r:ye K cl B φ H v x):∀{kvs:List (PV×PV)} {ks:List (Key×V)},DK K cl B φ H kvs ks->DK K cl B φ H (kvs++[(yaz q,v)]) (ks++[(q,x)])
 | [],ks,h=>by cases h;exact ⟨q,x,[],rfl,rfl,r,rfl⟩
 | (k,w)::t,ks,h=>by
  obtain ⟨q',y,s,rfl,rfl,rv,l⟩:=h
  exact ⟨q',y,_,rfl,rfl,rv,DK.snoc r l⟩
theorem DT.snoc {q:List Key}{v:PV}{x:V}(r:ye K cl B φ H v x):∀{kvs:List (PV×PV)} {ks:List (List Key×V)},DT K cl B φ H kvs ks->DT K cl B φ H (kvs++[(.tup (q.map yaz),v)]) (ks++[(q,x)])
 | [],ks,h=>by cases h;exact ⟨q,x,[],rfl,rfl,r,rfl⟩
 | (k,w)::t,ks,h=>by
  obtain ⟨q',y,s,rfl,rfl,rv,l⟩:=h
  exact ⟨q',y,_,rfl,rfl,rv,DT.snoc r l⟩
theorem DK.put {q:Key}{v:PV}{x:V}{kvs:List (PV×PV)}{ks:List (Key×V)}(l:DK K cl B φ H kvs ks)(r:ye K cl B φ H v x):DK K cl B φ H (IC.put (yaz q) v kvs) (putK ks q x):=by
 unfold IC.put putK
 rw [DK.any l]
 split
 ·exact DK.map r l
 ·exact DK.snoc r l
theorem DT.put {q:List Key}{v:PV}{x:V}{kvs:List (PV×PV)}{ks:List (List Key×V)}(l:DT K cl B φ H kvs ks)(r:ye K cl B φ H v x):DT K cl B φ H (IC.put (.tup (q.map yaz)) v kvs) (putK ks q x):=by
 unfold IC.put putK
 rw [DT.any l]
 split
 ·exact DT.map r l
 ·exact DT.snoc r l
theorem DK.len:∀{kvs:List (PV×PV)} {ks:List (Key×V)},DK K cl B φ H kvs ks->kvs.length=ks.length
 | [],ks,h=>by cases h;rfl
 | (k,w)::t,ks,h=>by
  obtain ⟨q',y,s,rfl,rfl,rv,l⟩:=h
  simp [DK.len l]
theorem DT.len:∀{kvs:List (PV×PV)} {ks:List (List Key×V)},DT K cl B φ H kvs ks->kvs.length=ks.length
 | [],ks,h=>by cases h;rfl
 | (k,w)::t,ks,h=>by
  obtain ⟨q',y,s,rfl,rfl,rv,l⟩:=h
  simp [DT.len l]
theorem yw.dct {n:Nat}{t:Bool}{kvs:List (PV×PV)}{x:V}(rs:yw K cl B φ H st)(r:ye K cl B φ H (.loc n) x)(h:st[n]?=some (.dct t kvs)):∃y,x=.ref y/\φ[n]?=some (some y)/\yck K cl B φ H (.dct t kvs) y:=by
 simp only [ye] at r
 obtain ⟨hn,y,rfl,ha⟩:=r
 obtain ⟨z,hz⟩:=rs.liv n _ h (by intro z;cases z)
 obtain rfl:=ha z hz
 obtain ⟨o,ho,ro⟩:=rs.obj n z hz
 rw [h] at ho;cases ho
 exact ⟨z,rfl,hz,ro⟩
theorem zfx {v:PV}{t:Bool}{kvs:List (PV×PV)}(h:yar st v=some (t,kvs)):∃n,v=.loc n/\st[n]?=some (.dct t kvs):=by
 cases v with
 |loc n =>
  simp only [yar] at h
  split at h
  ·rename_i t' xs q
   cases h
   exact ⟨n,rfl,q⟩
  ·cases h
 |_=>cases h
theorem zhZ {k:PV}(h:isKey false k=true):∃q,k=yaz q:=zkq h
theorem ziz {k:PV}(h:isKey true k=true):∃q:List Key,k=.tup (q.map yaz):=by
 cases k with
 |tp b xs =>
  cases b with
  |false =>
   obtain ⟨qs,rfl⟩:=zkf h
   exact ⟨qs,rfl⟩
  |true=>cases h
 |_=>cases h
theorem zil {q:List Key}{x:V}(r:ye K cl B φ H (.tup (q.map yaz)) x):∃y,x=.ref y/\H y=some (.tup (q.map kV)):=by
 simp only [ye] at r
 obtain ⟨y,xs,rfl,rt,l⟩:=r
 rcases rt with ⟨rt,_⟩|⟨z,_⟩
 ·exact ⟨y,rfl,by rw [rt,zhq l]⟩
 ·cases z
theorem zlf:PE X (.Dict [] [] pos) (tE S X (.dict0 true)):=ycf.imp fun σ H Q ⟨B,φ,st,ρ,rs,re,h⟩=>by
 simp only [ev] at h
 exact fun p hp=>h _ _ (φ++[some p]) (.push hp) (rs.push hp (rs.nB hp) ⟨[],zU,rfl⟩) (.loc_new rs)
theorem zfP:KqE X (.Dict [] [] pos) (tE S X (.dict0 true)):=by with_unfolding_all exact zlf
theorem ziK (hu:X.A.units+1<cLine)(ha:KqE X a (tE S X ca))(hb:KqE X b (tE S X cb))(hc:KqE X c (tE S X cc))(m:M2 X a "get" apos b c pos:=by exact ⟨rfl,rfl,rfl,rfl⟩):KqE X (.Call (.Attribute a "get" apos) [b,c] [] pos) (tE S X (.mth .get ca (.cons cb (.cons cc .nil)))):= by
 with_unfolding_all
 exact PE.imp (zl8 hu ha hb hc m) fun σ H Q ⟨B,φ,st,ρ,rs,re,h⟩=>by
  simp only [ev] at h
  refine tE.bind rs re h fun x H1 v st1 φ1 s1 rs1 re1 rv h1=>?_
  obtain ⟨_,e1,h1⟩:=zfQ h1
  simp only [yV] at e1
  cases q:yar st1 v with
  |none=>rw [q] at e1;cases e1
  |some tk =>
   obtain ⟨t,kvs⟩:=tk
   obtain ⟨n,rfl,hn⟩:=zfx q
   obtain ⟨y,rfl,hy,ro⟩:=rs1.dct rv hn
   refine ⟨y,rfl,?_,?_⟩
   ·cases t with
    |false=>obtain ⟨ks,hk,_⟩:=ro;exact .inl ⟨ks,.inl hk⟩
    |true=>obtain ⟨ks,hk,_⟩:=ro;exact .inr ⟨ks,.inl hk⟩
   ·simp only [evs,R.bind_assoc] at h1
    refine tE.bind rs1 re1 h1 fun kx H2 kv st2 φ2 s2 rs2 re2 rk h2=>tE.bind rs2 re2 h2 fun dx H3 dv st3 φ3 s3 rs3 re3 rd h3=>?_
    simp only [R.bind,yaI,ycN] at h3
    cases q3:yar st3 (.loc n) with
    |none=>rw [q3] at h3;exact h3.elim
    |some tk3 =>
     obtain ⟨t3,kvs3⟩:=tk3
     rw [q3] at h3
     dsimp only at h3
     split at h3
     ·rename_i hk
      obtain ⟨n',e',hn3⟩:=zfx q3
      cases e'
      obtain ⟨y3,ey,hy3,ro3⟩:=rs3.dct ((rv.step s2).step s3) hn3
      cases ey
      have rk3:=rk.step s3
      cases t3 with
      |false =>
       obtain ⟨q,rfl⟩:=zhZ hk
       obtain ⟨ks,hks,l⟩:=ro3
       refine ⟨yba ks q,.inl ⟨ks,q,.inl hks,yaF.mp rk3,rfl⟩,h3.ok rs3 (DK.look l rd)⟩
      |true =>
       obtain ⟨q,rfl⟩:=ziz hk
       obtain ⟨ks,hks,l⟩:=ro3
       obtain ⟨b',rfl,hb'⟩:=zil rk3
       exact ⟨yba ks q,.inr ⟨ks,q,b',.inl hks,rfl,hb',rfl⟩,h3.ok rs3 (DT.look l rd)⟩
     ·exact h3.elim
theorem zlg {st4:Store}{x y v:PV}(h:yaP st x y v=some st4):∃n t kvs,x=.loc n/\st[n]?=some (.dct t kvs)/\isKey t y=true/\kvs.length<1000000/\st4=st.set n (.dct t (IC.put y v kvs)):=by
 cases x with
 |loc n =>
  simp only [yaP] at h
  split at h
  ·rename_i t kvs q
   split at h
   ·rename_i c
    exact ⟨n,t,kvs,rfl,q,c.1,c.2,(Option.some.inj h).symm⟩
   ·cases h
  ·cases h
 |_=>cases h
theorem zfE (hu:X.A.units+1<cLine)(ho:KqE X b (tE S X cb))(hi:KqE X c (tE S X cc))(hv:KqE X a (tE S X ca))(hs:swapsWith a (some (.Subscript b c px)) pos.line X.env=pure false:=by rfl):KqS X (.Assign [.Subscript b c px] a pos) (tS S X (.dput cb cc ca)):= by
 with_unfolding_all
 exact PS.imp (znQ hu ho hi hv hs) fun D σ H ⟨B,φ,st,ρ,rs,re,h⟩=>by
  simp only [ex] at h
  refine tE.fl rs re h fun v' H1 v st1 φ1 s1 rs1 re1 rv h1=>tE.fl rs1 re1 h1 fun x' H2 x st2 φ2 s2 rs2 re2 rx h2=>tE.fl rs2 re2 h2 fun y' H3 y st3 φ3 s3 rs3 re3 ry h3=>?_
  cases e:yaP st3 x y v with
  |none=>rw [e] at h3;exact h3.elim
  |some st4 =>
   rw [e] at h3
   obtain ⟨n,t,kvs,rfl,hn,hk,hl,rfl⟩:=zlg e
   obtain ⟨l,rfl,hp,ro⟩:=rs3.dct (rx.step s3) hn
   have rv3:=(rv.step s2).step s3
   have hm:=ybr
   cases t with
   |false =>
    obtain ⟨q,rfl⟩:=zhZ hk
    obtain ⟨ks,hks,ld⟩:=ro
    have s4:Step φ3 H3 φ3 (L2.upd H3 l (.dK (putK ks q v'))):=.put (List.mem_of_getElem? hp)
    refine ⟨l,_,rfl,.inl ⟨ks,q,hks,yaF.mp ry,by have:=ld.len;omega,rfl⟩,h3 σ _ φ3 s4 (rs3.put hp ⟨_,zU,(ld.put rv3).step s4⟩) (re3.step s4)⟩
   |true =>
    obtain ⟨q,rfl⟩:=ziz hk
    obtain ⟨ks,hks,ld⟩:=ro
    obtain ⟨b',rfl,hb'⟩:=zil ry
    have s4:Step φ3 H3 φ3 (L2.upd H3 l (.dT (putK ks q v'))):=.put (List.mem_of_getElem? hp)
    refine ⟨l,_,rfl,.inr ⟨ks,q,b',hks,rfl,hb',by have:=ld.len;omega,rfl⟩,h3 σ _ φ3 s4 (rs3.put hp ⟨_,zU,(ld.put rv3).step s4⟩) (re3.step s4)⟩
noncomputable def trC (kvs:List (Str×Int)):List (TE×TE):=kvs.map fun kv=>(tC (.str kv.1),tC (.int kv.2))
theorem zmc:ydL X pos [] [] (trC []):= by
 with_unfolding_all
 exact znb
theorem zbr {ks:List (Option Expr)}{vs:List Expr}{kvs:List (Str×Int)}{x:Str}{i:Int}{j1 j2:Nat}{p1 p2:Pos}(h:ydL X pos ks vs (trC kvs)):ydL X pos (some (.Constant (.str x) j1 p1)::ks) (.Constant (.int i) j2 p2::vs) (trC ((x,i)::kvs)):= by
 with_unfolding_all
 exact zlA yb3 ycy h
theorem zgx:∀(kvs:List (Str×Int)) {σ:St} {H:Hp} {Q:List (V×V)->Hp->Prop},Q (kvs.map fun kv=>(.str kv.1,.int kv.2)) H->ybu (trC kvs) σ H Q
 | [],σ,H,Q,h=>h
 |kv::r,σ,H,Q,h=>zgx r (Q:=fun ps H3=>Q ((.str kv.1,.int kv.2)::ps) H3) h
theorem DK.fold:∀(kvs:List (Str×Int)) {acc:List (PV×PV)} {ks:List (Key×V)},DK K cl B φ H acc ks->DK K cl B φ H (kvs.foldl (fun acc kv=>IC.put (.str kv.1) (.int kv.2) acc) acc) (yaJ ks (kvs.map fun kv=>(Sum.inr kv.1,.int kv.2)))
 | [],acc,ks,l=>l
 |kv::r,acc,ks,l=>by
  unfold yaJ
  simp only [List.foldl_cons,List.map_cons]
  exact DK.fold r (l.put (q:=Sum.inr kv.1) (x:=.int kv.2) (by simp only [ye]))
theorem zkz {ks:List (Option Expr)}{vs:List Expr}{kvs:List (Str×Int)}(h:ydL X pos ks vs (trC kvs))(hall:ks.all (·.isSome)=true:=by rfl)(hl:ks.length=vs.length:=by rfl)(h0:ks≠[]:=by simp)(h15:ks.length<=15:=by decide):KqE X (.Dict ks vs pos) (tE S X (.newd kvs)):= by
 with_unfolding_all
 exact PE.imp (zm5 h hall hl h0 h15) fun σ H Q ⟨B,φ,st,ρ,rs,re,h⟩=>by
  simp only [ev] at h
  split at h
  ·rename_i c
   intro p hp
   refine zgx kvs ⟨zU,kvs.map fun kv=>(Sum.inr kv.1,.int kv.2),by simp [kV],by simpa using c,?_⟩
   rw [znT]
   exact h _ _ (φ++[some p]) (.push hp) (rs.push hp (rs.nB hp) ⟨_,zU,DK.fold kvs rfl⟩) (.loc_new rs)
  ·exact h.elim
end
section
variable {S:Se}{X:Cx}{σ:St}{B:Addr->Prop}{φ:Ph}{H:Hp}{p pos p3 p4:Pos}{a b tg:Expr}{ca cb:Ce}
end
end L2
namespace WK
open PySem L2 IC
theorem za8 {K:PySem.W.Frag}{h:Heap}{mg:Str->Option Value}{x:Str}{st:Stmt}{ps:List Str}{f:Addr}{oc:Value}{od an:Option Addr}{osl:Array (Option Value)}{kV doc pm cdv ct:Value}(X:K.In h)(G:h.Ns mainGlobals mg)
  (a:PySem.W.nsIn K mainGlobals x=some (some (.ref f))) (l:K.lookup f=some ⟨oc,od,.func (PySem.W.fnOf x x (yaa st) (yK st) (yc st) .none kV doc pm an cdv ct),osl⟩) (c:PySem.W.codeIn K cdv x=true) (k:PySem.W.keepIn K (.ref f)=true)
  (hb:∀(kV doc pm:Value) (an:Option Addr) (cdv ct:Value) (us:List Value),us.length=ps.length->bindArgs (PySem.W.fnOf x x (yaa st) (yK st) (yc st) .none kV doc pm an cdv ct) ⟨us,[]⟩=pure (ps.zip us)) :
  Fn K mg x st ps f (PySem.W.fnOf x x (yaa st) (yK st) (yc st) .none kV doc pm an cdv ct):=⟨zbx l c k,(zbx l c k).binds hb,PySem.W.mg_of X G a⟩
section
variable {K:PySem.W.Frag}{cl:Nat->Addr}{B:Addr->Prop}{φ:Ph}{H:Hp}
theorem zcc:yo K cl B φ H [] []:=by simp only [yo]
theorem z5 {v:PV}{x:V}{vs:List PV}{xs:List V}(h:ye K cl B φ H v x)(l:yo K cl B φ H vs xs):yo K cl B φ H (v::vs) (x::xs):=by
 simp only [yo]
 exact ⟨x,xs,rfl,h,l⟩
theorem zcH {y:Addr}{d:Option Addr}{its:Array Value}{n:Nat}{sl:Array (Option Value)}{xs:List V}{vs:List PV}(h:K.lookup y=some ⟨.type "tuple",d,.seq its n,sl⟩)(hz:its.size<=1000)(r:Vals xs its.toList)(l:yo K cl B φ H vs xs):ye K cl B φ H (.tp true vs) (.ref y):=by
 simp only [ye]
 exact ⟨y,xs,rfl,.inr ⟨rfl,_,its,n,h,rfl,rfl,by rw [sizeLine_eq];omega,r⟩,l⟩
end
theorem zpn {P:Program}{w:World}{outer:List PySem.Env}{H:Hp}{s:Shared}{e:Value}{s':Shared}(h:CX1 P w outer H s (fun _ _ _=>False) e s'):False:=by
 obtain ⟨_,_,_,_,_,_,_,_,_,_,_,_,_,_,z⟩:=h
 exact z
theorem zkj {K:PySem.W.Frag}{cl:Nat->Addr}{B:Addr->Prop}{φ:Ph}{H:Hp}:∀ns:List Int,yo K cl B φ H (ns.map .int) (ns.map V.int)
 | []=>zcc
 |n::ns=>z5 (by simp only [ye]) (zkj ns)
noncomputable def spX (K:PySem.W.Frag)(call:Nat->List PV->Store->R PV)(fi:Nat):Sp:=fun vs H Q E=>∀cl,spI K cl call fi vs H Q E
theorem zjR {K:PySem.W.Frag}{call:Nat->List PV->Store->R PV}{fi:Nat}{H:Hp}{a:Addr}{ns:List Int}(ht:∀ns:List Int,ns.length<=63->call fi [.scr (ns.map .int)] []=.ok (.bl true) [])(hl:ns.length<=63)(hS:SqL K H a (ns.map V.int)) :
  spX K call fi [.ref a] H (fun v _=>v=.bl true) fun _ _ _=>False:=by
 intro cl
 refine ⟨fun _=>False,[],[],[.scr (ns.map .int)],⟨rfl,fun m n a e=>by simp at e,fun n a e=>by simp at e,fun n o e=>by simp at e,fun a z=>by simp at z,fun a z=>z.elim⟩,z5 ?_ zcc,?_⟩
 ·simp only [ye]
  refine ⟨a,_,rfl,?_,zkj ns⟩
  rcases hS with hS|hS
  ·exact .inl ⟨hS,fun z=>z,by simp⟩
  ·exact .inr hS
 ·rw [ht ns hl]
  intro x H' φ' _ _ r
  simpa only [ye] using r
end WK
namespace L2
open PySem PySem.Spec PyProof.Rows IC
theorem zkV {l:List Str}(h:l.Nodup){i j:Nat}(hi:i<l.length)(hj:j<l.length)(e:l[i]=l[j]):i=j:=by
 rcases Nat.lt_trichotomy i j with q|q|q
 ·exact absurd e (List.pairwise_iff_getElem.mp h i j hi hj q)
 ·exact q
 ·exact absurd e.symm (List.pairwise_iff_getElem.mp h j i hj hi q)
section
variable {X:Cx}{pins:List (Addr×Obj)}{σ:St}{H:Hp}{s:Shared}
theorem Inv.drop {h':Heap}{m:Str->Option Value}{v:Option Value}{i:Nat}{n:Str}(I:Inv X pins σ H s)(hN:X.N.Nodup)(hi:X.N[i]?=some n)(hm:s.heap.Ns X.env.locals m)(look:∀(i:Nat) (x:Str) (v:V),X.N[i]?=some x->σ[i]?=some (some v)->Vis X.env.scope x->∃u,RelV v u/\Look X.env s.heap m x u)(hs:Heap.SameBut X.env.locals s.heap h')(hn:h'.Ns X.env.locals (fun x=>if x=n then v else m x)):Inv X pins (σ.set i none) H { s with heap:=h' }:=by
 have k:∀b u,b≠X.env.locals->s.heap.get? b=some u->h'.get? b=some u:=fun b u hb q=>(hs.2 b hb).trans q
 have nl:∀b o,X.s₀.heap.get? b=some o->b≠X.env.locals:=fun b o e=>Nat.ne_of_lt (Nat.lt_of_lt_of_le (Heap.lt_size e) I.ok.above)
 refine ⟨I.ok,I.os,I.bare,⟨fun b o q n hb hx=>k b o (nl b o q) (I.base.keep b o q n hb hx),fun b o q n hb hx=>?_,I.base.free,fun b o q hx=>?_,I.base.tups,I.base.frzs,I.base.tbls⟩,⟨_,hn,fun j x v e1 e2 hv=>?_⟩,fun x c e=>?_,I.free,I.freeC,fun p hp=>?_,fun b u e=>?_,?_⟩
 ·obtain ⟨sl,q1⟩:=I.base.slot b o q n hb hx
  exact ⟨sl,k b _ (nl b o q) q1⟩
 ·obtain ⟨o',q1⟩:=I.base.there b o q hx
  exact ⟨o',k b o' (nl b o q) q1⟩
 ·have hj:j≠i:=fun z=>by
   subst z
   rw [List.getElem?_set] at e2
   simp only [if_true] at e2
   split at e2 <;> cases e2
  rw [List.getElem?_set_ne (Ne.symm hj)] at e2
  have hx:x≠n:=fun z=>by
   subst z
   obtain ⟨l1,g1⟩:=List.getElem?_eq_some_iff.mp e1
   obtain ⟨l2,g2⟩:=List.getElem?_eq_some_iff.mp hi
   exact hj (zkV hN l1 l2 (g1.trans g2.symm))
  obtain ⟨u,r,lk⟩:=look j x v e1 e2 hv
  refine ⟨u,r,?_⟩
  rcases lk with ⟨q1,q2⟩|⟨q1,c,q2,o,q3,q4⟩
  ·exact .inl ⟨q1,by dsimp only;rw [if_neg hx];exact q2⟩
  ·exact .inr ⟨q1,c,q2,o,k c o (I.cne x c q2) q3,q4⟩
 ·obtain ⟨v,o,ho,hd⟩:=I.cell x c e
  exact ⟨v,o,k c o (I.cne x c e) ho,hd⟩
 ·obtain ⟨q1,q2,q3,q4⟩:=I.pin p hp
  exact ⟨k _ _ q3 q1,q2,q3,q4⟩
 ·refine (I.hok b u e).stay (fun c v hc q=>k c v (fun z=>?_) q) (fun _ q=>q) fun _ _ q=>q
  have fr:=I.free
  subst z
  rcases hc with z|z
  ·rw [z,e] at fr
   cases fr
  ·rw [z] at fr
   cases fr
 ·rw [List.length_set]
  exact I.len
end
noncomputable def ye6 (X:Cx)(pn:List (Addr×Obj))(P:St->Value->Hp->Prop):Value->Shared->Prop:=fun e s'=>∃pins σ H s,Inv (cxP X pn) pins σ H s/\CX1 X.prog X.w X.stack H s (fun cls _ H'=>P σ cls H') e s'
noncomputable abbrev ydV (X:Cx)(pn:List (Addr×Obj))(P:St->Value->Hp->Prop):Cx:=(cxP X pn).wish (ye6 X pn P)
section
variable {X:Cx}{body suite:List Stmt}{b₀:Stmt}{x n:Str}{np hpos pos:Pos}{W:Addr}{i:Nat}
theorem zfw {pins:List (Addr×Obj)}{σ:St}{H:Hp}{s:Shared}{Q:Unit->Shared->Prop}{E:Value->Shared->Prop}{A:Around}(I:Inv X pins σ H s)(hN:X.N.Nodup)(hi:X.N[i]?=some n)(hx:X.env.scope.names.lookup n=some .local)(hl:i<σ.length)
  (h:∀s',Inv X pins (σ.set i none) H s'->Q () s'):wpAny (model X.prog X.w) A (do bindName X.env n .none;unbindBehindTheSuite X.env n pos) Q E s:=by
 refine wpAny_bind (wpAny_bindName (zcj I hN hi (.inl hx) (show RelV .non .none from rfl) (fun s2 I2=>?_) (.inr hx)))
 obtain ⟨m,hn,look⟩:=I2.loc
 obtain ⟨u,ru,lk⟩:=look i n .non hi (by rw [List.getElem?_set];simp [hl]) (.inl hx)
 have hm:m n=some u:=by
  rcases lk with ⟨_,q⟩|⟨z,_⟩
  ·exact q
  ·rw [show X.env.kindOf n=some .local from hx] at z
   rcases z with z|z <;> cases z
 have hkn:X.env.kindOf n=some .local:=hx
 have hkind:X.env.scope.kind=.function:=I.ok.kind
 unfold unbindBehindTheSuite
 refine wpAny_onRaise ?_
 unfold unbindName deleteName
 refine wpAny_bind (wpAny_point (wpAny_bind ?_))
 simp only [hkn,hkind]
 refine wpAny_bind (m:=nsDel X.env.locals n) (wpAny_nsDel_keeps hn fun h' m' hn' hs'=>?_)
 rw [hm]
 refine wpAny_pure (wpAny_point ?_)
 have J:=I2.drop hN hi hn look hs' hn'
 rw [List.set_set] at J
 exact h _ J
theorem zno {tb:List (Addr×Obj)->(St->Value->Hp->Prop)->TS}{ts:List (Addr×Obj)->Addr->TS}(hstk:∃outer,X.stack=X.env::outer)(hex0:X.ex=[])(hfr:X.env.frame=some X.env.locals)(hN:X.N.Nodup)(hi:X.N[i]?=some n)(hx:X.env.scope.names.lookup n=some .local)(hgx:Gl X x)(hmx:X.mg x=some (.ref W))
  (hb:∀pn P,PSs (ydV X pn P) body (tb pn P)) (hs:∀pn a,PSs (cxS X pn a) (b₀::suite) (ts pn a)) (hdb:(x == ("__debug__":Str))=false:=by decide) :
  PS X (.Try body [.ExceptHandler (some (.Name x np)) (some n) (b₀::suite) hpos] [] [] pos) (fun D σ H=>∀pn,∃P:St->Value->Hp->Prop,tb pn P D σ H/\∀σ1 cls H',P σ1 cls H'->∃C,cls=.ref C/\PySem.W.exmOne X.K (.ref C) (.ref W)=some true /\
   ∀a,H' a=none->ts pn a { nx:=fun σ2 H2=>D.nx (σ2.set i none) H2,rt:=D.rt } (σ1.set i (some (.ref a))) (upd H' a (.ext (ybS a C)))):=by
 intro pins s σ H D I h
 obtain ⟨P,hbody,hex⟩:=h (X.pn++pins)
 obtain ⟨outer,hst⟩:=hstk
 refine wpAny_Try_except (wpAny_mono (hb (X.pn++pins) P [] s σ H D (I.toP.wish _) hbody) (fun f s1 hf=>?_) fun e s1 hx1=>?_)
 ·have cv:SP X pins D f s1:=by
   cases f with
   |next =>
    obtain ⟨σ',H',J,q⟩:=hf
    exact ⟨σ',H',Inv.ofP I.ok J.unwish,q⟩
   |brk =>
    obtain ⟨σ',H',J,q⟩:=hf
    exact ⟨σ',H',Inv.ofP I.ok J.unwish,q⟩
   |cont =>
    obtain ⟨σ',H',J,q⟩:=hf
    exact ⟨σ',H',Inv.ofP I.ok J.unwish,q⟩
   |ret u =>
    obtain ⟨v,σ',H',J,r,q⟩:=hf
    exact ⟨v,σ',H',Inv.ofP I.ok J.unwish,r,q⟩
  cases f with
  |next=>exact wpAny_execs_nil cv
  |brk=>exact cv
  |cont=>exact cv
  |ret u=>exact cv
 ·obtain ⟨pins1,σ1,H1,s2,I1,a,cls,a0,H',B,rfl,os,bare,fl,hok,un,hB,tr,hT,hE⟩:=hx1
  obtain ⟨C,rfl,hm,hsuite⟩:=hex σ1 cls H' hE
  have I1:Inv (cxP X (X.pn++pins)) [] σ1 H1 s2:=I1.pins_of fun p hp=>absurd hp (by simp)
  have frs':X.A.frames=some (X.env::outer):=by rw [<- hst];exact I.ok.frames
  have fl0:Heap.FlyingW B (X.env::outer) a (.ref C) a0 s1.heap:=by rw [<- hst];exact fl
  refine wpAny_looks_onW frs' hfr fl0 fun h1 held1 up1=>?_
  refine wpAny_landsW (s:={ s1 with heap:=h1 }) held1 fun h2 fl2 up2=>?_
  have up12:s1.heap.UpToSlots h2:=up1.trans up2
  have I2:Inv (cxP X (X.pn++pins)) [] σ1 H' { s1 with heap:=h2 }:=I1.back (t':=s1.toks) os bare fl hok un hB tr hT fl2.1 up12
  obtain ⟨ob,hob,hobc⟩:=fl2.there
  have LT:∀M:Model,PySem.W.Looks M h2 (typeOf (.ref a)) (.ref C):=fun M=>hobc ▸ (PySem.W.Looks.ld hob).andThen .now
  refine wpAny_handleBy_cons (codeAny_handlers_test ?_) (by intro q;cases q)
  refine zeT (X:=cxS X (X.pn++pins) a) (I2.toS a) hgx hmx ?_ hdb
  refine PySem.W.Looks.at (PySem.W.exm_one I2.kIn (LT _) hm) ?_
  rw [if_pos rfl]
  refine codeAny_handlers_suite_as ?_
  refine lands_againW (s:={ s1 with heap:=h2 }) fl2 fun h3 fl3 up3=>?_
  have up13:=up12.trans up3
  have I3:Inv (cxP X (X.pn++pins)) [] σ1 H' { s1 with heap:=h3 }:=I1.back (t':=s1.toks) os bare fl hok un hB tr hT fl3.1 up13
  obtain ⟨oe,ws,T3,oT,tsx,ge,⟨gc,g0⟩,gd,_⟩:=id fl3.2.2.2
  have nfr:a∉frs X.stack:=fun z=>by
   obtain ⟨_,o',ho',hd⟩:=Heap.FunFrames.mem fl3.2.2.1 (by rw [<- hst];exact z)
   rw [ge] at ho'
   cases ho'
   exact hd ws gd
  have nB:B.get? a=none:=fl3.2.1
  have ns2:∀o,s2.heap.get? a≠some o:=fun o z=>by
   obtain ⟨o',q⟩:=hT a o z nfr
   rw [nB] at q
   cases q
  have nH:H' a=none:=by
   cases z:H' a with
   |none=>rfl
   |some u =>
    obtain ⟨o',q⟩:=tr a u z
    rw [nB] at q
    cases q
  have n0:∀o,X.s₀.heap.get? a≠some o:=fun o z=>by
   have hx':a∉X.ex:=by
    rw [hex0]
    simp
   obtain ⟨o',q⟩:=I1.base.there a o z hx'
   exact ns2 o' q
  have nl:a≠X.env.locals:=fun z=>by
   obtain ⟨m,hn,_⟩:=I1.loc
   obtain ⟨ol,_,_,hol,_⟩:=hn
   exact ns2 ol (z ▸ hol)
  have nc:∀y c,X.env.cells.lookup y=some c->c≠a:=fun y c q z=>by
   obtain ⟨v,oc,hoc,_⟩:=I1.cell y c q
   exact ns2 oc (z ▸ hoc)
  have np:∀p∈(cxP X (X.pn++pins)).pn++[],p.1≠a:=fun p hp z=>ns2 p.2 (z ▸ (I1.pin p hp).1)
  have new:yI X.prog X.w (upd H' a (.ext (ybS a C))) h3 a (.ext (ybS a C)):=⟨⟨oe,ge,gc⟩,⟨oe,ge⟩,fun k1 k2 p q=>p.keep q⟩
  have I4:Inv (cxP X (X.pn++pins)) [] σ1 (upd H' a (.ext (ybS a C))) { s1 with heap:=h3 }:=I3.track nH n0 nl nc np new
  have hln:i<X.N.length:=(List.getElem?_eq_some_iff.mp hi).1
  refine zcj (X:=cxS X (X.pn++pins) a) (I4.toS a) hN hi (.inl hx) (show RelV (.ref a) (.ref a) from rfl) (fun s6 I6=>?_) (.inr hx)
  refine wpAny_mono (hs (X.pn++pins) a [] s6 _ _ _ I6 (hsuite a nH)) (fun f s7 hf=>?_) fun _ _ z=>z.elim
  cases f with
  |next =>
   obtain ⟨σ7,H7,J7,q7⟩:=hf
   have J8:Inv X pins σ7 H7 s7:=Inv.ofS I.ok J7
   exact zfw (pos:=hpos) J8 hN hi hx (by rw [J8.len];exact hln) fun s8 J9=>⟨_,H7,J9,q7⟩
  |brk =>
   obtain ⟨_,_,_,z⟩:=hf
   exact z.elim
  |cont =>
   obtain ⟨_,_,_,z⟩:=hf
   exact z.elim
  |ret u =>
   obtain ⟨v,σ7,H7,J7,r7,q7⟩:=hf
   have J8:Inv X pins σ7 H7 s7:=Inv.ofS I.ok J7
   exact zfw (pos:=hpos) J8 hN hi hx (by rw [J8.len];exact hln) fun s8 J9=>⟨v,_,H7,J9,r7,q7⟩
end
section
variable {S:Se}{X:Cx}{σ:St}{B:Addr->Prop}{φ φ1:Ph}{H H1:Hp}{st:Store}{ρ:IC.Env}{D:Ends}{body suite:List Stmt}{b₀:Stmt}{x n:Str}{p p2 np hpos pos cpos:Pos}{W:Addr}{i:Nat}{cb ch:Css}{a e:Expr}{es:List Expr}{ca ce:Ce}{ces:Ces}
theorem yF.drop {K:PySem.W.Frag}{cl:Nat->Addr}(r:yF K cl B φ H ρ σ)(i:Nat):yF K cl B φ H (ρ.set i none) (σ.set i none):=by
 refine ⟨by rw [List.length_set,List.length_set];exact r.len,fun j w e=>?_⟩
 by_cases h:j=i
 ·subst h
  rw [List.getElem?_set] at e
  simp only [if_true] at e
  split at e <;> cases e
 ·rw [List.getElem?_set_ne (Ne.symm h)] at e ⊢
  exact r.get j w e
noncomputable abbrev Se.quiet (S:Se):Se:={ S with may:=false }
theorem zmj {cs:List Nat}(hstk:∃outer,X.stack=X.env::outer)(hex0:X.ex=[])(hfr:X.env.frame=some X.env.locals)(hN:X.N.Nodup)(hi:X.N[i]?=some n)(hx:X.env.scope.names.lookup n=some .local)(hgx:Gl X x)(hmx:X.mg x=some (.ref W))(hW:∀c∈cs,PySem.W.exmOne X.K (.ref (S.cl c)) (.ref W)=some true)
  (hb:∀pn P,ybQ (ydV X pn P) body (tSs S.quiet (ydV X pn P) cb)) (hs:∀pn a,ybQ (cxS X pn a) (b₀::suite) (tSs S.quiet (cxS X pn a) ch)) (hdb:(x == ("__debug__":Str))=false:=by decide) :
  KqS X (.Try body [.ExceptHandler (some (.Name x np)) (some n) (b₀::suite) hpos] [] [] pos) (tS S X (.try cb cs i ch)):= by
 with_unfolding_all
 refine (zno (tb:=fun pn P=>tSs S.quiet (ydV X pn P) cb) (ts:=fun pn a=>tSs S.quiet (cxS X pn a) ch) hstk hex0 hfr hN hi hx hgx hmx hb hs hdb).imp fun D σ H ⟨B,φ,st,ρ,rs,re,h⟩ pn=>?_
 simp only [ex] at h
 cases q:exs S.call ρ st cb with
 |exc d ρ1 st1 =>
  rw [q] at h
  dsimp only at h
  by_cases hd:cs.contains d=true
  ·rw [if_pos hd] at h
   refine ⟨fun σ1 cls H'=>cls=.ref (S.cl d)/\∃φ',Step φ H φ' H'/\yw X.K S.cl B φ' H' st1/\yF X.K S.cl B φ' H' ρ1 σ1,⟨B,φ,st,ρ,rs,re,?_⟩,?_⟩
   ·show yai _ _ _ _ _ (exs S.call ρ st cb) _
    rw [q]
    intro σ' φ1 H1 e s' s1 re1 hx
    rcases hx with ⟨pins,H2,t,φ2,I,q2,c⟩|⟨m,_⟩
    ·refine ⟨pins,σ',H2,t,I.unwish,CX1.mono c fun cls H' z=>?_⟩
     obtain ⟨z1,φ',z2,z3⟩:=z
     exact ⟨z1,φ',(s1.trans q2).trans z2,z3,(re1.step q2).step z2⟩
    ·cases m
   ·rintro σ1 cls H' ⟨rfl,φ',s1,rs1,re1⟩
    refine ⟨S.cl d,rfl,hW d (by simpa using hd),fun a ha=>?_⟩
    have nB:¬B a:=fun z=>by
     obtain ⟨o,e⟩:=rs1.dom a z
     rw [ha] at e
     cases e
    have nφ:some a∉φ':=fun z=>by
     obtain ⟨o,e⟩:=rs1.there z
     rw [ha] at e
     cases e
    have s2:Step φ' H' φ' (upd H' a (.ext (ybS a (S.cl d)))):=.upd ha
    refine ⟨B,φ',st1,ρ1.set i (some (.exn d)),rs1.upd ha,(re1.step s2).set i ?_,?_⟩
    ·simp only [ye]
     exact ⟨a,rfl,zU,nB,nφ⟩
    ·show yai _ _ _ _ _ (exs S.call (ρ1.set i (some (.exn d))) st1 ch) _
     cases q2:exs S.call (ρ1.set i (some (.exn d))) st1 ch with
     |nx ρ2 st2 =>
      rw [q2] at h
      intro σ' H2 φ2 s3 rs3 re3
      exact h _ H2 φ2 ((s1.trans s2).trans s3) rs3 (re3.drop i)
     |rt v st2 =>
      rw [q2] at h
      intro y H2 φ2 s3 rs3 rv
      exact h y H2 φ2 ((s1.trans s2).trans s3) rs3 rv
     |bk ρ2 st2=>rw [q2] at h;exact h.elim
     |ct ρ2 st2=>rw [q2] at h;exact h.elim
     |exc k ρ2 st2=>rw [q2] at h;exact h.elim
     |bad=>rw [q2] at h;exact h.elim
  ·rw [if_neg hd] at h
   exact h.elim
 |nx ρ1 st1 =>
  rw [q] at h
  exact ⟨fun _ _ _=>False,⟨B,φ,st,ρ,rs,re,by show yai _ _ _ _ _ (exs S.call ρ st cb) _;rw [q];exact h⟩,fun _ _ _ z=>z.elim⟩
 |rt v st1 =>
  rw [q] at h
  exact ⟨fun _ _ _=>False,⟨B,φ,st,ρ,rs,re,by show yai _ _ _ _ _ (exs S.call ρ st cb) _;rw [q];exact h⟩,fun _ _ _ z=>z.elim⟩
 |bk ρ1 st1 =>
  rw [q] at h
  exact ⟨fun _ _ _=>False,⟨B,φ,st,ρ,rs,re,by show yai _ _ _ _ _ (exs S.call ρ st cb) _;rw [q];exact h⟩,fun _ _ _ z=>z.elim⟩
 |ct ρ1 st1 =>
  rw [q] at h
  exact ⟨fun _ _ _=>False,⟨B,φ,st,ρ,rs,re,by show yai _ _ _ _ _ (exs S.call ρ st cb) _;rw [q];exact h⟩,fun _ _ _ z=>z.elim⟩
 |bad=>rw [q] at h;exact h.elim
theorem all_nil {P:Nat->Prop}:∀c∈([]:List Nat),P c:=fun _ h=>by cases h
theorem all_cons {P:Nat->Prop}{c:Nat}{cs:List Nat}(h:P c)(t:∀d∈cs,P d):∀d∈c::cs,P d:=fun d hd=>by
 rcases List.mem_cons.mp hd with e|e
 ·exact e ▸ h
 ·exact t d e
theorem zbN {P:Ty->Prop}:∀c∈([]:List Ty),P c:=fun _ h=>by cases h
theorem zu {P:Ty->Prop}{c:Ty}{cs:List Ty}(h:P c)(t:∀d∈cs,P d):∀d∈c::cs,P d:=fun d hd=>by
 rcases List.mem_cons.mp hd with e|e
 ·exact e ▸ h
 ·exact t d e
structure ybz (K:PySem.W.Frag)(mg:Str->Option Value)(C:Addr)(x:Str):Prop where
 m:mg x=some (.ref C)
 q:PySem.W.excIn K C [.type "ValueError",.type "Exception",.type "BaseException",.type "object"] "ValueError.__new__"=true
theorem zeN {k:Nat}(Z:ybz X.K X.mg (S.cl k) x)(hmay:S.may=true)(hc:X.calm=true)(hg:Gl X x)(ha:KqE X a (tE S X ca))
  (hs:starEach [a] X.env=(false,eval a X.env)::starEach [] X.env:=by rfl) (hpl:(backTo cpos (starEach [] X.env)).any (·.1)=false:=by rfl) (hdb:(x == ("__debug__":Str))=false:=by decide) :
  KqS X (.Raise (some (.Call (.Name x np) [a] [] cpos)) none pos) (tS S X (.raise k ca)):= by
 with_unfolding_all
 intro pins s σ H D I ⟨B,φ,st,ρ,rs,re,h⟩
 simp only [ex] at h
 have OC:=yfL I.ok.mod.kin Z.m Z.q
 have FB:=PySem.F.excBase_ValueError
 obtain ⟨tl,Nn,nm,q,bs,hdct,sn,sub,ab,col,dd,k0,k1,k2,k3,k5,mN,hC,hN,hni,TL⟩:=OC.obj
 refine wpAny_Raise_call_subT (C:=S.cl k) (nm:=nm) (q:=q) (N:=Nn) (bs:=bs) (bm:=tl) (hdct:=hdct) (sn:=sn) (sub:=sub) (ab:=ab) (col:=col) (dd:=dd) (k0:=k0) (k1:=k1) (k2:=k2) (k3:=k3) (k5:=k5)
  FB (mN:=mN) (TL.hasType FB.hasBase) (I.ok.hd hc) (by rw [hs];show (false || (backTo cpos (starEach [] X.env)).any (·.1))=false;rw [hpl];rfl) hni (zeT I hg OC.bound ⟨rfl,?_⟩ hdb)
 have hA:=(zbC ha yaw hs) cpos pins s σ H (fun vs H1=>∃v,vs=[v]/\∃φ1 st1,Step φ H φ1 H1/\yw X.K S.cl B φ1 H1 st1/\yF X.K S.cl B φ1 H1 ρ σ/\yai S X B φ1 H1 (.exc k ρ st1) D) I
  (tE.fl rs re h fun x H1 v st1 φ1 s1 rs1 re1 rv h1=>⟨x,rfl,φ1,st1,s1,rs1,re1,h1⟩)
 rw [hs] at hA ⊢
 refine Calls.evalArgs_plain (thn hA fun us s1 ⟨vs,H1,I1,r1,v,ev,φ1,st1,t1,rs1,re1,h1⟩=>?_)
 subst ev
 refine ⟨rfl,by rw [<- r1.length];show 1<=sizeLine;decide,I1.bk _ _ hC,hN.keeps I1.bk,TL.keeps I1.bk,fun h' e' hx=>?_⟩
 exact h1 σ φ1 H1 _ _ .rfl re1 (.inr ⟨hmay,pins,H1,s1,φ1,h',e',us,I1,.rfl,rs1,hx,rfl,rfl⟩)
noncomputable def tyZ (cl:Nat->Addr):Ty->Value
 | .cls d=>.ref (cl d)
 |_=>.type "ValueError"
noncomputable def yce (cl:Nat->Addr):Ty->V
 | .cls d=>.ref (cl d)
 |_=>.ty "ValueError"
theorem zi0 {cl:Nat->Addr}{t:Ty}{c:Value}(r:RelV (yce cl t) c):c=tyZ cl t:=by
 cases t <;> exact r
theorem zk2:bootBuiltins "ValueError"=some (.type "ValueError"):=by decide +kernel
theorem zY {d:Nat}{cl:Nat->Addr}(hg:Gl X x)(hm:X.mg x=some (.ref (cl d)))(hd:(x == ("__debug__":Str))=false:=by decide):KqE X (.Name x pos) (tC (yce cl (.cls d))):= by
 with_unfolding_all
 exact zin hg hm rfl hd
theorem zi3 {cl:Nat->Addr}(hg:Gl X "ValueError")(hm:X.mg "ValueError"=none):KqE X (.Name "ValueError" pos) (tC (yce cl .val)):= by
 with_unfolding_all
 exact zkH hg hm zk2 rfl
def yR (K:PySem.W.Frag)(cl:Nat->Addr)(c:Nat)(t:Ty):Prop:=PySem.W.kitOne K (.ref (cl c)) (tyZ cl t)=some (yP (.exn c) t)
theorem zla {K:PySem.W.Frag}{cl:Nat->Addr}{c:Nat}:∀{ts:List Ty},(∀t∈ts,yR K cl c t)->PySem.W.kitAny K (.ref (cl c)) (ts.map (tyZ cl))=some (ts.any (yP (.exn c)))
 | [],_=>rfl
 |t::ts,h=>by
  have ht:=h t List.mem_cons_self
  unfold yR at ht
  rw [List.map_cons,PySem.W.kitAny,ht,List.any_cons]
  cases yP (.exn c) t with
  |true=>rfl
  |false=>exact zla fun t' h'=>h t' (List.mem_cons_of_mem _ h')
noncomputable abbrev gaE:=PySem.F.attr_ValueError.ga
theorem zmU {cs:List Nat}{ts:List Ty}{v z:PV}(h:yb5 cs v ts=some z):∃c,v=.exn c/\c∈cs/\z=.bl (ts.any (yP (.exn c))):=by
 cases v with
 |exn c =>
  simp only [yb5] at h
  split at h
  ·rename_i q
   exact ⟨c,rfl,by simpa using q,(Option.some.inj h).symm⟩
  ·cases h
 |_=>cases h
noncomputable def ye0 (S:Se)(X:Cx)(cs:List Nat)(t:Ty):List V->Hp->VK->Prop:=fun xs H Q=>∃B φ st v x z,xs=[x,yce S.cl t]/\yw X.K S.cl B φ H st/\ye X.K S.cl B φ H v x/\yb5 cs v [t]=some z /\
 ∀z' H' φ',Step φ H φ' H'->yw X.K S.cl B φ' H' st->ye X.K S.cl B φ' H' z z'->Q z' H'
theorem zox {cs:List Nat}{t:Ty}(Z:∀c∈cs,ybC X.K (S.cl c)/\yR X.K S.cl c t):yad X (.builtin "isinstance") (ye0 S X cs t):=by
 rintro pins s σ H xs us Q I r ⟨B,φ,st,v,x,z,rfl,rs,rv,e,q⟩
 obtain ⟨u,c',rfl,ru,rc⟩:=vals2 r
 obtain ⟨c,rfl,hc,rfl⟩:=zmU e
 cases zi0 rc
 simp only [ye] at rv
 obtain ⟨a,rfl,hH,_,_⟩:=rv
 cases (show u=Value.ref a from ru)
 obtain ⟨Z1,Z2⟩:=Z c hc
 have p:ybS a (S.cl c) s.heap:=(I.hok a _ hH).1
 exact PySem.W.kia_one (ziY Z1 gaE) I.kIn p Z2 (fun z=>nomatch z) fun tk=>⟨.bl _,H,I.tok tk,rfl,q _ H φ .rfl rs (by simp [ye])⟩
theorem zcp {cs:List Nat}{t:Ty}{en:Expr}(Z:∀c∈cs,ybC X.K (S.cl c)/\yR X.K S.cl c t)(hg:Gl X "isinstance")(hm:X.mg "isinstance"=none)(hn:KqE X en (tC (yce S.cl t)))(ha:KqE X a (tE S X ca))
  (he:starEach [a,en] X.env=(false,eval a X.env)::starEach [en] X.env:=by rfl) (he2:starEach [en] X.env=(false,eval en X.env)::starEach [] X.env:=by rfl) (hpl:(backTo pos (starEach [en] X.env)).any (·.1)=false:=by rfl) :
  KqE X (.Call (.Name "isinstance" p) [a,en] [] pos) (tE S X (.isx ca cs [t])):= by
 with_unfolding_all
 exact PE.imp (zfi (zox Z) hg hm PyProof.Rows.boot_isinstance (zbC ha (zbC hn yaw he2) he) (by decide) (by decide) he hpl) fun σ H Q ⟨B,φ,st,ρ,rs,re,h⟩=>by
  simp only [ev] at h
  refine tE.bind rs re h fun x H1 v st1 φ1 s1 rs1 re1 rv h1=>?_
  obtain ⟨z,e,q⟩:=zbp h1 rs1
  exact ⟨B,φ1,st1,v,x,z,rfl,rs1,rv,e,q⟩
noncomputable abbrev tNs (vs:List V):TA:=fun _ H Q=>Q vs H
theorem zfn:KqA X [] (tNs []):= by
 with_unfolding_all
 exact yaw.imp fun σ H Q h=>h
theorem z4 {v:V}{vs:List V}(h:KqE X e (tC v))(t:KqA X es (tNs vs))(he:starEach (e::es) X.env=(false,eval e X.env)::starEach es X.env:=by rfl):KqA X (e::es) (tNs (v::vs)):= by
 with_unfolding_all
 exact PA.imp (zbC h t he) fun σ H Q h=>h
theorem zkC {cl:Nat->Addr}:∀{ts:List Ty} {us:List Value},Vals (ts.map (yce cl)) us->us=ts.map (tyZ cl)
 | [],us,h=>by cases h;rfl
 |t::ts,us,h=>by
  cases h with
  |cons r q=>rw [zi0 r,zkC q];rfl
noncomputable def yeo (S:Se)(X:Cx)(cs:List Nat)(ts:List Ty):List V->Hp->VK->Prop:=fun xs H Q=>∃B φ st v x z p,xs=[x,.ref p]/\H p=some (.tup (ts.map (yce S.cl)))/\yw X.K S.cl B φ H st/\ye X.K S.cl B φ H v x/\yb5 cs v ts=some z /\
 ∀z' H' φ',Step φ H φ' H'->yw X.K S.cl B φ' H' st->ye X.K S.cl B φ' H' z z'->Q z' H'
theorem znV {cs:List Nat}{ts:List Ty}(Z:∀c∈cs,ybC X.K (S.cl c)/\∀t∈ts,yR X.K S.cl c t):yad X (.builtin "isinstance") (yeo S X cs ts):=by
 rintro pins s σ H xs us Q I r ⟨B,φ,st,v,x,z,p,rfl,hp,rs,rv,e,q⟩
 obtain ⟨u,c',rfl,ru,rc⟩:=vals2 r
 obtain ⟨c,rfl,hc,rfl⟩:=zmU e
 cases (show c'=Value.ref p from rc)
 simp only [ye] at rv
 obtain ⟨a,rfl,hH,_,_⟩:=rv
 cases (show u=Value.ref a from ru)
 obtain ⟨Z1,Z2⟩:=Z c hc
 have pp:ybS a (S.cl c) s.heap:=(I.hok a _ hH).1
 obtain ⟨_,its,r2,⟨oc,od,odt,osl⟩,g,hcl,n,hd⟩:=(show yI X.prog X.w H s.heap p (.tup (ts.map (yce S.cl))) from I.hok p _ hp)
 have:=zkC r2
 dsimp only at hcl hd
 subst hcl hd this
 exact PySem.W.kia_tup (ziY Z1 gaE) I.kIn pp g (zla Z2) (fun z=>nomatch z) fun tk=>⟨.bl _,H,I.tok tk,rfl,q _ H φ .rfl rs (by simp [ye])⟩
theorem zen {cs:List Nat}{ts:List Ty}{k:Nat}{tp:Pos}(Z:∀c∈cs,ybC X.K (S.cl c)/\∀t∈ts,yR X.K S.cl c t)(hz:ts.length<=1000)(hg:Gl X "isinstance")(hm:X.mg "isinstance"=none)(hn:KqA X es (tNs (ts.map (yce S.cl))))(ha:KqE X a (tE S X ca))
  (he:starEach [a,.Tuple es k tp] X.env=(false,eval a X.env)::starEach [.Tuple es k tp] X.env:=by rfl) (he2:starEach [.Tuple es k tp] X.env=(false,eval (.Tuple es k tp) X.env)::starEach [] X.env:=by rfl) (hpl:(backTo pos (starEach [.Tuple es k tp] X.env)).any (·.1)=false:=by rfl) :
  KqE X (.Call (.Name "isinstance" p) [a,.Tuple es k tp] [] pos) (tE S X (.isx ca cs ts)):= by
 with_unfolding_all
 exact PE.imp (zfi (znV Z) hg hm PyProof.Rows.boot_isinstance (zbC ha (zbC (zlu hn) yaw he2) he) (by decide) (by decide) he hpl) fun σ H Q ⟨B,φ,st,ρ,rs,re,h⟩=>by
  simp only [ev] at h
  refine tE.bind rs re h fun x H1 v st1 φ1 s1 rs1 re1 rv h1=>?_
  obtain ⟨z,e,q⟩:=zbp h1 rs1
  refine ⟨by rw [List.length_map,sizeLine_eq];omega,fun pp hp=>?_⟩
  have s2:Step φ1 H1 φ1 (upd H1 pp (.tup (ts.map (yce S.cl)))):=.upd hp
  exact ⟨B,φ1,st1,v,x,z,pp,rfl,zU,rs1.upd hp,rv.step s2,e,fun z' H' φ' s'=>q z' H' φ' (s2.trans s')⟩
noncomputable def tJ (S:Se)(X:Cx)(c:Ces):TJ:=fun out σ H Q=>∃B φ st ρ,yw X.K S.cl B φ H st/\yF X.K S.cl B φ H ρ σ/\∃vs st' z,evs S.call ρ st c=.ok vs st'/\ycq out vs=some z/\∀H' φ',Step φ H φ' H'->yw X.K S.cl B φ' H' st'->Q (.str z) H'
noncomputable def tF (S:Se)(X:Cx)(c:Ce):TE:=fun σ H Q=>∃B φ st ρ,yw X.K S.cl B φ H st/\yF X.K S.cl B φ H ρ σ/\∃v st' y,ev S.call ρ st c=.ok v st'/\ybT v=some y/\∀H' φ',Step φ H φ' H'->yw X.K S.cl B φ' H' st'->Q (.str y) H'
theorem zl6 (h:KqE X e (tE S X ce)):KqE X (.FormattedValue e (-1) none pos) (tF S X ce):= by
 with_unfolding_all
 intro pins s σ H Q I ⟨B,φ,st,ρ,rs,re,v,st',y,e1,e2,q⟩
 refine FormattedValue_plain (thn (h pins s σ H (fun x H1=>∃φ1,Step φ H φ1 H1/\yw X.K S.cl B φ1 H1 st'/\ye X.K S.cl B φ1 H1 v x) I ⟨B,φ,st,ρ,rs,re,by rw [e1];exact fun x H' φ' t r rv=>⟨φ',t,r,rv⟩⟩) fun u s1 ⟨x,H1,I1,r1,φ1,t1,rs1,rv⟩=>?_)
 cases v with
 |int i =>
  simp only [ye] at rv
  subst rv
  obtain ⟨tk,rfl⟩:=r1
  simp only [ybT] at e2
  split at e2
  ·rename_i hd
   cases e2
   exact formatField_int_small hd ⟨.str _,H1,I1.tok _,⟨_,rfl⟩,q H1 φ1 t1 rs1⟩
  ·cases e2
 |str z =>
  simp only [ye] at rv
  subst rv
  obtain ⟨tk,rfl⟩:=r1
  simp only [ybT] at e2
  split at e2
  ·rename_i hd
   cases e2
   exact formatField_str (fun t' tk=>⟨.str _,H1,I1.tok _,⟨_,rfl⟩,q H1 φ1 t1 rs1⟩) (by rw [sizeLine_eq];exact hd)
  ·cases e2
 |_=>cases e2
theorem zoY {y:Str}{j:Nat}:PE X (.Constant (.str y) j pos) (tF S X (.cst (.str y))):=yb3.imp fun σ H Q ⟨B,φ,st,ρ,rs,re,v,st',z,e1,e2,q⟩=>by
 simp only [ev] at e1
 cases e1
 simp only [ybT] at e2
 split at e2
 ·cases e2;exact q H φ .rfl rs
 ·cases e2
theorem zlG {y:Str}{j:Nat}:KqE X (.Constant (.str y) j pos) (tF S X (.cst (.str y))):=by with_unfolding_all exact zoY
theorem zo5:PJ X [] (tJ S X .nil):=fun out pins s σ H Q I ⟨B,φ,st,ρ,rs,re,vs,st',z,e1,e2,q⟩=>by
 simp only [evs] at e1
 cases e1
 simp only [ycq] at e2
 split at e2
 ·rename_i hz
  cases e2
  exact zoN out pins s σ H Q I ⟨by rw [sizeLine_eq];exact hz,q H φ .rfl rs⟩
 ·cases e2
theorem zm4 (he:PE X e (tF S X ce))(hr:PJ X es (tJ S X ces))(hs:evalEach (e::es) X.env=eval e X.env::evalEach es X.env:=by rfl):PJ X (e::es) (tJ S X (.cons ce ces)):=fun out pins s σ H Q I ⟨B,φ,st,ρ,rs,re,vs,st',z,e1,e2,q⟩=>by
 simp only [evs] at e1
 cases e3:ev S.call ρ st ce with
 |ok v st1 =>
  rw [e3] at e1
  simp only [R.bind] at e1
  cases e4:evs S.call ρ st1 ces with
  |ok ws st2 =>
   rw [e4] at e1
   simp only at e1
   cases e1
   simp only [ycq] at e2
   cases e5:ybT v with
   |none=>rw [e5] at e2;cases e2
   |some y =>
    rw [e5] at e2
    simp only at e2
    split at e2
    ·rename_i hz
     refine znY he hr hs out pins s σ H Q I ⟨B,φ,st,ρ,rs,re,v,st1,y,e3,e5,fun H' φ' t1 rs1=>⟨y,rfl,by rw [sizeLine_eq];exact hz,B,φ',st1,ρ,rs1,re.step t1,ws,st',z,e4,e2,fun H2 φ2 t2 rs2=>q H2 φ2 (t1.trans t2) rs2⟩⟩
    ·cases e2
  |exc c st2=>rw [e4] at e1;cases e1
  |bad=>rw [e4] at e1;cases e1
 |exc c st1=>rw [e3] at e1;cases e1
 |bad=>rw [e3] at e1;cases e1
theorem zhl (he:KqE X e (tF S X ce))(hr:PJ X es (tJ S X ces))(hs:evalEach (e::es) X.env=eval e X.env::evalEach es X.env:=by rfl):PJ X (e::es) (tJ S X (.cons ce ces)):=by with_unfolding_all exact zm4 he hr hs
theorem zoM {v1 v2:Expr}{rest:List Expr}(h:PJ X (v1::v2::rest) (tJ S X ces)):PE X (.JoinedStr (v1::v2::rest) pos) (tE S X (.fst ces)):=(zjY h).imp fun σ H Q ⟨B,φ,st,ρ,rs,re,h⟩=>by
 simp only [ev] at h
 cases e1:evs S.call ρ st ces with
 |ok vs st1 =>
  rw [e1] at h
  simp only [ydH] at h
  cases e2:ycq Str.empty vs with
  |none=>rw [e2] at h;exact h.elim
  |some z =>
   rw [e2] at h
   exact ⟨B,φ,st,ρ,rs,re,vs,st1,z,e1,e2,fun H' φ' t r=>h _ H' φ' t r (by simp only [ye])⟩
 |exc c st1=>rw [e1] at h;exact h.elim
 |bad=>rw [e1] at h;exact h.elim
theorem zmG {v1 v2:Expr}{rest:List Expr}(h:PJ X (v1::v2::rest) (tJ S X ces)):KqE X (.JoinedStr (v1::v2::rest) pos) (tE S X (.fst ces)):=by with_unfolding_all exact zoM h
end
theorem Vals.repN {xs:List V}{us:List Value}(r:Vals xs us):∀k:Nat,Vals (List.replicate k xs).flatten (List.replicate k us).flatten
 |0=>.nil
 |k+1=>by
  rw [List.replicate_succ,List.replicate_succ,List.flatten_cons,List.flatten_cons]
  exact r.append (Vals.repN r k)
section
variable {S:Se}{X:Cx}{p pos p2 px apos:Pos}{a b:Expr}{ca cb:Ce}
theorem yo.rep {K:PySem.W.Frag}{cl:Nat->Addr}{B:Addr->Prop}{φ:Ph}{H:Hp}{vs:List PV}{xs:List V}(l:yo K cl B φ H vs xs):∀k:Nat,yo K cl B φ H (List.replicate k vs).flatten (List.replicate k xs).flatten
 |0=>by simp [yo]
 |k+1=>by
  rw [List.replicate_succ,List.replicate_succ,List.flatten_cons,List.flatten_cons]
  exact l.append (yo.rep l k)
end
inductive ycQ (K:PySem.W.Frag)(cl:Nat->Addr)(w:World):List (Str×PV)->List DictEntry->Prop
 | nil:ycQ K cl w [] []
 | cons {k:Str} {v:PV} {t:Tok} {u:Value} {x:V} {D:List (Str×PV)} {es:List DictEntry} (hr:RelV x u) (hv:∀B φ H,ye K cl B φ H v x) (h:ycQ K cl w D es):ycQ K cl w ((k,v)::D) (⟨PyData.keyHash w.params k,.str k t,u⟩ :: es)
def GD (K:PySem.W.Frag)(w:World)(mg:Str->Option Value)(cl:Nat->Addr)(x:Str)(D:List (Str×PV)):Prop :=
 ∃(y:Addr) (es:Array DictEntry) (ep:Nat),mg x=some (.ref y)/\K.lookup y=some ⟨.type "dict",none,.dict es ep,#[]⟩/\(y == sysModules)=false/\ycQ K cl w D es.toList/\(D.map (·.1)).Nodup
theorem ycQ.pairs {K:PySem.W.Frag}{cl:Nat->Addr}{P:Program}{w:World}{D:List (Str×PV)}{es:List DictEntry}(h:ycQ K cl w D es) :
  ∃vs:List (Str×Value),Pairs (strKind P w) es vs/\(∀e∈es,∃k,(strKind P w).is k e.key=true/\e.hash=(strKind P w).hash k)/\vs.map (·.1)=D.map (·.1) /\
   (∀s,(valueAt vs s).isSome=(yM s D).isSome)/\∀s v,yM s D=some v->∃u x,valueAt vs s=some u/\RelV x u/\∀B φ H,ye K cl B φ H v x:=by
 induction h with
 |nil=>exact ⟨[],.nil,fun e he=>(by cases he),rfl,fun s=>rfl,fun s v e=>by cases e⟩
 | @cons k v t u x D es hr hv h ih =>
  obtain ⟨vs,h1,h2,h3,h4,h5⟩:=ih
  have hat:∀s,valueAt ((k,u)::vs) s=if k=s then some u else valueAt vs s:=fun s=>by
   unfold valueAt
   rw [List.find?_cons]
   by_cases e:k=s
   ·simp [e]
   ·simp [e]
  refine ⟨(k,u)::vs,.cons (strKind_is P w k t) rfl h1,fun e he=>?_,by rw [List.map_cons,List.map_cons,h3],fun s=>?_,fun s v' e=>?_⟩
  ·rcases List.mem_cons.1 he with rfl|he
   ·exact ⟨k,strKind_is P w k t,rfl⟩
   ·exact h2 e he
  ·rw [hat,yM]
   by_cases e:k=s
   ·rw [if_pos e,if_pos (by simpa using e)];rfl
   ·rw [if_neg e,if_neg (by simpa using e),h4]
  ·rw [yM] at e
   rw [hat]
   by_cases q:k=s
   ·rw [if_pos (by simpa using q)] at e
    cases e
    exact ⟨u,x,by rw [if_pos q],hr,hv⟩
   ·rw [if_neg (by simpa using q)] at e
    obtain ⟨u',x',e1,e2,e3⟩:=h5 s v' e
    exact ⟨u',x',by rw [if_neg q];exact e1,e2,e3⟩
section
variable {S:Se}{X:Cx}{σ:St}{B:Addr->Prop}{φ:Ph}{H:Hp}{st:Store}{pos p:Pos}{a b i:Expr}{ca cb:Ce}{x:Str}{D:List (Str×PV)}{ty:TE}
theorem zkQ {y:Addr}{es:Array DictEntry}{ep:Nat}{pins:List (Addr×Obj)}{s:Shared}(I:Inv X pins σ H s)(hk:X.K.lookup y=some ⟨.type "dict",none,.dict es ep,#[]⟩)(hn:(D.map (·.1)).Nodup){vs:List (Str×Value)}(h1:Pairs (strKind X.prog X.w) es.toList vs)
  (h2:∀e∈es.toList,∃k,(strKind X.prog X.w).is k e.key=true/\e.hash=(strKind X.prog X.w).hash k) (h3:vs.map (·.1)=D.map (·.1)):s.heap.DictOf (strKind X.prog X.w) y vs :=
 ⟨_,es,ep,I.kIn y _ hk,⟨rfl,rfl,rfl⟩,rfl,fun e he=>h2 e (by simpa using he),h1,by rw [h3];exact hn⟩
noncomputable def yeq (S:Se)(X:Cx)(D:List (Str×PV))(ty:TE):TE:=fun σ H Q=>ty σ H fun z H2=>∃s v,z=.str s/\yM s D=some v/\∀x',(∀B φ H,ye X.K S.cl B φ H v x')->Q x' H2
theorem zn8 (hg:Gl X x)(h:GD X.K X.w X.mg S.cl x D)(hi:PE X i ty)(hs:yc1 i)(hd:(x == ("__debug__":Str))=false:=by decide):PE X (.Subscript (.Name x p) i pos) (yeq S X D ty):=by
 obtain ⟨y,es,ep,hm,hk,hsy,hr,hn⟩:=h
 obtain ⟨vs,h1,h2,h3,h4,h5⟩:=hr.pairs (P:=X.prog)
 intro pins s σ H Q I q0
 refine zln PySem.F.slot_dict_getitem.lookup hs (thn (zin (v:=.ref y) hg hm rfl hd pins s σ H (fun z H1=>z=.ref y/\ty σ H1 fun z H2=>∃s v,z=.str s/\yM s D=some v/\∀x',(∀B φ H,ye X.K S.cl B φ H v x')->Q x' H2) I ⟨rfl,q0⟩) fun u s1 ⟨z,H1,I1,rz,ez,q1⟩=>thn (hi pins s1 σ H1 _ I1 q1) fun iv s2 ⟨z2,H2,I2,rz2,sx,v,ez2,e,q2⟩=>?_)
 subst ez
 subst ez2
 obtain rfl:u=Value.ref y:=rz
 obtain ⟨t,rfl⟩:=rz2
 have dd:=zkQ I2 hk hn h1 h2 h3
 obtain ⟨u',x',e1,e2,e3⟩:=h5 sx v e
 exact ⟨dd.typeIs,wpAny_getItem_of (strKind_is X.prog X.w sx t) dd.mapOf e1 ⟨x',H2,I2.tok _,e2,q2 x' e3⟩⟩
theorem ziL (hg:Gl X x)(h:GD X.K X.w X.mg S.cl x D)(hb:KqE X b (tE S X cb))(hs:yc1 b:=by exact fun _ _=>rfl)(hd:(x == ("__debug__":Str))=false:=by decide):KqE X (.Subscript (.Name x p) b pos) (tE S X (.dix D cb)):= by
 with_unfolding_all
 exact PE.imp (zn8 hg h hb hs hd) fun σ H Q ⟨B,φ,st,ρ,rs,re,h⟩=>by
  simp only [ev] at h
  refine tE.bind rs re h fun z H1 v st1 φ1 s1 rs1 re1 rv h1=>?_
  obtain ⟨w,e,q⟩:=zbp h1 rs1
  cases v with
  |str sx =>
   simp only [ye] at rv
   exact ⟨sx,w,rv,e,fun x' hx=>q x' H1 φ1 .rfl rs1 (hx _ _ _)⟩
  |_=>cases e
noncomputable def yfI (y:Addr)(D:List (Str×PV)):R2:=fun x z H Q=>z=.ref y/\∃s,x=.str s/\Q (.bl (yM s D).isSome) H
theorem zmn (hg:Gl X x)(h:GD X.K X.w X.mg S.cl x D)(ha:KqE X a (tE S X ca))(hm:behindInMarks .In (.Name x p)=false:=by with_unfolding_all rfl)(hd:(x == ("__debug__":Str))=false:=by decide):KqE X (.Compare a [.In] [.Name x p] pos) (tE S X (.din ca D)):= by
 with_unfolding_all
 obtain ⟨y,es,ep,hmg,hk,hsy,hr,hn⟩:=h
 obtain ⟨vs,h1,h2,h3,h4,h5⟩:=hr.pairs (P:=X.prog)
 have op:OpR X (compareOp .In) (yfI y D):=by
  intro pins s σ H z1 z2 v u Q I r1 r2 ⟨ez,sx,ex,q⟩
  subst ez
  subst ex
  obtain rfl:u=Value.ref y:=r2
  obtain ⟨t,rfl⟩:=r1
  have dd:=zkQ I hk hn h1 h2 h3
  refine wpAny_in_of (strKind_is X.prog X.w sx t) hsy dd.mapOf ⟨.bl (yM sx D).isSome,H,I.tok _,?_,q⟩
  rw [h4];rfl
 refine (zk1 op ha (zin (v:=.ref y) hg hmg rfl hd) hm).imp fun σ H Q ⟨B,φ,st,ρ,rs,re,h⟩=>?_
 simp only [ev] at h
 refine tE.bind rs re h fun z H1 v st1 φ1 s1 rs1 re1 rv h1=>?_
 obtain ⟨w,e,q⟩:=zbp h1 rs1
 cases v with
 |str sx =>
  simp only [ye] at rv
  cases e
  exact ⟨rfl,sx,rv,q _ H1 φ1 .rfl rs1 (by simp only [ye])⟩
 |_=>cases e
theorem zhi:∀(xs ys:List PV) (i:Nat) {x y:PV},xs[i]?=some x->ys[i]?=some y->(yS xs ys)[i]?=some (.tup [x,y])
 | [],_,i,_,_,h,_=>by simp at h
 |_::_,[],i,_,_,_,h=>by simp at h
 |x::xs,y::ys,0,_,_,h1,h2=>by simp at h1 h2;simp [yS,h1,h2]
 |x::xs,y::ys,i+1,_,_,h1,h2=>by
  simp only [List.getElem?_cons_succ] at h1 h2
  simp only [yS,List.getElem?_cons_succ]
  exact zhi xs ys i h1 h2
theorem zhn:∀(xs ys:List PV),xs.length<=ys.length->(yS xs ys).length=xs.length
 | [],_,_=>by simp [yS]
 |_::_,[],h=>by simp at h
 |x::xs,y::ys,h=>by simp only [yS,List.length_cons,zhn xs ys (by simpa using h)]
theorem zn1 {k j:Bool}{vs ws:List PV}{xs ys:List V}{y z:Addr}(rt:ybF X.K B φ H k y xs)(l:yo X.K S.cl B φ H vs xs)(rt2:ybF X.K B φ H j z ys)(l2:yo X.K S.cl B φ H ws ys)(hle:vs.length<=ws.length):Drw S X B φ H (yS vs ws) (Itz X.K y z):=by
 have hl:=l.length
 have hl2:=l2.length
 have hp:=zhn vs ws hle
 refine ⟨fun φ' H' s=>⟨xs,(rt.step s).sq,by omega⟩,fun i φ' H' s hi=>⟨xs,ys,xs[i]'(by omega),ys[i]'(by omega),(rt.step s).sq,(rt2.step s).sq,by simp [show i<xs.length by omega],by simp [show i<ys.length by omega]⟩,fun i φ' H' st x H2 B' hB s rs hi q=>?_⟩
 obtain ⟨T,hT,rfl,q⟩:=q
 obtain ⟨v,hv⟩:∃v,vs[i]?=some v:=⟨vs[i]'(by omega),by simp [show i<vs.length by omega]⟩
 obtain ⟨w,hw⟩:∃w,ws[i]?=some w:=⟨ws[i]'(by omega),by simp [show i<ws.length by omega]⟩
 obtain ⟨x',hx',rv⟩:=l.get i hv
 obtain ⟨y',hy',rw'⟩:=l2.get i hw
 have e:=q xs ys x' y' (rt.step s).sq (rt2.step s).sq hx' hy'
 subst e
 refine ⟨.tup [v,w],zhi vs ws i hv hw,.tup_new hT rs ?_,fun b o e=>by rw [zH (zO e hT)];exact e⟩
 simp only [yo]
 exact ⟨x',[y'],rfl,(rv.moreB hB).step s,y',[],rfl,(rw'.moreB hB).step s,rfl⟩
theorem zlE {es:List Expr}{kk:Nat}{tp:Pos}(hg:Gl X "zip")(hm:X.mg "zip"=none)(ha:KqE X a (tE S X ca))(hb:KqE X b (tE S X cb))(hs:starEach [a,b] X.env=[(false,eval a X.env),(false,eval b X.env)]:=by rfl)(hs2:starEach [b] X.env=[(false,eval b X.env)]:=by rfl) :
  KqI X (.Tuple es kk tp) (.Call (.Name "zip" p) [a,b] [] pos) (tI S X (.zip ca cb)):= by
 with_unfolding_all
 exact PI.imp (zna hg hm (zbC ha (zbC hb yaw hs2) (by rw [hs,hs2])) hs hs2) fun σ H R ⟨B,φ,st,ρ,rs,re,h⟩=>by
  simp only [evi] at h
  refine tE.bind rs re h fun x H1 v st1 φ1 s1 rs1 re1 rv h1=>tE.bind rs1 re1 h1 fun y H2 w st2 φ2 s2 rs2 re2 rw h2=>?_
  obtain ⟨zs,e,h2⟩:=zjW h2
  cases v with
  |tp k vs =>
   cases w with
   |tp j ws =>
    simp only [ydM] at e
    by_cases hle:vs.length<=ws.length
    ·rw [if_pos hle] at e
     cases e
     simp only [ye] at rv rw
     obtain ⟨a1,xs,rfl,rt,l⟩:=rv
     obtain ⟨a2,ys,rfl,rt2,l2⟩:=rw
     exact ⟨a1,a2,rfl,⟨xs,(rt.step s2).sq⟩,⟨ys,rt2.sq⟩,h2.ok rs2 (zn1 (rt.step s2) (l.step s2) rt2 l2 hle)⟩
    ·rw [if_neg hle] at e
     cases e
   |_=>cases e
  |_=>cases e
end
section
variable {K:PySem.W.Frag}{cl:Nat->Addr}{B:Addr->Prop}{φ:Ph}{H:Hp}{st:Store}
theorem nth {D y:Addr}(b:¬Bx B D y)(n:some y∉φ):¬B y/\some y∉φ++[some D]:=⟨fun z=>b (.inl z),fun z=>by
 rcases List.mem_append.1 z with z|z
 ·exact n z
 ·simp only [List.mem_cons,List.not_mem_nil,or_false,Option.some.injEq] at z
  exact b (.inr z)⟩
mutual
theorem ye.thaw {D:Addr}:∀(v:PV) (x:V),ye K cl (Bx B D) φ H v x->ye K cl B (φ++[some D]) H v x
 | .non,x,h=>by simp only [ye] at h ⊢;exact h
 | .bl b,x,h=>by simp only [ye] at h ⊢;exact h
 | .int i,x,h=>by simp only [ye] at h ⊢;exact h
 | .str y,x,h=>by simp only [ye] at h ⊢;exact h
 | .tp k vs,x,h=>by
  simp only [ye] at h ⊢
  obtain ⟨y,xs,e,r,l⟩:=h
  refine ⟨y,xs,e,?_,yo.thaw vs xs l⟩
  rcases r with ⟨r,b,n⟩|r
  ·exact .inl ⟨r,nth b n⟩
  ·exact .inr r
 | .lst vs,x,h=>by
  simp only [ye] at h ⊢
  obtain ⟨y,xs,e,⟨r,b,n⟩,l⟩:=h
  exact ⟨y,xs,e,⟨r,nth b n⟩,yo.thaw vs xs l⟩
 | .loc n,x,h=>by
  simp only [ye] at h ⊢
  obtain ⟨hn,y,e,q⟩:=h
  exact ⟨by simp;omega,y,e,fun b z=>q b (by rw [List.getElem?_append_left hn] at z;exact z)⟩
 | .exn c,x,h=>by
  simp only [ye] at h ⊢
  obtain ⟨y,e,r,b,n⟩:=h
  exact ⟨y,e,r,nth b n⟩
 | .scr vs,x,h=>by
  simp only [ye] at h ⊢
  obtain ⟨y,xs,e,r,l⟩:=h
  refine ⟨y,xs,e,?_,yo.thaw vs xs l⟩
  rcases r with ⟨r,b,n⟩|r
  ·exact .inl ⟨r,nth b n⟩
  ·exact .inr r
theorem yo.thaw {D:Addr}:∀(v:List PV) (x:List V),yo K cl (Bx B D) φ H v x->yo K cl B (φ++[some D]) H v x
 | [],x,h=>by simp only [yo] at h ⊢;exact h
 |v::vs,x,h=>by
  simp only [yo] at h ⊢
  obtain ⟨y,ys,e,r,l⟩:=h
  exact ⟨y,ys,e,ye.thaw v y r,yo.thaw vs ys l⟩
end
theorem DK.thaw {D:Addr}:∀{kvs:List (PV×PV)} {ks:List (Key×V)},DK K cl (Bx B D) φ H kvs ks->DK K cl B (φ++[some D]) H kvs ks
 | [],ks,h=>h
 | (k,v)::r,ks,h=>by
  obtain ⟨q,x,t,e,m,rv,l⟩:=h
  exact ⟨q,x,t,e,m,rv.thaw,DK.thaw l⟩
theorem DT.thaw {D:Addr}:∀{kvs:List (PV×PV)} {ks:List (List Key×V)},DT K cl (Bx B D) φ H kvs ks->DT K cl B (φ++[some D]) H kvs ks
 | [],ks,h=>h
 | (k,v)::r,ks,h=>by
  obtain ⟨q,x,t,e,m,rv,l⟩:=h
  exact ⟨q,x,t,e,m,rv.thaw,DT.thaw l⟩
theorem FS.thaw {D:Addr}:∀{kvs:List (Str×PV)} {ks:List (Str×V)},FS K cl (Bx B D) φ H kvs ks->FS K cl B (φ++[some D]) H kvs ks
 | [],ks,h=>h
 | (k,v)::r,ks,h=>by
  obtain ⟨x,t,e,rv,l⟩:=h
  exact ⟨x,t,e,rv.thaw,FS.thaw l⟩
theorem yw.thaw {D:Addr}{zs:List PV}{ys:List V}(rs:yw K cl (Bx B D) φ H st)(nB:¬B D)(hD:H D=some (.lst ys))(nD:some D∉φ)(l:yo K cl (Bx B D) φ H zs ys):yw K cl B (φ++[some D]) H (st++[.lst zs]):=by
 have hl:φ.length=st.length:=rs.len
 have spl:∀{n:Nat} {a:Addr},(φ++[some D])[n]?=some (some a)->(n<φ.length/\φ[n]?=some (some a)) \/ (n=φ.length/\a=D):=fun {n a} e=>by
  by_cases hn:n<φ.length
  ·rw [List.getElem?_append_left hn] at e;exact .inl ⟨hn,e⟩
  ·rw [List.getElem?_append_right (by omega)] at e
   rcases (by omega:n - φ.length=0 \/ 0<n - φ.length) with q|q
   ·rw [q] at e
    simp at e
    exact .inr ⟨by omega,e.symm⟩
   ·rw [List.getElem?_eq_none (by simp;omega)] at e;cases e
 have ne:∀{n:Nat} {a:Addr},φ[n]?=some (some a)->a≠D:=fun e z=>nD (z ▸ List.mem_of_getElem? e)
 refine ⟨by simp [hl],fun m n a e1 e2=>?_,fun n a e=>?_,fun n o e ho=>?_,fun a h=>?_,fun a h=>rs.dom a (.inl h)⟩
 ·rcases spl e1 with ⟨h1,e1⟩|⟨h1,q1⟩ <;> rcases spl e2 with ⟨h2,e2⟩|⟨h2,q2⟩
  ·exact rs.inj m n a e1 e2
  ·exact absurd q2 (ne e1)
  ·exact absurd q1 (ne e2)
  ·omega
 ·rcases spl e with ⟨h1,e1⟩|⟨h1,q1⟩
  ·obtain ⟨o,q,r⟩:=rs.obj n a e1
   refine ⟨o,by rw [List.getElem?_append_left (by omega)];exact q,?_⟩
   cases o with
   |lst vs=>obtain ⟨xs,hx,l⟩:=r;exact ⟨xs,hx,l.thaw⟩
   |dct t kvs=>cases t <;> (obtain ⟨xs,hx,l⟩:=r;exact ⟨xs,hx,l.thaw⟩)
   |ins c fs=>obtain ⟨ks,hx,l⟩:=r;exact ⟨ks,hx,l.thaw⟩
   |dead=>exact r.elim
  ·subst q1
   exact ⟨.lst zs,by rw [h1,hl,List.getElem?_append_right (Nat.le_refl _)];simp,ys,hD,l.thaw⟩
 ·by_cases hn:n<st.length
  ·rw [List.getElem?_append_left hn] at e
   obtain ⟨a,q⟩:=rs.liv n o e ho
   exact ⟨a,by rw [List.getElem?_append_left (by omega)];exact q⟩
  ·have hn2:n=st.length:=by
    rcases (by omega:n=st.length \/ st.length<n) with q|q
    ·exact q
    ·rw [List.getElem?_eq_none (by simp;omega)] at e;cases e
   exact ⟨D,by rw [hn2,<- hl,List.getElem?_append_right (Nat.le_refl _)];simp⟩
 ·rcases List.mem_append.1 h with h|h
  ·exact fun z=>rs.nb a h (.inl z)
  ·simp only [List.mem_cons,List.not_mem_nil,or_false,Option.some.injEq] at h
   subst h
   exact nB
end
section
variable {S:Se}{X:Cx}{K:PySem.W.Frag}{cl:Nat->Addr}{σ:St}{B:Addr->Prop}{φ φ1:Ph}{H H1:Hp}{st:Store}{ρ:IC.Env}{pos p p2 px:Pos}{a b c o tg l elt iter:Expr}{ca cb cc ce:Ce}{ci:Cit}{ct:Tg}
theorem zjI {sl:List (Option Nat)}(hf:yam ct sl=true){H:Hp}{Q:VK}(h:tE S X (.thw (.comp sl ct ci cc ce)) σ H Q):ych sl (tI S X ci) (tG0 S X.K ct) (tT0 S X.K cc) (tE0 S X.K ce) σ H Q:=by
  obtain ⟨B,φ,st,ρ,rs,re,h⟩:=h
  simp only [ev,R.bind_assoc] at h
  refine ⟨B,φ,st,ρ,rs,re,(Run.bind h).mono fun J H1 ⟨xs,st1,φ1,s1,rs1,dr,h1⟩=>fun D hD=>?_⟩
  generalize hone:(fun (x:PV) (st2:Store)=>match yL ct x (sl.map fun o=>o.bind fun j=>(ρ[j]?).join) with
   |none=>(R.bad:R (Option PV))
   |some ρ1=>(ev S.call ρ1 st2 cc).bind fun b st3=>onO (truV st3 b) fun k=>cond k ((ev S.call ρ1 st3 ce).bind fun y st4=>.ok (some y) st4) (.ok none st3))=one at h1
  cases e:yas one xs st1 with
  |exc k s=>rw [e] at h1;simp only [ybR,R.bind] at h1;exact h1.elim
  |bad=>rw [e] at h1;simp only [ybR,R.bind] at h1;exact h1.elim
  |ok zs st5 =>
   rw [e] at h1
   simp only [ybR] at h1
   by_cases hz:zs.length<=1000000
   case neg=>rw [if_neg hz] at h1;simp only [R.bind] at h1;exact h1.elim
   rw [if_pos hz] at h1
   simp only [R.bind,ydA] at h1
   have nB:¬B D:=rs1.nB hD
   have nD:some D∉φ1:=fun z=>by
    obtain ⟨w,e⟩:=rs1.there z
    rw [hD] at e;cases e
   refine ⟨fun i m σc ys H2=>∃φ2 st2 vs rest,i+m=xs.length/\Step φ1 H1 φ2 H2/\H2 D=some (.lst ys)/\some D∉φ2/\yw X.K S.cl (Bx B D) φ2 H2 st2/\yF X.K S.cl (Bx B D) φ2 H2 (sl.map fun o=>o.bind fun j=>(ρ[j]?).join) σc /\
     yo X.K S.cl (Bx B D) φ2 H2 vs ys/\yas one (xs.drop i) st2=.ok rest st5/\vs++rest=zs,
    ⟨xs.length,φ1,st1,[],zs,by omega,.upd hD,zU,nD,rs1.more hD,(yF.inn (re.step s1)).more hD,by simp only [yo],by simpa using e,rfl⟩,?_⟩
   rintro i m σc ys H2 ⟨φ2,st2,vs,rest,hm,s2,hD2,nD2,rs2,re2,l2,ec,ez⟩
   refine ⟨hD2,?_⟩
   by_cases hi:i<xs.length
   ·have hl2:=l2.length
    have hml:=ybD
    have hzl:=congrArg List.length ez
    rw [List.length_append] at hzl
    refine .inr ⟨dr.go i φ2 H2 s2 hi,by omega,fun σ' ys' H'=>∃φ2 st2 vs rest,Step φ1 H1 φ2 H'/\H' D=some (.lst ys')/\some D∉φ2/\yw X.K S.cl (Bx B D) φ2 H' st2/\yF X.K S.cl (Bx B D) φ2 H' (sl.map fun o=>o.bind fun j=>(ρ[j]?).join) σ' /\
     yo X.K S.cl (Bx B D) φ2 H' vs ys'/\yas one (xs.drop (i+1)) st2=.ok rest st5/\vs++rest=zs,fun σ' ys' H' ⟨φ2,st2,vs,rest,q⟩=>⟨m - 1,by omega,φ2,st2,vs,rest,by omega,q⟩,fun x H3 hy=>?_⟩
    obtain ⟨v,hv,rv,kk⟩:=dr.yld i φ2 H2 st2 x H3 (Bx B D) (fun y z=>z.elim .inl fun q=>.inr (q ▸ hD)) s2 rs2 hi hy
    have s3:Step φ2 H2 φ2 H3:=⟨fun b o _ e=>kk b o e,Nat.le_refl _,fun _ _ _ e=>e,fun _ h=>.inl h⟩
    have rs3:yw X.K S.cl (Bx B D) φ2 H3 st2:=rs2.same kk
    have ed:xs.drop i=v::xs.drop (i+1):=by
     rw [List.drop_eq_getElem_cons hi]
     rw [List.getElem?_eq_getElem hi] at hv
     rw [Option.some.inj hv]
    rw [ed,yas] at ec
    obtain ⟨o,st3,e1,ec⟩:=zdj ec
    obtain ⟨rest',st4,e2,ec⟩:=zdj ec
    rw [<- hone] at e1
    dsimp only at e1
    cases eb:yL ct v (sl.map fun o=>o.bind fun j=>(ρ[j]?).join) with
    |none=>rw [eb] at e1;cases e1
    |some ρ1 =>
     rw [eb] at e1
     dsimp only at e1
     obtain ⟨bv,st6,e3,e1⟩:=zdj e1
     obtain ⟨k,e4,e1⟩:=zmV e1
     have er:st4=st5/\ybP o rest'=rest:=by
      injection ec with q1 q2
      exact ⟨q2,q1⟩
     obtain ⟨rfl,rfl⟩:=er
     refine ⟨Bx B D,φ2,st2,_,v,ρ1,rs3,re2.step s3,rv,eb,fun σ4 re4=>⟨Bx B D,φ2,st2,ρ1,rs3,re4,?_⟩⟩
     have et:yaR (ev S.call ρ1 st2 cc)=.ok k st6:=by
      rw [e3]
      simp only [yaR,R.bind,e4,onO]
     rw [et]
     rintro k' H5 φ5 s5 rs5 rfl
     have nD5:some D∉φ5:=fun z=>by
      rcases s5.new D z with q|q
      ·exact nD2 q
      ·rw [kk D _ hD2] at q;cases q
     have hD5:H5 D=some (.lst ys):=s5.keep D _ nD2 (kk D _ hD2)
     have s25:Step φ1 H1 φ5 H5:=s2.trans (s3.trans s5)
     have l5:=(l2.step s3).step s5
     have re5:yF X.K S.cl (Bx B D) φ5 H5 ρ1 σ4:=re4.step s5
     have h0:∀(i:Nat),sl[i]?=some none->(sl.map fun o=>o.bind fun j=>(ρ[j]?).join)[i]?=some none:=fun i q=>by
      rw [List.getElem?_map,q];rfl
     cases k with
     |false =>
      simp only [cond_false] at e1
      cases e1
      exact ⟨φ5,_,vs,rest',s25,hD5,nD5,rs5,yF.untgt hf h0 eb re5,l5,e2,ez⟩
     |true =>
      simp only [cond_true] at e1
      obtain ⟨y,st7,e5,e1⟩:=zdj e1
      cases e1
      refine ⟨Bx B D,φ5,st6,ρ1,rs5,re5,?_⟩
      rw [e5]
      intro y' H6 φ6 s6 rs6 ry
      have nD6:some D∉φ6:=fun z=>by
       rcases s6.new D z with q|q
       ·exact nD5 q
       ·rw [hD5] at q;cases q
      have hD6:H6 D=some (.lst ys):=s6.keep D _ nD5 hD5
      have hBD:Bx B D D:=.inr rfl
      refine ⟨hD6,φ6,_,vs++[y],rest',?_,zU,nD6,rs6.skip hBD,(yF.untgt hf h0 eb (re5.step s6)).skip hBD,((l5.step s6).append (by simp only [yo];exact ⟨y',[],rfl,ry,rfl⟩)).skip hBD,e2,?_⟩
      ·have s16:=s25.trans s6
       exact ⟨fun b o n q=>by rw [zH (zO q hD)];exact s16.keep b o n q,s16.len,s16.pre,s16.new⟩
      ·simpa [ybP] using ez
   ·have ei:i=xs.length:=by omega
    subst ei
    rw [List.drop_length,yas] at ec
    cases ec
    have s3:Step φ1 H1 (φ2++[some D]) H2:=⟨fun b o n q=>s2.keep b o n q,Nat.le_trans s2.len (by simp),fun n b h e=>by rw [List.getElem?_append_left (Nat.lt_of_lt_of_le h s2.len)] at e;exact s2.pre n b h e,fun b h=>by
     rcases List.mem_append.1 h with h|h
     ·exact s2.new b h
     ·simp only [List.mem_cons,List.not_mem_nil,or_false,Option.some.injEq] at h
      subst h
      exact .inr hD⟩
    refine .inl ⟨dr.stop φ2 H2 s2,h1 (.ref D) H2 (φ2++[some D]) s3 (yw.thaw rs2 nB hD2 nD2 (by rw [<- ez,List.append_nil];exact l2)) ?_⟩
    simp only [ye]
    refine ⟨by simp [rs2.len],D,rfl,fun b e=>?_⟩
    rw [<- rs2.len,List.getElem?_append_right (Nat.le_refl _)] at e
    simpa using e.symm
theorem zjw {sc:Scope}{NC:List Str}{sl:List (Option Nat)}{ifs:List Expr}{i:Nat}{x:Str}{spos:Pos}(hN:X.N.Nodup)(hix:X.N[i]?=some x)(hx:Loc X.env.scope x)(hc:X.calm=true)(O:yZ X sc NC sl)(hf:yam ct sl=true)(hi:KqI X tg iter (tI S X ci))(hg:∀j,KqG (cxC X sc NC j) tg (tG0 S X.K ct))
  (ht:∀j,ydK (cxC X sc NC j) ifs (tT0 S X.K cc)) (he:∀j,KqE (cxC X sc NC j) elt (tE0 S X.K ce))
  (hsw:swapsWith (.ListComp elt [⟨tg,iter,ifs,0⟩] sc pos) (some (.Name x px)) spos.line X.env=pure true:=by rfl) (hs:∀x,foldedSetIterable iter X.env x=pure x:=by intro _;rfl)
  (hfn:X.fn x=true \/ X.env.scope.names.lookup x=some .local:=by first|exact .inl rfl|exact .inr rfl|assumption):KqS X (.Assign [.Name x px] (.ListComp elt [⟨tg,iter,ifs,0⟩] sc pos) spos) (tS S X (.asg (.n i) (.thw (.comp sl ct ci cc ce)))):= by
 with_unfolding_all
 exact PS.imp (zlp hN hix hx hc O hi hg ht he hsw hs hfn) fun D σ H ⟨B,φ,st,ρ,rs,re,h⟩=>by
  refine zjI hf ?_
  simp only [ex] at h
  exact tE.fl rs re h fun x H1 v st1 φ1 s rs1 re1 rv h1=>h1 _ H1 φ1 .rfl rs1 (re1.set i rv)
end
section
variable {K:PySem.W.Frag}{cl:Nat->Addr}{B:Addr->Prop}{φ:Ph}{H:Hp}{st:Store}
theorem FS.lookup {f:Str}:∀{fs:List (Str×PV)} {ks:List (Str×V)},FS K cl B φ H fs ks->(∀v,fs.lookup f=some v->∃x,ks.lookup f=some x/\ye K cl B φ H v x)/\(fs.lookup f=none->ks.lookup f=none)
 | [],ks,h=>by
  cases (show ks=[] from h)
  exact ⟨nofun,fun _=>rfl⟩
 | (k,v)::r,ks,h=>by
  obtain ⟨x,s,rfl,rv,l⟩:=h
  obtain ⟨q1,q2⟩:=FS.lookup (f:=f) l
  simp only [List.lookup]
  cases e:f == k with
  |true=>exact ⟨fun w z=>by cases z;exact ⟨x,rfl,rv⟩,fun z=>by cases z⟩
  |false=>exact ⟨q1,q2⟩
theorem FS.put {f:Str}{v:PV}{x:V}(r:ye K cl B φ H v x):∀{fs:List (Str×PV)} {ks:List (Str×V)},FS K cl B φ H fs ks->FS K cl B φ H (ycb f v fs) (ya2 f x ks)
 | [],ks,h=>by
  cases (show ks=[] from h)
  exact ⟨x,[],rfl,r,rfl⟩
 | (k,w)::q,ks,h=>by
  obtain ⟨y,s,rfl,ry,l⟩:=h
  simp only [ycb,ya2]
  by_cases c:k=f
  ·rw [if_pos c,if_pos c];exact ⟨x,s,rfl,r,l⟩
  ·rw [if_neg c,if_neg c];exact ⟨y,_,rfl,ry,FS.put r l⟩
theorem FS.len:∀{fs:List (Str×PV)} {ks:List (Str×V)},FS K cl B φ H fs ks->fs.length=ks.length
 | [],ks,h=>by cases (show ks=[] from h);rfl
 | (k,w)::q,ks,h=>by
  obtain ⟨y,s,rfl,ry,l⟩:=h
  simp [FS.len l]
theorem yw.ins {n c:Nat}{fs:List (Str×PV)}{x:V}(rs:yw K cl B φ H st)(r:ye K cl B φ H (.loc n) x)(h:st[n]?=some (.ins c fs)):∃y ks dx,x=.ref y/\φ[n]?=some (some y)/\H y=some (.ins (cl c) dx ks)/\FS K cl B φ H fs ks:=by
 simp only [ye] at r
 obtain ⟨hn,y,rfl,hy⟩:=r
 obtain ⟨a,ha⟩:=rs.liv n _ h (by intro z;cases z)
 obtain ⟨o,ho,ro⟩:=rs.obj n a ha
 have e:=hy a ha
 subst e
 rw [h] at ho
 cases ho
 obtain ⟨ks,⟨dx,q⟩,l⟩:=ro
 exact ⟨a,ks,dx,rfl,ha,q,l⟩
end
theorem ye.inj_non {K:PySem.W.Frag}{cl:Nat->Addr}{B:Addr->Prop}{φ:Ph}{H:Hp}{v:PV}(h:ye K cl B φ H v .non):v=.non:=by
 cases v with
 |non=>rfl
 |bl b=>simp [ye] at h
 |int b=>simp [ye] at h
 |str b=>simp [ye] at h
 |tp k b=>simp only [ye] at h;obtain ⟨_,_,e,_⟩:=h;cases e
 |lst b=>simp only [ye] at h;obtain ⟨_,_,e,_⟩:=h;cases e
 |loc b=>simp only [ye] at h;obtain ⟨_,_,e,_⟩:=h;cases e
 |exn b=>simp only [ye] at h;obtain ⟨_,e,_⟩:=h;cases e
 |scr b=>simp only [ye] at h;obtain ⟨_,_,e,_⟩:=h;cases e
section
variable {S:Se}{X:Cx}{σ:St}{B:Addr->Prop}{φ φ1:Ph}{H H1:Hp}{st:Store}{ρ:IC.Env}{p pos pos' p2 apos:Pos}{a b d o e:Expr}{ca cb cc:Ce}{es:List Expr}{ces:Ces}{c i k:Nat}{f m x:Str}{fa:Addr}{fd:FuncData}{ps:List Str}
theorem zmF {st:Store}{x v:PV}(h:ycg c st x f=some v):∃n fs,x=.loc n/\st[n]?=some (.ins c fs)/\fs.lookup f=some v:=by
 cases x with
 |loc n =>
  simp only [ycg] at h
  split at h
  ·rename_i dd fs e
   split at h
   ·rename_i q
    subst q
    exact ⟨n,fs,rfl,e,h⟩
   ·cases h
  ·cases h
 |_=>cases h
theorem zlD {st st4:Store}{x v:PV}(h:ybx c st x f v=some st4):∃n fs,x=.loc n/\st[n]?=some (.ins c fs)/\fs.length<1000/\st4=st.set n (.ins c (ycb f v fs)):=by
 cases x with
 |loc n =>
  simp only [ybx] at h
  split at h
  ·rename_i dd fs e
   split at h
   ·rename_i q
    obtain ⟨q,q2⟩:=q
    subst q
    cases h
    exact ⟨n,fs,rfl,e,q2,rfl⟩
   ·cases h
  ·cases h
 |_=>cases h
theorem zml {st:Store}{x:PV}{t:Bool}(h:ycF c m st x=some t):∃n fs,x=.loc n/\st[n]?=some (.ins c fs)/\fs.lookup m=none:=by
 cases x with
 |loc n =>
  simp only [ycF] at h
  split at h
  ·rename_i dd fs e
   split at h
   ·rename_i q
    obtain ⟨q,q2⟩:=q
    subst q
    exact ⟨n,fs,rfl,e,q2⟩
   ·cases h
  ·cases h
 |_=>cases h
theorem zes (hc:Cls X.K (S.cl c))(hn:yal X.K (S.cl c) f)(ha:KqE X a (tE S X ca))(hb:attributeBase a f X.env (eval a X.env)=eval a X.env:=by rfl):KqE X (.Attribute a f pos) (tE S X (.fld c ca f)):= by
 with_unfolding_all
 exact PE.imp (zpg ha hb) fun σ H Q ⟨B,φ,st,ρ,rs,re,h⟩=>by
  simp only [ev] at h
  refine tE.bind rs re h fun x H1 v st1 φ1 s1 rs1 re1 rv h1=>?_
  obtain ⟨z,e,q⟩:=zbp h1 rs1
  obtain ⟨n,fs,rfl,hn',l⟩:=zmF e
  obtain ⟨y,ks,dx,rfl,_,hy,lr⟩:=rs1.ins rv hn'
  obtain ⟨x,hx,rx⟩:=lr.lookup.1 z l
  exact ⟨y,S.cl c,dx,ks,x,rfl,hy,hc,hn,hx,q x H1 φ1 .rfl rs1 rx⟩
theorem zfk (hc:Cls X.K (S.cl c))(hn:yal X.K (S.cl c) f)(ha:KqE X a (tE S X ca))(hv:KqE X b (tE S X cb))(hs:swapsWith b (some (.Attribute a f pos')) pos.line X.env=pure false:=by rfl):KqS X (.Assign [.Attribute a f pos'] b pos) (tS S X (.sfl c ca f cb)):= by
 with_unfolding_all
 exact PS.imp (zoz ha hv hs) fun D σ H ⟨B,φ,st,ρ,rs,re,h⟩=>by
  simp only [ex] at h
  refine tE.fl rs re h fun v' H1 v st1 φ1 s1 rs1 re1 rv h1=>tE.fl rs1 re1 h1 fun x' H2 x st2 φ2 s2 rs2 re2 rx h2=>?_
  cases e:ybx c st2 x f v with
  |none=>rw [e] at h2;exact h2.elim
  |some st4 =>
   rw [e] at h2
   obtain ⟨n,fs,rfl,hn',hl,rfl⟩:=zlD e
   obtain ⟨y,ks,dx,rfl,hp,hy,lr⟩:=rs2.ins rx hn'
   refine ⟨y,S.cl c,dx,ks,rfl,hy,hc,hn,by rw [<- lr.len];exact hl,?_⟩
   have s4:Step φ2 H2 φ2 (L2.upd H2 y (.ins (S.cl c) dx (ya2 f v' ks))):=.put (List.mem_of_getElem? hp)
   exact h2 σ _ φ2 s4 (rs2.put (o:=.ins c (ycb f v fs)) hp ⟨_,⟨dx,zU⟩,(FS.put (rv.step s2) lr).step s4⟩) (re2.step s4)
theorem noX:ybB (CX1 X.prog X.w) X (fun _ _ _=>False):=fun pins σ H s e s' _ z=>by
 obtain ⟨_,_,_,_,_,_,_,_,_,_,_,_,_,_,z⟩:=z
 exact z.elim
theorem zkS {vs:List PV}{xs:List V}{Q:VK}{rs:yw X.K S.cl B φ H st}(l:yo X.K S.cl B φ H vs xs)(h:Run S X σ B φ H (RV S X B) ((ybI (S.call i (.loc st.length::vs) (st++[.ins c []]))).bind fun v st2=>newV st.length v st2) Q) :
  ∀x dx,H x=none->H dx=none->dx≠x->spI X.K S.cl S.call i (.ref x::xs) (L2.upd (L2.upd H dx (.own x)) x (.ins (S.cl c) dx [])) (fun v H2=>v=.non/\Q (.ref x) H2) (fun _ _ _=>False):=by
 intro x dx hx hdx ne
 have hx':L2.upd H dx (.own x) x=none:=by rw [zH (Ne.symm ne)];exact hx
 have t1:Step φ H φ (L2.upd H dx (.own x)):=.upd hdx
 have rs1:=rs.upd (o:=.own x) hdx
 have t2:Step φ (L2.upd H dx (.own x)) (φ++[some x]) (L2.upd (L2.upd H dx (.own x)) x (.ins (S.cl c) dx [])):=.push hx'
 have rs2:=rs1.push hx' (rs1.nB hx') (o:=.ins c []) ⟨[],⟨dx,zU⟩,rfl⟩
 have ll:ye X.K S.cl B (φ++[some x]) (L2.upd (L2.upd H dx (.own x)) x (.ins (S.cl c) dx [])) (.loc st.length) (.ref x):=.loc_new rs1
 refine ⟨B,φ++[some x],st++[.ins c []],.loc st.length::vs,rs2,?_,?_⟩
 ·simp only [yo]
  exact ⟨.ref x,xs,rfl,ll,(l.step t1).step t2⟩
 ·cases e:S.call i (.loc st.length::vs) (st++[.ins c []]) with
  |ok v st' =>
   rw [e] at h
   simp only [ybI,R.bind] at h
   cases v with
   |non =>
    intro z H' φ' s rs' rz
    simp only [ye] at rz
    exact ⟨rz,h (.ref x) H' φ' ((t1.trans t2).trans s) rs' (ll.step s)⟩
   |_=>exact h.elim
  |exc k s=>rw [e] at h;exact h.elim
  |bad=>rw [e] at h;exact h.elim
theorem zl0 (M:Mk X.K (S.cl c) fa)(F:yaE X.prog X.w X.K X.mg X.base (CX1 X.prog X.w) k fa fd ps (spI X.K S.cl S.call i))(hr:yaj (k+1) X.A)(hg:Gl X x)(hm:X.mg x=some (.ref (S.cl c)))(hb:Binds X.K fd ps [])
  (ha:KqA X (e::es) (tAs S X ces)) (hdb:(x == ("__debug__":Str))=false:=by decide) (he:starEach (e::es) X.env=(false,eval e X.env)::starEach es X.env:=by rfl) (hpl:(backTo pos (starEach es X.env)).any (·.1)=false:=by rfl) :
  KqE X (.Call (.Name x p) (e::es) [] pos) (tE S X (.new c i ces)):= by
 with_unfolding_all
 exact PE.imp (znH M F hr hg hm hb .nil noX ha hdb he hpl) fun σ H Q ⟨B,φ,st,ρ,rs,re,h⟩=>by
  simp only [ev] at h
  refine tAs.bind rs re h fun xs H1 vs st1 φ1 s1 rs1 re1 rv h1=>?_
  rw [List.append_nil]
  exact zkS (rs:=rs1) rv h1
noncomputable def yb2 (CX:CXT)(X:Cx)(C:Addr)(m:Str)(sp:Sp)(ta:TE)(t:TA):TE:=fun σ H Q=>ta σ H fun x H1=>∃y dx fs,x=.ref y/\H1 y=some (.ins C dx fs)/\fs.lookup m=none/\t σ H1 fun vs H2=>∃E:XK,sp (.ref y::vs) H2 Q E/\∀pins s e s',Inv X pins σ H2 s->CX X.stack H2 s E e s'->X.xe e s'
theorem zl4 {CX:CXT}{sp:Sp}{C:Addr}{ta:TE}{t:TA}{pl:Sem Bool}(he:PE X o ta)(c:Cls X.K C)(hm:Meth X.K C m fa)(F:yaE X.prog X.w X.K X.mg X.base CX k fa fd ps sp)(hr:yaj k X.A)(hb:Binds X.K fd ps [])(ha:PA X (e::es) t)
  (hst:starEach (e::es) X.env=(false,eval e X.env)::starEach es X.env:=by rfl) (hpl:(backTo pos (starEach es X.env)).any (·.1)=false:=by rfl)
  (ht:eval (.Call (.Attribute o m apos) (e::es) [] pos) X.env=(do
   let ov <- eval o X.env
   standAt apos.atName
   let (f,first) <- holding [ov] (getMethod ov m pl)
   callWith pos f first (backTo pos (starEach (e::es) X.env)) (backToKw pos (keywordEach [] X.env))):=by rfl) :
  PE X (.Call (.Attribute o m apos) (e::es) [] pos) (yb2 CX X C m sp ta t):=by
 intro pins s σ H Q I h
 refine PySem.W.methodCall_KW (pl:=pl) (thn (he pins s σ H _ I h) fun u s1 ⟨x,H1,I1,rx,y,dx,fs,ex,ea,l,q⟩=>?_) ht
 subst ex
 obtain rfl:u=Value.ref y:=rx
 refine zgu I1 ea c hm l ?_
 refine PySem.W.callWith_K (first:=[.ref y]) (h₀:=X.base) I.ok.mod.kin hm.kp (thn (ha pos pins s1 σ H1 _ I1 q) fun us s2 ⟨vs,H2,I2,r,E,q2,hx⟩=>⟨I2.kIn,?_⟩) hst hpl
 exact ziu (us:=.ref y::us) (vs:=.ref y::vs) F hr hb .nil I2 (.cons rfl r) (by rw [List.append_nil];exact q2) fun e s' z=>hx pins s2 e s' I2 z
theorem zkD {CX:CXT}{sp:Sp}{C:Addr}{ta:TE}{pl:Sem Bool}(he:PE X o ta)(c:Cls X.K C)(hm:Meth X.K C m fa)(F:yaE X.prog X.w X.K X.mg X.base CX k fa fd ps sp)(hr:yaj k X.A)(hb:Binds X.K fd ps [])
  (ht:eval (.Call (.Attribute o m apos) [] [] pos) X.env=(do
   let ov <- eval o X.env
   standAt apos.atName
   let (f,first) <- holding [ov] (getMethod ov m pl)
   callWith pos f first (backTo pos (starEach [] X.env)) (backToKw pos (keywordEach [] X.env))):=by rfl) :
  PE X (.Call (.Attribute o m apos) [] [] pos) (yb2 CX X C m sp ta yd1):=by
 intro pins s σ H Q I h
 refine PySem.W.methodCall_KW (pl:=pl) (thn (he pins s σ H _ I h) fun u s1 ⟨x,H1,I1,rx,y,dx,fs,ex,ea,l,E,q2,hx⟩=>?_) ht
 subst ex
 obtain rfl:u=Value.ref y:=rx
 refine zgu I1 ea c hm l ?_
 exact PySem.W.callWith_K0 (first:=[.ref y]) I1.kIn hm.kp (ziu (us:=[.ref y]) (vs:=[.ref y]) F hr hb .nil I1 (.cons rfl .nil) q2 fun e s' z=>hx pins s1 e s' I1 z)
theorem zhy {Q:VK}{t:TA}(hq:∀{H1:Hp} {φ1:Ph} {st1:Store} {P:List V->Hp->Prop} {kk:List PV->Store->R PV},yw X.K S.cl B φ1 H1 st1->yF X.K S.cl B φ1 H1 ρ σ->Run S X σ B φ1 H1 (RV S X B) ((evs S.call ρ st1 ces).bind kk) Q ->
   (∀xs H2 vs st2 φ2,Step φ1 H1 φ2 H2->yw X.K S.cl B φ2 H2 st2->yF X.K S.cl B φ2 H2 ρ σ->yo X.K S.cl B φ2 H2 vs xs->Run S X σ B φ2 H2 (RV S X B) (kk vs st2) Q->P xs H2)->t σ H1 P)
  (rs:yw X.K S.cl B φ H st) (re:yF X.K S.cl B φ H ρ σ) (h:Run S X σ B φ H (RV S X B) ((ev S.call ρ st ca).bind fun x st1=>onO (ycF c m st1 x) fun _=>(evs S.call ρ st1 ces).bind fun vs st2=>S.call i (x::vs) st2) Q) :
  yb2 (CX1 X.prog X.w) X (S.cl c) m (spI X.K S.cl S.call i) (tE S X ca) t σ H Q:=by
 refine tE.bind rs re h fun x H1 v st1 φ1 s1 rs1 re1 rv h1=>?_
 cases q:ycF c m st1 v with
 |none=>rw [q] at h1;exact h1.elim
 |some b =>
  rw [q] at h1
  simp only [onO] at h1
  obtain ⟨n,fs,rfl,hn,hl⟩:=zml q
  obtain ⟨y,ks,dx,rfl,_,hy,lr⟩:=rs1.ins rv hn
  refine ⟨y,dx,ks,rfl,hy,lr.lookup.2 hl,hq rs1 re1 h1 fun xs H2 vs st2 φ2 s2 rs2 re2 rl h2=>?_⟩
  exact zhH rs2 (by simp only [yo];exact ⟨.ref y,xs,rfl,rv.step s2,rl⟩) h2
theorem zbT {pl:Sem Bool}(hc:Cls X.K (S.cl c))(hm:Meth X.K (S.cl c) m fa)(F:yaE X.prog X.w X.K X.mg X.base (CX1 X.prog X.w) k fa fd ps (spI X.K S.cl S.call i))(hr:yaj k X.A)(hb:Binds X.K fd ps [])
  (ho:KqE X o (tE S X ca)) (ha:KqA X (e::es) (tAs S X ces))
  (hst:starEach (e::es) X.env=(false,eval e X.env)::starEach es X.env:=by rfl) (hpl:(backTo pos (starEach es X.env)).any (·.1)=false:=by rfl)
  (ht:eval (.Call (.Attribute o m apos) (e::es) [] pos) X.env=(do
   let ov <- eval o X.env
   standAt apos.atName
   let (f,first) <- holding [ov] (getMethod ov m pl)
   callWith pos f first (backTo pos (starEach (e::es) X.env)) (backToKw pos (keywordEach [] X.env))):=by rfl) :
  KqE X (.Call (.Attribute o m apos) (e::es) [] pos) (tE S X (.mcl c i m ca ces)):= by
 with_unfolding_all
 exact PE.imp (zl4 ho hc hm F hr hb ha hst hpl ht) fun σ H Q ⟨B,φ,st,ρ,rs,re,h⟩=>by
  simp only [ev] at h
  exact zhy (fun rs1 re1 h1 n=>tAs.bind rs1 re1 h1 n) rs re h
theorem zj1 {pl:Sem Bool}(hc:Cls X.K (S.cl c))(hm:Meth X.K (S.cl c) m fa)(F:yaE X.prog X.w X.K X.mg X.base (CX1 X.prog X.w) k fa fd ps (spI X.K S.cl S.call i))(hr:yaj k X.A)(hb:Binds X.K fd ps [])
  (ho:KqE X o (tE S X ca))
  (ht:eval (.Call (.Attribute o m apos) [] [] pos) X.env=(do
   let ov <- eval o X.env
   standAt apos.atName
   let (f,first) <- holding [ov] (getMethod ov m pl)
   callWith pos f first (backTo pos (starEach [] X.env)) (backToKw pos (keywordEach [] X.env))):=by rfl) :
  KqE X (.Call (.Attribute o m apos) [] [] pos) (tE S X (.mcl c i m ca .nil)):= by
 with_unfolding_all
 exact PE.imp (zkD ho hc hm F hr hb ht) fun σ H Q ⟨B,φ,st,ρ,rs,re,h⟩=>by
  simp only [ev] at h
  refine zhy (t:=yd1) (fun {H1 φ1 st1 P kk} rs1 re1 h1 n=>?_) rs re h
  simp only [evs,R.bind] at h1
  exact n [] H1 [] st1 φ1 .rfl rs1 re1 (by simp only [yo]) h1
theorem zhP {kk:PV}{kvs:List (PV×PV)}{v:PV}(h:look kk kvs=some v)(w:PV):(look kk kvs).getD w=v:=by rw [h];rfl
theorem ziD (hu:X.A.units+1<cLine)(ha:KqE X a (tE S X ca))(hb:KqE X b (tE S X cb))(hs:yc1 b:=by exact fun _ _=>rfl):KqE X (.Subscript a b pos) (tE S X (.dgt ca cb)):= by
 with_unfolding_all
 exact PE.imp (znK hu ha hb hs) fun σ H Q ⟨B,φ,st,ρ,rs,re,h⟩=>by
  simp only [ev] at h
  refine tE.bind rs re h fun x H1 v st1 φ1 s1 rs1 re1 rv h1=>tE.bind rs1 re1 h1 fun y H2 w st2 φ2 s2 rs2 re2 rw h2=>?_
  obtain ⟨z,e,q⟩:=zbp h2 rs2
  simp only [ycW] at e
  cases q3:yar st2 v with
  |none=>rw [q3] at e;cases e
  |some tk =>
   obtain ⟨t,kvs⟩:=tk
   rw [q3] at e
   dsimp only at e
   split at e
   ·rename_i hk
    obtain ⟨n,rfl,hn⟩:=zfx q3
    obtain ⟨y3,rfl,hy3,ro3⟩:=rs2.dct (rv.step s2) hn
    cases t with
    |false =>
     obtain ⟨kq,rfl⟩:=zhZ hk
     obtain ⟨ks,hks,l⟩:=ro3
     obtain ⟨vv,hv,rvv⟩:∃vv,yba ks kq=some vv/\ye X.K S.cl B φ2 H2 z vv:=by
      have hn:=DK.look (q:=kq) l (v:=.non) (x:=.non) (by simp only [ye])
      have hb:=DK.look (q:=kq) l (v:=.bl true) (x:=.bl true) (by simp only [ye])
      rw [zhP e] at hn hb
      cases hv:yba ks kq with
      |some vv=>rw [hv] at hn;exact ⟨vv,rfl,hn⟩
      |none =>
       rw [hv] at hn hb
       exact absurd (ye.inj_non hn) (fun ez=>by subst ez;simp [ye] at hb)
     exact ⟨y3,vv,rfl,.inl ⟨ks,kq,.inl hks,yaF.mp rw,hv.symm⟩,q vv H2 φ2 .rfl rs2 rvv⟩
    |true =>
     obtain ⟨kq,rfl⟩:=ziz hk
     obtain ⟨ks,hks,l⟩:=ro3
     obtain ⟨b',rfl,hb'⟩:=zil rw
     obtain ⟨vv,hv,rvv⟩:∃vv,yba ks kq=some vv/\ye X.K S.cl B φ2 H2 z vv:=by
      have hn:=DT.look (q:=kq) l (v:=.non) (x:=.non) (by simp only [ye])
      have hb:=DT.look (q:=kq) l (v:=.bl true) (x:=.bl true) (by simp only [ye])
      rw [zhP e] at hn hb
      cases hv:yba ks kq with
      |some vv=>rw [hv] at hn;exact ⟨vv,rfl,hn⟩
      |none =>
       rw [hv] at hn hb
       exact absurd (ye.inj_non hn) (fun ez=>by subst ez;simp [ye] at hb)
     exact ⟨y3,vv,rfl,.inr ⟨ks,kq,b',.inl hks,rfl,hb',hv.symm⟩,q vv H2 φ2 .rfl rs2 rvv⟩
   ·cases e
end
inductive ydo (w:World)(fa:Nat->Addr):List (Str×Nat)->List DictEntry->Prop
 | nil:ydo w fa [] []
 | cons {k:Str} {i:Nat} {t:Tok} {D:List (Str×Nat)} {es:List DictEntry} (h:ydo w fa D es):ydo w fa ((k,i)::D) (⟨PyData.keyHash w.params k,.str k t,.ref (fa i)⟩ :: es)
theorem ydo.pairs {P:Program}{w:World}{fa:Nat->Addr}{D:List (Str×Nat)}{es:List DictEntry}(h:ydo w fa D es) :
  ∃vs:List (Str×Value),Pairs (strKind P w) es vs/\(∀e∈es,∃k,(strKind P w).is k e.key=true/\e.hash=(strKind P w).hash k)/\vs.map (·.1)=D.map (·.1) /\
   ∀s i,D.lookup s=some i->valueAt vs s=some (.ref (fa i)):=by
 induction h with
 |nil=>exact ⟨[],.nil,fun e he=>(by cases he),rfl,fun s v e=>by cases e⟩
 | @cons k i t D es h ih =>
  obtain ⟨vs,h1,h2,h3,h5⟩:=ih
  have hat:∀s,valueAt ((k,Value.ref (fa i))::vs) s=if k=s then some (.ref (fa i)) else valueAt vs s:=fun s=>by
   unfold valueAt
   rw [List.find?_cons]
   by_cases e:k=s
   ·simp [e]
   ·simp [e]
  refine ⟨(k,.ref (fa i))::vs,.cons (strKind_is P w k t) rfl h1,fun e he=>?_,by rw [List.map_cons,List.map_cons,h3],fun s j e=>?_⟩
  ·rcases List.mem_cons.1 he with rfl|he
   ·exact ⟨k,strKind_is P w k t,rfl⟩
   ·exact h2 e he
  ·rw [hat]
   simp only [List.lookup] at e
   by_cases q:k=s
   ·subst q
    rw [beq_self_eq_true] at e
    cases e
    rw [if_pos rfl]
   ·rw [beq_eq_false_iff_ne.2 (Ne.symm q)] at e
    rw [if_neg q]
    exact h5 s j e
section
variable {S:Se}{X:Cx}{σ:St}{B:Addr->Prop}{φ:Ph}{H:Hp}{st:Store}{ρ:IC.Env}{pos p p1 p2 p3 p4 p5 p6 p7:Pos}{a b i e n:Expr}{es:List Expr}{ca cn:Ce}{ces:Ces}{x y:Str}{D:List (Str×Nat)}{ty:TE}{t:TA}{fa:Nat->Addr}{fdd:Nat->FuncData}{ps:Nat->List Str}{k ix:Nat}
end
structure FnM (K:PySem.W.Frag)(x qual:Str)(st:Stmt)(ps:List Str)(f:Addr)(fd:FuncData):Prop where
 F:Fun K x qual st f fd
 b:Binds K fd ps []
section
variable {P:Program}{w:World}{K:PySem.W.Frag}{mg:Str->Option Value}{base:Heap}{cl:Nat->Addr}{T:Nat->Option IC.Fn}{fi:Nat}{fn:IC.Fn}{x qual:Str}{stm:Stmt}{f:Addr}{fd:FuncData}{N ps:List Str}{k m:Nat}
theorem zE (hT:T fi=some fn)(F:Fun K x qual stm f fd)(Sc:yq N ps (yc stm))(hnp:ps.length=fn.np)(hns:N.length=fn.ns)
  (body:∀(cdv:Value) (A:Around) (outer:List PySem.Env) (s:Shared) (H:Hp) (E:XK),yaj m (A.deeper (envOfC qual (yc stm) s.heap.objs.size f cdv)) ->
   ybQ (yaL (CX1 P w) P w K mg base N qual (yc stm) f cdv A outer s H E) (yK stm) (tSs ⟨cl,yd T k,true⟩ (yaL (CX1 P w) P w K mg base N qual (yc stm) f cdv A outer s H E) fn.body)) :
  yaE P w K mg base (CX1 P w) (m+1) f fd ps (spI K cl (yd T (k+1)) fi):= by
 with_unfolding_all
 exact F.okX Sc (fun vs H Q E h=>zmK hT hnp h) fun cdv A outer s H vs Q E hr h=>⟨_,body cdv A outer s H E hr,znw hT hns h⟩
theorem yQ (hT:T fi=some fn)(F:Fun K x qual stm f fd)(Sc:yq N ps (yc stm))(hnp:ps.length=fn.np)(hns:N.length=fn.ns)
  (body:∀(cdv:Value) (A:Around) (outer:List PySem.Env) (s:Shared) (H:Hp) (E:XK),yaj (2*k+1) (A.deeper (envOfC qual (yc stm) s.heap.objs.size f cdv))->yaj (2*k) (A.deeper (envOfC qual (yc stm) s.heap.objs.size f cdv))->N.Nodup->(A.deeper (envOfC qual (yc stm) s.heap.objs.size f cdv)).units+1<cLine->
   ybQ (yaL (CX1 P w) P w K mg base N qual (yc stm) f cdv A outer s H E) (yK stm) (tSs ⟨cl,yd T k,true⟩ (yaL (CX1 P w) P w K mg base N qual (yc stm) f cdv A outer s H E) fn.body)) :
  yaE P w K mg base (CX1 P w) (2*k+1+1) f fd ps (spI K cl (yd T (k+1)) fi):=zE hT F Sc hnp hns fun cdv A outer s H E hr1=>body cdv A outer s H E hr1 (hr1.mono (Nat.le_succ (2*k))) Sc.nd (zaD (hr1.mono (Nat.le_succ (2*k))))
theorem zms:yaE P w K mg base (CX1 P w) m f fd ps (spI K cl (yd T 0) fi) :=
 ⟨fun vs H Q E ⟨_,_,_,_,_,_,h⟩=>by rw [yd] at h;exact h.elim,fun A outer s H args us vs Q E _ _ _ _ ⟨_,_,_,_,_,_,h⟩=>by rw [yd] at h;exact h.elim⟩
end
theorem yao.units {k:Nat}{A:Around}(r:yao k A):A.units+64<cLine:=by have:=r.un;omega
theorem yao.units1 {k:Nat}{A:Around}(r:yao k A):A.units+1<cLine:=by have:=r.un;omega
section
variable {P:Program}{w:World}{K:PySem.W.Frag}{mg:Str->Option Value}{base:Heap}{cl:Nat->Addr}{T:Nat->Option IC.Fn}{fi:Nat}{fn:IC.Fn}{x qual:Str}{stm:Stmt}{f:Addr}{fd:FuncData}{N ps:List Str}{k m:Nat}
theorem zlV (hT:T fi=some fn)(hns:N.length=fn.ns)(hpu:fn.pure=false){scope:Scope}{cdv:Value}{A:Around}{outer:List PySem.Env}{s:Shared}{vs:List V}{H:Hp}{Q:VK}(h:spI K cl (yd T (k+1)) fi vs H Q E0) :
  tSs ⟨cl,yd T k,false⟩ (ybL P w K mg base N qual scope f cdv A outer s H) fn.body { nx:=fun _ H'=>Q .non H',rt:=Q } (L2.start N vs) H:=by
 obtain ⟨B,φ,st,args,rs,l,h⟩:=h
 have hl:args.length=fn.np:=zlc (k:=k) hT args st fun z=>by rw [z] at h;exact h
 have hlen:=l.length
 rw [yd,hT] at h
 dsimp only at h
 rw [if_pos hl,hpu,if_neg (by simp)] at h
 refine ⟨B,φ,st,_,rs,yF.start l (fn.ns - fn.np) (by omega),?_⟩
 show yai _ _ _ _ _ (exs (yd T k) (args.map some++List.replicate (fn.ns - fn.np) none) st fn.body) _
 cases e:exs (yd T k) (args.map some++List.replicate (fn.ns - fn.np) none) st fn.body with
 |nx ρ' st' =>
  rw [e] at h
  intro σ' H' φ' s' rs' re'
  exact h .non H' φ' s' rs' (by simp only [ye])
 |rt v st' =>
  rw [e] at h
  intro y H' φ' s' rs' rv
  exact h y H' φ' s' rs' rv
 |exc c ρ' st' =>
  rw [e] at h
  intro σ' φ1 H1 ev s' s1 _ ex
  rcases ex with ⟨pins,H2,s2,φ2,I,s3,q⟩|⟨hm,_⟩
  ·obtain ⟨_,cls,_,H',_,_,_,_,_,_,_,_,_,_,e1,φ',s4,r⟩:=q
   exact (h H' φ' (s1.trans (s3.trans s4)) r).elim
  ·cases hm
 |bk ρ' st'=>rw [e] at h;exact h.elim
 |ct ρ' st'=>rw [e] at h;exact h.elim
 |bad=>rw [e] at h;exact h.elim
theorem zmb (hT:T fi=some fn)(F:Fun K x qual stm f fd)(Sc:yq N ps (yc stm))(hnp:ps.length=fn.np)(hns:N.length=fn.ns)(hpu:fn.pure=false)
  (body:∀(cdv:Value) (A:Around) (outer:List PySem.Env) (s:Shared) (H:Hp),yao m (A.deeper (envOfC qual (yc stm) s.heap.objs.size f cdv)) ->
   ybQ (ybL P w K mg base N qual (yc stm) f cdv A outer s H) (yK stm) (tSs ⟨cl,yd T k,false⟩ (ybL P w K mg base N qual (yc stm) f cdv A outer s H) fn.body)) :
  ybO P w K mg base (m+1) f fd ps (spI K cl (yd T (k+1)) fi):= by
 with_unfolding_all
 exact F.okH Sc (fun vs H Q E h=>zmK hT hnp h) fun cdv A outer s H vs Q hr h=>⟨_,body cdv A outer s H hr,zlV hT hns hpu h⟩
theorem zmB:ybO P w K mg base m f fd ps (spI K cl (yd T 0) fi) :=
 ⟨fun vs H Q E ⟨_,_,_,_,_,_,h⟩=>by rw [yd] at h;exact h.elim,fun A outer s H args us vs Q _ _ _ _ ⟨_,_,_,_,_,_,h⟩=>by rw [yd] at h;exact h.elim⟩
end
section
variable {S:Se}{X:Cx}{σ:St}{B:Addr->Prop}{φ:Ph}{H:Hp}{st:Store}{ρ:IC.Env}{p pos:Pos}{e:Expr}{es:List Expr}{ces:Ces}{fi k:Nat}{x:Str}{f:Addr}{fd:FuncData}{ps:List Str}
theorem zjF (F:ybO X.prog X.w X.K X.mg X.base k f fd ps (spI X.K S.cl S.call fi))(hr:yao k X.A)(hg:Gl X x)(hm:X.mg x=some (.ref f))(hk:PySem.W.keepIn X.K (.ref f)=true)(hb:Binds X.K fd ps [])
  (ha:KqA X (e::es) (tAs S X ces)) (hdb:(x == ("__debug__":Str))=false:=by decide) (he:starEach (e::es) X.env=(false,eval e X.env)::starEach es X.env:=by rfl) (hpl:(backTo pos (starEach es X.env)).any (·.1)=false:=by rfl) :
  KqE X (.Call (.Name x p) (e::es) [] pos) (tE S X (.qcl fi ces)):= by
 with_unfolding_all
 exact PE.imp (zmv F hr hg hm hk hb ha hdb he hpl) fun σ H Q ⟨B,φ,st,ρ,rs,re,h⟩=>by
  simp only [ev] at h
  refine tAs.bind rs re h fun xs H1 vs st1 φ1 s1 rs1 re1 rv h1=>?_
  refine ⟨B,φ1,st1,vs,rs1,rv,?_⟩
  cases c:S.call fi vs st1 with
  |ok v st'=>rw [c] at h1;exact h1
  |exc k st'=>rw [c] at h1;exact h1.elim
  |bad=>rw [c] at h1;exact h1.elim
end
end L2
namespace IC
open PySem
noncomputable def d_ROWS:List (Str×PV):=[(Str.ofString "set",(.tp true [(.str "cell"),(.str "figure")])),(Str.ofString "move",(.tp true [(.str "cell"),(.str "cell")])),(Str.ofString "bare",(.tp true [(.str "cell"),(.str "cell")])),(Str.ofString "sum",(.tp true [(.str "cell"),(.str "cell"),(.str "cell")])),(Str.ofString "less",(.tp true [(.str "cell"),(.str "cell"),(.str "cell")])),(Str.ofString "both",(.tp true [(.str "cell"),(.str "cell"),(.str "cell")])),(Str.ofString "any",(.tp true [(.str "cell"),(.str "cell"),(.str "cell")])),(Str.ofString "odd",(.tp true [(.str "cell"),(.str "cell"),(.str "cell")])),(Str.ofString "twice",(.tp true [(.str "cell"),(.str "cell")])),(Str.ofString "half",(.tp true [(.str "cell"),(.str "cell")])),(Str.ofString "times",(.tp true [(.str "cell"),(.str "cell"),(.str "cell"),(.str "cell")])),(Str.ofString "mark",(.tp true [(.str "figure")])),(Str.ofString "ask",(.tp true [(.str "cell")]))]
noncomputable def zeu:Fn:=⟨1,1,true,(.cons (.ret (.bin .sub (.bin .shl (.cst (.int 1)) (.var 0)) (.cst (.int 1)))) .nil)⟩
noncomputable def zaZ:Fn:=⟨3,3,true,(.cons (.ret (.and (.isi (.var 0) [.int]) (.and (.not (.isi (.var 0) [.bool])) (.chain .le .le (.var 1) (.var 0) (.var 2))))) .nil)⟩
noncomputable def zar:Fn:=⟨1,1,true,(.cons (.ret (.and (.isi (.var 0) [.str]) (.and (.cmp .eq (.blt .len (.cons (.var 0) .nil)) (.cst (.int 1))) (.chain .le .le (.cst (.str "a")) (.var 0) (.cst (.str "z")))))) .nil)⟩
noncomputable def zfj:Fn:=⟨1,1,true,(.cons (.ret (.call 4 (.cons (.var 0) (.cons (.cst (.bl false)) .nil)))) .nil)⟩
noncomputable def yE:Fn:=⟨2,4,true,(.cons (.ite (.or (.not (.call 5 (.cons (.var 0) .nil))) (.cmp .ne (.blt .len (.cons (.var 0) .nil)) (.bin .add (.blt .len (.cons (.dix d_ROWS (.idx (.var 0) (.cst (.int 0)))) .nil)) (.cst (.int 1))))) (.cons (.ret (.cst (.bl false))) .nil) .nil) (.cons (.for (.t [2,3]) (.zip (.dix d_ROWS (.idx (.var 0) (.cst (.int 0)))) (.slc (.var 0) (.cst (.int 1)) (.cst .non))) (.cons (.ite (.not (.call 6 (.cons (.var 2) (.cons (.var 3) (.cons (.var 1) .nil))))) (.cons (.ret (.cst (.bl false))) .nil) .nil) .nil)) (.cons (.ret (.or (.cmp .ne (.idx (.var 0) (.cst (.int 0))) (.cst (.str "times"))) (.cmp .ne (.idx (.var 0) (.cst (.int 1))) (.idx (.var 0) (.cst (.int 2)))))) .nil)))⟩
noncomputable def zbB:Fn:=⟨1,1,true,(.cons (.ret (.and (.isi (.var 0) [.tuple]) (.and (.cmp .gt (.blt .len (.cons (.var 0) .nil)) (.cst (.int 0))) (.and (.isi (.idx (.var 0) (.cst (.int 0))) [.str]) (.din (.idx (.var 0) (.cst (.int 0))) d_ROWS))))) .nil)⟩
noncomputable def zbM:Fn:=⟨3,3,true,(.cons (.ite (.cmp .eq (.var 0) (.cst (.str "figure"))) (.cons (.ret (.call 1 (.cons (.var 1) (.cons (.cst (.int 0)) (.cons (.cst (.int 1)) .nil))))) .nil) .nil) (.cons (.ret (.ite (.var 2) .nope (.call 7 (.cons (.var 1) .nil)))) .nil))⟩
noncomputable def zcL:Fn:=⟨1,1,true,(.cons (.ret (.and (.call 8 (.cons (.var 0) .nil)) (.call 1 (.cons (.idx (.var 0) (.cst (.int 1))) (.cons (.cst (.int 0)) (.cons (.cst (.int 99)) .nil)))))) .nil)⟩
noncomputable def zbb:Fn:=⟨1,1,true,(.cons (.ret (.and (.isi (.var 0) [.tuple]) (.and (.cmp .eq (.blt .len (.cons (.var 0) .nil)) (.cst (.int 2))) (.call 2 (.cons (.idx (.var 0) (.cst (.int 0))) .nil))))) .nil)⟩
noncomputable def za1:Fn:=⟨2,2,false,(.cons (.sfl 20 (.var 0) (Str.ofString "w") (.var 1)) (.cons (.sfl 20 (.var 0) (Str.ofString "words") (.dict0 true)) (.cons (.sfl 20 (.var 0) (Str.ofString "marked") (.cst (.int 0))) .nil)))⟩
noncomputable def zaB:Fn:=⟨4,5,false,(.cons (.asg (.n 4) (.call 17 (.cons (.var 1) (.cons (.var 2) .nil)))) (.cons (.ite (.not (.call 1 (.cons (.var 3) (.cons (.cst (.int 0)) (.cons (.call 0 (.cons (.fld 20 (.var 0) (Str.ofString "w")) .nil)) .nil))))) (.cons (.raise 3 (.fst (.cons (.cst (.str "this is no word of width ")) (.cons (.fld 20 (.var 0) (Str.ofString "w")) .nil)))) .nil) .nil) (.cons (.dput (.fld 20 (.var 0) (Str.ofString "words")) (.var 4) (.var 3)) .nil)))⟩
noncomputable def zav:Fn:=⟨3,3,false,(.cons (.ret (.mcl 20 15 (Str.ofString "held_in") (.var 0) (.cons (.call 17 (.cons (.var 1) (.cons (.var 2) .nil))) .nil))) .nil)⟩
noncomputable def zbJ:Fn:=⟨1,1,false,(.cons (.ret (.fld 20 (.var 0) (Str.ofString "marked"))) .nil)⟩
noncomputable def zbk:Fn:=⟨2,2,false,(.cons (.expr (.call 18 (.cons (.var 1) .nil))) (.cons (.expr (.mcl 20 16 (Str.ofString "go_row") (.var 0) (.cons (.var 1) .nil))) .nil))⟩
noncomputable def yC:Fn:=⟨2,3,false,(.cons (.for (.n 2) (.seq (.var 1)) (.cons (.expr (.call 18 (.cons (.var 2) .nil))) .nil)) (.cons .nope .nil))⟩
noncomputable def zaw:Fn:=⟨2,2,false,(.cons (.ret (.mth .get (.fld 20 (.var 0) (Str.ofString "words")) (.cons (.var 1) (.cons (.cst (.int 0)) .nil)))) .nil)⟩
noncomputable def zbf:Fn:=⟨2,2,false,(.cons (.ite (.cmp .eq (.idx (.var 1) (.cst (.int 0))) (.cst (.str "mark"))) (.cons (.sfl 20 (.var 0) (Str.ofString "marked") (.idx (.var 1) (.cst (.int 1)))) .nil) (.cons .nope .nil)) .nil)⟩
noncomputable def zbi:Fn:=⟨2,2,true,(.cons (.ite (.not (.call 7 (.cons (.tup (.cons (.var 0) (.cons (.var 1) .nil))) .nil))) (.cons (.raise 2 (.cst (.str "this is no cell"))) .nil) .nil) (.cons (.ret (.tup (.cons (.var 0) (.cons (.var 1) .nil)))) .nil))⟩
noncomputable def zbm:Fn:=⟨1,1,true,(.cons (.ite (.not (.call 3 (.cons (.var 0) .nil))) (.cons (.raise 4 (.cst (.str "this is no row"))) .nil) .nil) .nil)⟩
noncomputable def zfo:Fn:=⟨1,1,false,(.cons (.ret (.newl (.cons (.slc (.var 0) (.cst .non) (.cst (.int 63))) (.cons (.cst (.int 0)) (.cons (.cst (.int 0)) (.cons (.cst (.bl false)) .nil)))))) .nil)⟩
noncomputable def yan:Fn:=⟨1,8,true,(.cons (.asg (.n 1) (.tup (.cons (.cst (.int 2147483647)) (.cons (.cst (.int 2147483629)) (.cons (.cst (.int 2147483587)) (.cons (.cst (.int 2147483579)) (.cons (.cst (.int 2147483563)) .nil))))))) (.cons (.asg (.n 2) (.cst (.int 0))) (.cons (.for (.t [3,4]) (.enum (.var 1)) (.cons (.asg (.n 5) (.bin .add (.var 0) (.idx (.tup (.cons (.cst (.int 11)) (.cons (.cst (.int 101)) (.cons (.cst (.int 1009)) (.cons (.cst (.int 10007)) (.cons (.cst (.int 100003)) .nil)))))) (.var 3)))) (.cons (.asg (.n 5) (.bin .mod (.bin .mul (.var 5) (.bin .add (.cst (.int 48271)) (.bin .mul (.cst (.int 2)) (.var 3)))) (.var 4))) (.cons (.asg (.n 6) (.bin .mod (.bin .mul (.var 5) (.var 5)) (.var 4))) (.cons (.asg (.n 7) (.bin .mod (.bin .mul (.bin .mod (.bin .mul (.var 6) (.var 6)) (.var 4)) (.var 5)) (.var 4))) (.cons (.asg (.n 2) (.bin .add (.bin .mul (.var 2) (.var 4)) (.var 7))) .nil)))))) (.cons (.ret (.var 2)) .nil))))⟩
noncomputable def zec:Fn:=⟨1,4,false,(.cons (.asg (.t [1,2]) (.tup (.cons (.idx (.var 0) (.cst (.int 0))) (.cons (.idx (.var 0) (.cst (.int 1))) .nil)))) (.cons (.asg (.n 3) (.bin .add (.bin .mul (.cst (.int 31)) (.var 2)) (.cst (.int 7)))) (.cons (.ite (.cmp .gt (.blt .len (.cons (.var 1) .nil)) (.cst (.int 0))) (.cons (.asg (.n 3) (.bin .mul (.cst (.int 104729)) (.bin .fdiv (.var 2) (.blt .len (.cons (.var 1) .nil))))) (.cons (.asg (.n 3) (.bin .add (.var 3) (.idx (.var 1) (.bin .mod (.var 2) (.blt .len (.cons (.var 1) .nil)))))) .nil)) .nil) (.cons (.six (.var 0) (.cst (.int 1)) (.bin .add (.var 2) (.cst (.int 1)))) (.cons (.six (.var 0) (.cst (.int 3)) (.or (.cmp .ge (.var 2) (.blt .len (.cons (.var 1) .nil))) (.cmp .lt (.var 3) (.bin .pow (.cst (.int 10)) (.cst (.int 18)))))) (.cons (.ite (.idx (.var 0) (.cst (.int 3))) (.cons (.six (.var 0) (.cst (.int 2)) (.call 20 (.cons (.var 3) .nil))) .nil) (.cons (.six (.var 0) (.cst (.int 2)) (.bin .sub (.var 3) (.bin .pow (.cst (.int 10)) (.cst (.int 18))))) .nil)) .nil))))))⟩
noncomputable def yO:Fn:=⟨2,4,false,(.cons (.asg (.n 2) (.cst (.int 0))) (.cons (.while (.and (.cmp .lt (.var 2) (.cst (.int 64))) (.or (.cmp .eq (.idx (.var 0) (.cst (.int 2))) (.cst (.int 0))) (.and (.idx (.var 0) (.cst (.int 3))) (.cmp .lt (.idx (.var 0) (.cst (.int 2))) (.bin .mul (.var 1) (.cst (.int 4096))))))) (.cons (.expr (.call 21 (.cons (.var 0) .nil))) (.cons (.aug 2 .add (.cst (.int 1))) (.cons (.ite (.and (.idx (.var 0) (.cst (.int 3))) (.cmp .lt (.idx (.var 0) (.cst (.int 2))) (.bin .mul (.var 1) (.cst (.int 4096))))) (.cons (.six (.var 0) (.cst (.int 2)) (.bin .add (.idx (.var 0) (.cst (.int 2))) (.bin .mul (.bin .mul (.var 1) (.cst (.int 4096))) (.bin .add (.cst (.int 1)) (.bin .mod (.idx (.var 0) (.cst (.int 2))) (.cst (.int 4093))))))) .nil) .nil) .nil)))) (.cons (.asg (.n 3) (.bin .mod (.idx (.var 0) (.cst (.int 2))) (.var 1))) (.cons (.six (.var 0) (.cst (.int 2)) (.bin .fdiv (.idx (.var 0) (.cst (.int 2))) (.var 1))) (.cons (.ret (.var 3)) .nil)))))⟩
noncomputable def zem:Fn:=⟨1,3,true,(.cons (.asg (.n 1) (.cst (.int 1))) (.cons (.for (.n 2) (.range1 (.var 0)) (.cons (.asg (.n 1) (.bin .mul (.cst (.int 2)) (.var 1))) .nil)) (.cons (.ret (.var 1)) .nil)))⟩
noncomputable def zfp:Fn:=⟨1,1,true,(.cons (.ret (.and (.isi (.var 0) [.int]) (.not (.isi (.var 0) [.bool])))) .nil)⟩
noncomputable def zcG:Fn:=⟨1,1,true,(.cons (.ret (.and (.isi (.var 0) [.str]) (.and (.cmp .eq (.blt .len (.cons (.var 0) .nil)) (.cst (.int 1))) (.cmp .isin (.var 0) (.cst (.str "abcdefghijklmnopqrstuvwxyz")))))) .nil)⟩
noncomputable def zbI:Fn:=⟨1,1,false,(.cons (.ret (.idx (.cst (.str "abcdefghijklmnopqrstuvwxyz")) (.call 22 (.cons (.var 0) (.cons (.cst (.int 26)) .nil))))) .nil)⟩
noncomputable def zcs:Fn:=⟨1,1,false,(.cons (.ret (.tup (.cons (.call 26 (.cons (.var 0) .nil)) (.cons (.idx (.tup (.cons (.cst (.int 0)) (.cons (.cst (.int 99)) (.cons (.call 22 (.cons (.var 0) (.cons (.cst (.int 100)) .nil))) (.cons (.call 22 (.cons (.var 0) (.cons (.cst (.int 100)) .nil))) .nil))))) (.call 22 (.cons (.var 0) (.cons (.cst (.int 4)) .nil)))) .nil)))) .nil)⟩
noncomputable def zcq:Fn:=⟨2,3,false,(.cons (.asg (.n 2) (.call 22 (.cons (.var 0) (.cons (.var 1) .nil)))) (.cons (.ret (.idx (.tup (.cons (.cst (.int 0)) (.cons (.cst (.int 1)) (.cons (.bin .sub (.var 1) (.cst (.int 1))) (.cons (.bin .fdiv (.var 1) (.cst (.int 2))) (.cons (.var 2) (.cons (.var 2) .nil))))))) (.call 22 (.cons (.var 0) (.cons (.cst (.int 6)) .nil))))) .nil))⟩
noncomputable def yr:Fn:=⟨2,6,false,(.cons (.asg (.n 2) (.tup (.cons (.cst (.str "set")) (.cons (.cst (.str "move")) (.cons (.cst (.str "bare")) (.cons (.cst (.str "sum")) (.cons (.cst (.str "less")) (.cons (.cst (.str "both")) (.cons (.cst (.str "any")) (.cons (.cst (.str "odd")) (.cons (.cst (.str "twice")) (.cons (.cst (.str "half")) (.cons (.cst (.str "times")) (.cons (.cst (.str "mark")) (.cons (.cst (.str "ask")) .nil))))))))))))))) (.cons (.asg (.n 3) (.idx (.var 2) (.call 22 (.cons (.var 0) (.cons (.cst (.int 13)) .nil))))) (.cons (.asg (.n 4) (.call 22 (.cons (.var 0) (.cons (.cst (.int 2)) .nil)))) (.cons (.asg (.n 5) (.thw (.comp [none,some 1,some 0] (.n 0) (.range1 (.cst (.int 4))) (.cst (.bl true)) (.idx (.var 1) (.call 22 (.cons (.var 2) (.cons (.blt .len (.cons (.var 1) .nil)) .nil))))))) (.cons (.ite (.cmp .eq (.var 3) (.cst (.str "mark"))) (.cons (.ret (.tup (.cons (.var 3) (.cons (.var 4) .nil)))) .nil) .nil) (.cons (.ite (.cmp .eq (.var 3) (.cst (.str "ask"))) (.cons (.ret (.tup (.cons (.var 3) (.cons (.idx (.var 5) (.cst (.int 0))) .nil)))) .nil) .nil) (.cons (.ite (.cmp .eq (.var 3) (.cst (.str "set"))) (.cons (.ret (.tup (.cons (.var 3) (.cons (.idx (.var 5) (.cst (.int 0))) (.cons (.var 4) .nil))))) .nil) .nil) (.cons (.ite (.cmp .eq (.var 3) (.cst (.str "times"))) (.cons (.ite (.cmp .eq (.idx (.var 5) (.cst (.int 0))) (.idx (.var 5) (.cst (.int 1)))) (.cons (.six2 (.var 5) (.cst (.int 0)) (.var 5) (.cst (.int 1)) (.idx (.var 1) (.cst (.int 0))) (.idx (.var 1) (.cst (.int 1)))) .nil) .nil) (.cons (.ret (.tup (.cons (.var 3) (.cons (.idx (.var 5) (.cst (.int 0))) (.cons (.idx (.var 5) (.cst (.int 1))) (.cons (.idx (.var 5) (.cst (.int 2))) (.cons (.idx (.var 5) (.cst (.int 3))) .nil))))))) .nil)) .nil) (.cons (.ite (.cmp .isin (.var 3) (.tup (.cons (.cst (.str "move")) (.cons (.cst (.str "bare")) (.cons (.cst (.str "twice")) (.cons (.cst (.str "half")) .nil)))))) (.cons (.ret (.tup (.cons (.var 3) (.cons (.idx (.var 5) (.cst (.int 0))) (.cons (.idx (.var 5) (.cst (.int 1))) .nil))))) .nil) .nil) (.cons (.ret (.tup (.cons (.var 3) (.cons (.idx (.var 5) (.cst (.int 0))) (.cons (.idx (.var 5) (.cst (.int 1))) (.cons (.idx (.var 5) (.cst (.int 2))) .nil)))))) .nil))))))))))⟩
noncomputable def yu:Fn:=⟨2,5,false,(.cons (.asg (.n 2) (.newl .nil)) (.cons (.for (.n 3) (.range1 (.bin .add (.cst (.int 2)) (.var 1))) (.cons (.asg (.n 4) (.call 27 (.cons (.var 0) .nil))) (.cons (.ite (.nin (.var 4) (.var 2)) (.cons (.expr (.mth .append (.var 2) (.cons (.var 4) .nil))) .nil) .nil) .nil))) (.cons (.ite (.cmp .eq (.blt .len (.cons (.var 2) .nil)) (.cst (.int 1))) (.cons (.expr (.mth .append (.var 2) (.cons (.tup (.cons (.idx (.idx (.var 2) (.cst (.int 0))) (.cst (.int 0))) (.cons (.bin .mod (.bin .add (.idx (.idx (.var 2) (.cst (.int 0))) (.cst (.int 1))) (.cst (.int 1))) (.cst (.int 100))) .nil))) .nil))) .nil) .nil) (.cons (.ret (.frz (.var 2))) .nil))))⟩
noncomputable def za7:Fn:=⟨1,1,true,(.cons (.ite (.or (.not (.isi (.var 0) [.tuple])) (.or (.cmp .ne (.blt .len (.cons (.var 0) .nil)) (.cst (.int 2))) (.not (.call 25 (.cons (.idx (.var 0) (.cst (.int 0))) .nil))))) (.cons (.ret (.cst (.bl false))) .nil) .nil) (.cons (.ret (.and (.call 24 (.cons (.idx (.var 0) (.cst (.int 1))) .nil)) (.chain .le .le (.cst (.int 0)) (.idx (.var 0) (.cst (.int 1))) (.cst (.int 99))))) .nil))⟩
noncomputable def yj:Fn:=⟨1,2,true,(.cons (.ite (.or (.not (.isi (.var 0) [.tuple])) (.or (.cmp .lt (.blt .len (.cons (.var 0) .nil)) (.cst (.int 2))) (.not (.isi (.idx (.var 0) (.cst (.int 0))) [.str])))) (.cons (.ret (.cst (.bl false))) .nil) .nil) (.cons (.ite (.cmp .eq (.idx (.var 0) (.cst (.int 0))) (.cst (.str "mark"))) (.cons (.ret (.and (.cmp .eq (.blt .len (.cons (.var 0) .nil)) (.cst (.int 2))) (.and (.call 24 (.cons (.idx (.var 0) (.cst (.int 1))) .nil)) (.cmp .isin (.idx (.var 0) (.cst (.int 1))) (.tup (.cons (.cst (.int 0)) (.cons (.cst (.int 1)) .nil))))))) .nil) .nil) (.cons (.ite (.cmp .eq (.idx (.var 0) (.cst (.int 0))) (.cst (.str "ask"))) (.cons (.ret (.and (.cmp .eq (.blt .len (.cons (.var 0) .nil)) (.cst (.int 2))) (.call 31 (.cons (.idx (.var 0) (.cst (.int 1))) .nil)))) .nil) .nil) (.cons (.ite (.cmp .eq (.idx (.var 0) (.cst (.int 0))) (.cst (.str "set"))) (.cons (.ret (.and (.cmp .eq (.blt .len (.cons (.var 0) .nil)) (.cst (.int 3))) (.and (.call 31 (.cons (.idx (.var 0) (.cst (.int 1))) .nil)) (.and (.call 24 (.cons (.idx (.var 0) (.cst (.int 2))) .nil)) (.cmp .isin (.idx (.var 0) (.cst (.int 2))) (.tup (.cons (.cst (.int 0)) (.cons (.cst (.int 1)) .nil)))))))) .nil) .nil) (.cons (.asg (.n 1) (.newd [("move",3),("bare",3),("twice",3),("half",3),("sum",4),("less",4),("both",4),("any",4),("odd",4)])) (.cons (.dput (.var 1) (.cst (.str "times")) (.cst (.int 5))) (.cons (.ite (.or (.cmp .ne (.mth .get (.var 1) (.cons (.idx (.var 0) (.cst (.int 0))) (.cons (.cst (.int 0)) .nil))) (.blt .len (.cons (.var 0) .nil))) (.not (.blt .all (.cons (.comp [none] (.n 0) (.seq (.slc (.var 0) (.cst (.int 1)) (.cst .non))) (.cst (.bl true)) (.call 31 (.cons (.var 0) .nil))) .nil)))) (.cons (.ret (.cst (.bl false))) .nil) .nil) (.cons (.ret (.or (.cmp .ne (.idx (.var 0) (.cst (.int 0))) (.cst (.str "times"))) (.cmp .ne (.idx (.var 0) (.cst (.int 1))) (.idx (.var 0) (.cst (.int 2)))))) .nil))))))))⟩
noncomputable def yx:Fn:=⟨1,4,false,(.cons (.asg (.n 1) (.call 26 (.cons (.var 0) .nil))) (.cons (.asg (.n 2) (.bin .add (.cst (.int 100)) (.bin .mul (.call 22 (.cons (.var 0) (.cons (.cst (.int 3)) .nil))) (.call 22 (.cons (.var 0) (.cons (.bin .pow (.cst (.int 10)) (.cst (.int 9))) .nil)))))) (.cons (.asg (.n 3) (.newl (.cons (.cst .non) (.cons (.cst (.bl true)) (.cons (.cst (.bl false)) (.cons (.neg (.cst (.int 1))) (.cons (.var 2) (.cons (.cst (.str "")) (.cons (.var 1) (.cons (.bin .add (.var 1) (.var 1)) (.cons (.cst (.str "A")) (.cons (.cst (.str "?")) (.cons (.tup .nil) (.cons (.tup (.cons (.var 1) .nil)) .nil)))))))))))))) (.cons (.expr (.mth .extend (.var 3) (.cons (.lst (.cons (.tup (.cons (.var 1) (.cons (.cst (.int 0)) (.cons (.cst (.int 0)) .nil)))) (.cons (.tup (.cons (.var 1) (.cons (.neg (.cst (.int 1))) .nil))) (.cons (.tup (.cons (.var 1) (.cons (.var 2) .nil))) (.cons (.tup (.cons (.cst (.str "A")) (.cons (.cst (.int 0)) .nil))) (.cons (.tup (.cons (.bin .add (.var 1) (.cst (.str "b"))) (.cons (.cst (.int 0)) .nil))) .nil)))))) .nil))) (.cons (.expr (.mth .extend (.var 3) (.cons (.lst (.cons (.tup (.cons (.cst (.str "")) (.cons (.cst (.int 0)) .nil))) (.cons (.tup (.cons (.var 1) (.cons (.cst (.bl true)) .nil))) (.cons (.tup (.cons (.var 1) (.cons (.cst (.str "0")) .nil))) (.cons (.lst (.cons (.var 1) (.cons (.cst (.int 0)) .nil))) (.cons (.tup (.cons (.var 1) (.cons (.tup (.cons (.cst (.int 0)) (.cons (.cst (.int 0)) (.cons (.cst (.int 0)) (.cons (.cst (.int 0)) .nil))))) .nil))) .nil)))))) .nil))) (.cons (.expr (.mth .extend (.var 3) (.cons (.lst (.cons (.cst (.int 0)) (.cons (.cst (.int 1)) (.cons (.cst (.int 2)) (.cons (.tup (.cons (.var 1) (.cons (.cst (.int 0)) .nil))) (.cons (.cst (.str "sum")) (.cons (.cst (.str "marks")) (.cons (.tup (.cons (.cst (.str "mark")) (.cons (.cst (.int 0)) .nil))) (.cons (.tup (.cons (.tup (.cons (.var 1) (.cons (.cst (.int 0)) .nil))) (.cons (.cst (.int 1)) .nil))) .nil))))))))) .nil))) (.cons (.ret (.idx (.var 3) (.call 22 (.cons (.var 0) (.cons (.blt .len (.cons (.var 3) .nil)) .nil))))) .nil)))))))⟩
noncomputable def yg:Fn:=⟨2,8,false,(.cons (.asg (.n 2) (.call 22 (.cons (.var 0) (.cons (.cst (.int 6)) .nil)))) (.cons (.asg (.n 3) (.call 22 (.cons (.var 0) (.cons (.bin .add (.blt .len (.cons (.var 1) .nil)) (.cst (.int 1))) .nil)))) (.cons (.asg (.n 4) (.call 33 (.cons (.var 0) .nil))) (.cons (.asg (.n 5) (.blt .min (.cons (.var 3) (.cons (.bin .sub (.blt .len (.cons (.var 1) .nil)) (.cst (.int 1))) .nil)))) (.cons (.ite (.or (.cmp .eq (.blt .len (.cons (.var 1) .nil)) (.cst (.int 0))) (.cmp .eq (.var 2) (.cst (.int 0)))) (.cons (.ret (.bin .add (.bin .add (.slc (.var 1) (.cst .non) (.var 3)) (.tup (.cons (.var 4) .nil))) (.slc (.var 1) (.var 3) (.cst .non)))) .nil) .nil) (.cons (.ite (.cmp .eq (.var 2) (.cst (.int 1))) (.cons (.ret (.bin .add (.slc (.var 1) (.cst .non) (.var 5)) (.slc (.var 1) (.bin .add (.var 5) (.cst (.int 1))) (.cst .non)))) .nil) .nil) (.cons (.ite (.cmp .eq (.var 2) (.cst (.int 2))) (.cons (.ret (.bin .add (.bin .add (.slc (.var 1) (.cst .non) (.var 5)) (.tup (.cons (.idx (.var 1) (.var 5)) .nil))) (.slc (.var 1) (.var 5) (.cst .non)))) .nil) .nil) (.cons (.ite (.cmp .eq (.var 2) (.cst (.int 3))) (.cons (.asg (.n 6) (.call 22 (.cons (.var 0) (.cons (.blt .len (.cons (.var 1) .nil)) .nil)))) (.cons (.asg (.n 7) (.thw (.blt .list (.cons (.var 1) .nil)))) (.cons (.six2 (.var 7) (.var 5) (.var 7) (.var 6) (.idx (.var 7) (.var 6)) (.idx (.var 7) (.var 5))) (.cons (.ret (.blt .tuple (.cons (.var 7) .nil))) .nil)))) .nil) (.cons (.ret (.bin .add (.bin .add (.slc (.var 1) (.cst .non) (.var 5)) (.tup (.cons (.var 4) .nil))) (.slc (.var 1) (.bin .add (.var 5) (.cst (.int 1))) (.cst .non)))) .nil)))))))))⟩
noncomputable def yp:Fn:=⟨2,6,false,(.cons (.asg (.n 2) (.call 22 (.cons (.var 0) (.cons (.cst (.int 4)) .nil)))) (.cons (.asg (.n 3) (.call 22 (.cons (.var 0) (.cons (.blt .len (.cons (.var 1) .nil)) .nil)))) (.cons (.ite (.cmp .eq (.var 2) (.cst (.int 0))) (.cons (.asg (.n 4) (.idx (.var 1) (.cst (.int 0)))) (.cons (.asg (.n 5) (.call 22 (.cons (.var 0) (.cons (.blt .len (.cons (.var 4) .nil)) .nil)))) (.cons (.ret (.bin .add (.tup (.cons (.bin .add (.bin .add (.slc (.var 4) (.cst .non) (.var 5)) (.call 26 (.cons (.var 0) .nil))) (.slc (.var 4) (.bin .add (.var 5) (.idx (.tup (.cons (.cst (.int 1)) (.cons (.cst (.int 0)) .nil))) (.call 22 (.cons (.var 0) (.cons (.cst (.int 2)) .nil))))) (.cst .non))) .nil)) (.slc (.var 1) (.cst (.int 1)) (.cst .non)))) .nil))) .nil) (.cons (.ite (.and (.cmp .eq (.var 2) (.cst (.int 1))) (.isi (.idx (.var 1) (.var 3)) [.tuple])) (.cons (.ret (.bin .add (.bin .add (.slc (.var 1) (.cst .non) (.var 3)) (.tup (.cons (.call 34 (.cons (.var 0) (.cons (.idx (.var 1) (.var 3)) .nil))) .nil))) (.slc (.var 1) (.bin .add (.var 3) (.cst (.int 1))) (.cst .non)))) .nil) .nil) (.cons (.ite (.and (.cmp .eq (.var 2) (.cst (.int 2))) (.cmp .eq (.idx (.var 1) (.cst (.int 0))) (.cst (.str "times")))) (.cons (.ret (.bin .add (.bin .add (.slc (.var 1) (.cst .non) (.cst (.int 1))) (.tup (.cons (.idx (.var 1) (.cst (.int 2))) .nil))) (.slc (.var 1) (.cst (.int 2)) (.cst .non)))) .nil) .nil) (.cons (.ret (.call 34 (.cons (.var 0) (.cons (.var 1) .nil)))) .nil))))))⟩
noncomputable def zdZ:Fn:=⟨1,3,false,(.cons (.asg (.n 1) (.newl (.cons (.isx (.var 0) [2,3,4] [.cls 4]) (.cons (.isx (.var 0) [2,3,4] [.cls 2]) (.cons (.isx (.var 0) [2,3,4] [.cls 3]) .nil))))) (.cons (.asg (.n 2) (.isx (.var 0) [2,3,4] [.cls 0,.cls 5,.cls 1,.cls 6,.cls 7,.cls 8])) (.cons (.expr (.mth .append (.var 1) (.cons (.or (.var 2) (.isx (.var 0) [2,3,4] [.cls 9,.cls 10,.cls 11,.cls 12,.cls 13])) .nil))) (.cons (.ite (.or (.cmp .ne (.mth .count (.var 1) (.cons (.cst (.bl true)) .nil)) (.cst (.int 1))) (.not (.isx (.var 0) [2,3,4] [.val]))) (.cons .nope .nil) .nil) (.cons (.ret (.idx (.tup (.cons (.cst (.str "row")) (.cons (.cst (.str "cell")) (.cons (.cst (.str "word")) (.cons (.cst (.str "odd")) .nil))))) (.mth .index (.var 1) (.cons (.cst (.bl true)) .nil)))) .nil)))))⟩
noncomputable def za3:Fn:=⟨3,5,false,(.cons (.asg (.n 3) (.cst (.str "told"))) (.cons (.try (.cons (.ite (.cmp .eq (.var 1) (.cst (.int 0))) (.cons (.expr (.mcl 20 13 (Str.ofString "do") (.var 0) (.cons (.var 2) .nil))) .nil) .nil) (.cons (.ite (.cmp .eq (.var 1) (.cst (.int 1))) (.cons (.expr (.mcl 20 14 (Str.ofString "run") (.var 0) (.cons (.var 2) .nil))) .nil) .nil) (.cons (.ite (.cmp .eq (.var 1) (.cst (.int 2))) (.cons (.expr (.mcl 20 10 (Str.ofString "put") (.var 0) (.cons (.idx (.var 2) (.cst (.int 0))) (.cons (.idx (.var 2) (.cst (.int 1))) (.cons (.idx (.var 2) (.cst (.int 2))) .nil))))) .nil) .nil) (.cons (.ite (.cmp .eq (.var 1) (.cst (.int 3))) (.cons (.expr (.mcl 20 11 (Str.ofString "word") (.var 0) (.cons (.idx (.var 2) (.cst (.int 0))) (.cons (.idx (.var 2) (.cst (.int 1))) .nil)))) .nil) .nil) .nil)))) [2,3,4] 4 (.cons (.asg (.n 3) (.qcl 36 (.cons (.var 4) .nil))) .nil)) (.cons (.ret (.var 3)) .nil)))⟩
noncomputable def yW:Fn:=⟨4,4,false,(.cons (.ite (.cmp .ne (.mcl 20 12 (Str.ofString "mark") (.var 0) .nil) (.var 3)) (.cons .nope .nil) .nil) (.cons (.ret (.blt .all (.cons (.comp [none,some 2,some 0] (.n 0) (.seq (.var 1)) (.cst (.bl true)) (.cmp .eq (.mcl 20 11 (Str.ofString "word") (.var 2) (.cons (.idx (.var 0) (.cst (.int 0))) (.cons (.idx (.var 0) (.cst (.int 1))) .nil))) (.dgt (.var 1) (.var 0)))) .nil))) .nil))⟩
noncomputable def zbj:Fn:=⟨4,4,true,(.cons (.ite (.not (.call 31 (.cons (.tup (.cons (.var 0) (.cons (.var 1) .nil))) .nil))) (.cons (.ret (.cst (.str "cell"))) .nil) .nil) (.cons (.ite (.or (.not (.call 24 (.cons (.var 2) .nil))) (.not (.chain .le .lt (.cst (.int 0)) (.var 2) (.var 3)))) (.cons (.ret (.cst (.str "word"))) .nil) .nil) (.cons (.ret (.cst (.str "told"))) .nil)))⟩
noncomputable def zgo:Fn:=⟨2,4,false,(.cons (.asg (.n 2) (.call 22 (.cons (.var 0) (.cons (.cst (.int 6)) .nil)))) (.cons (.asg (.n 3) (.call 29 (.cons (.var 0) (.cons (.var 1) .nil)))) (.cons (.ite (.cmp .eq (.var 2) (.cst (.int 0))) (.cons (.ret (.blt .list (.cons (.var 3) .nil))) .nil) .nil) (.cons (.ite (.cmp .eq (.var 2) (.cst (.int 1))) (.cons (.ret (.call 33 (.cons (.var 0) .nil))) .nil) .nil) (.cons (.ret (.call 35 (.cons (.var 0) (.cons (.var 3) .nil)))) .nil)))))⟩
noncomputable def yN:Fn:=⟨1,19,true,(.cons (.asg (.n 1) (.call 19 (.cons (.var 0) .nil))) (.cons (.asg (.n 2) (.bin .add (.cst (.int 4)) (.call 22 (.cons (.var 1) (.cons (.cst (.int 13)) .nil))))) (.cons (.asg (.n 3) (.call 23 (.cons (.var 2) .nil))) (.cons (.asg (.n 4) (.call 30 (.cons (.var 1) (.cons (.call 22 (.cons (.var 1) (.cons (.cst (.int 5)) .nil))) .nil)))) (.cons (.asg (.n 5) (.new 20 9 (.cons (.var 2) .nil))) (.cons (.asg (.n 6) (.dict0 true)) (.cons (.for (.n 7) (.seq (.var 4)) (.cons (.dput (.var 6) (.var 7) (.call 28 (.cons (.var 1) (.cons (.var 3) .nil)))) (.cons (.expr (.mcl 20 10 (Str.ofString "put") (.var 5) (.cons (.idx (.var 7) (.cst (.int 0))) (.cons (.idx (.var 7) (.cst (.int 1))) (.cons (.dgt (.var 6) (.var 7)) .nil))))) .nil))) (.cons (.asg (.n 8) (.call 22 (.cons (.var 1) (.cons (.cst (.int 2)) .nil)))) (.cons (.expr (.mcl 20 13 (Str.ofString "do") (.var 5) (.cons (.tup (.cons (.cst (.str "mark")) (.cons (.var 8) .nil))) .nil))) (.cons (.asg (.n 9) (.call 40 (.cons (.var 1) (.cons (.var 4) .nil)))) (.cons (.asg (.n 10) (.comp [none,some 1,some 4] (.n 0) (.range1 (.call 22 (.cons (.var 1) (.cons (.cst (.int 7)) .nil)))) (.cst (.bl true)) (.call 29 (.cons (.var 1) (.cons (.var 2) .nil))))) (.cons (.asg (.n 11) (.call 22 (.cons (.var 1) (.cons (.bin .add (.blt .len (.cons (.var 10) .nil)) (.cst (.int 1))) .nil)))) (.cons (.ite (.not (.call 32 (.cons (.var 9) .nil))) (.cons (.asg (.n 12) (.bin .add (.bin .add (.slc (.var 10) (.cst .non) (.var 11)) (.lst (.cons (.var 9) .nil))) (.slc (.var 10) (.var 11) (.cst .non)))) (.cons (.for (.n 13) (.range1 (.cst (.int 2))) (.cons (.ite (.or (.cmp .ne (.call 37 (.cons (.var 5) (.cons (.cst (.int 0)) (.cons (.var 9) .nil)))) (.cst (.str "row"))) (.cmp .ne (.call 37 (.cons (.var 5) (.cons (.cst (.int 1)) (.cons (.idx (.tup (.cons (.var 12) (.cons (.blt .tuple (.cons (.var 12) .nil)) .nil))) (.var 13)) .nil)))) (.cst (.str "row")))) (.cons .nope .nil) .nil) (.cons (.ite (.and (.cmp .gt (.blt .len (.cons (.var 10) .nil)) (.cst (.int 0))) (.cmp .ne (.call 37 (.cons (.var 5) (.cons (.cst (.int 1)) (.cons (.idx (.var 10) (.cst (.int 0))) .nil)))) (.cst (.str "row")))) (.cons .nope .nil) .nil) (.cons (.ite (.not (.call 38 (.cons (.var 5) (.cons (.var 4) (.cons (.var 6) (.cons (.var 8) .nil)))))) (.cons .nope .nil) .nil) .nil)))) .nil)) .nil) (.cons (.asg (.n 14) (.call 33 (.cons (.var 1) .nil))) (.cons (.asg (.t [15,16]) (.idx (.tup (.cons (.idx (.var 4) (.cst (.int 0))) (.cons (.tup (.cons (.var 14) (.cons (.idx (.idx (.var 4) (.cst (.int 0))) (.cst (.int 1))) .nil))) (.cons (.tup (.cons (.idx (.idx (.var 4) (.cst (.int 0))) (.cst (.int 0))) (.cons (.var 14) .nil))) .nil)))) (.call 22 (.cons (.var 1) (.cons (.cst (.int 3)) .nil))))) (.cons (.asg (.n 17) (.idx (.tup (.cons (.var 3) (.cons (.neg (.cst (.int 1))) (.cons (.call 33 (.cons (.var 1) .nil)) (.cons (.bin .add (.var 3) (.call 22 (.cons (.var 1) (.cons (.bin .pow (.cst (.int 10)) (.cst (.int 20))) .nil)))) .nil))))) (.call 22 (.cons (.var 1) (.cons (.cst (.int 4)) .nil))))) (.cons (.asg (.n 18) (.call 39 (.cons (.var 15) (.cons (.var 16) (.cons (.var 17) (.cons (.var 3) .nil)))))) (.cons (.ite (.cmp .ne (.call 37 (.cons (.var 5) (.cons (.cst (.int 2)) (.cons (.tup (.cons (.var 15) (.cons (.var 16) (.cons (.var 17) .nil)))) .nil)))) (.var 18)) (.cons .nope .nil) .nil) (.cons (.ite (.and (.cmp .ne (.var 18) (.cst (.str "told"))) (.not (.call 38 (.cons (.var 5) (.cons (.var 4) (.cons (.var 6) (.cons (.var 8) .nil))))))) (.cons .nope .nil) .nil) (.cons (.ret (.cmp .eq (.call 37 (.cons (.var 5) (.cons (.cst (.int 3)) (.cons (.tup (.cons (.var 15) (.cons (.var 16) .nil))) .nil)))) (.idx (.tup (.cons (.cst (.str "told")) (.cons (.cst (.str "cell")) .nil))) (.blt .int (.cons (.not (.call 31 (.cons (.tup (.cons (.var 15) (.cons (.var 16) .nil))) .nil))) .nil))))) .nil))))))))))))))))))))⟩
noncomputable def T:Nat->Option Fn
 |0=>some zeu
 |1=>some zaZ
 |2=>some zar
 |3=>some zfj
 |4=>some yE
 |5=>some zbB
 |6=>some zbM
 |7=>some zcL
 |8=>some zbb
 |9=>some za1
 |10=>some zaB
 |11=>some zav
 |12=>some zbJ
 |13=>some zbk
 |14=>some yC
 |15=>some zaw
 |16=>some zbf
 |17=>some zbi
 |18=>some zbm
 |19=>some zfo
 |20=>some yan
 |21=>some zec
 |22=>some yO
 |23=>some zem
 |24=>some zfp
 |25=>some zcG
 |26=>some zbI
 |27=>some zcs
 |28=>some zcq
 |29=>some yr
 |30=>some yu
 |31=>some za7
 |32=>some yj
 |33=>some yx
 |34=>some yg
 |35=>some yp
 |36=>some zdZ
 |37=>some za3
 |38=>some yW
 |39=>some zbj
 |40=>some zgo
 |41=>some yN
 |_=>none
noncomputable abbrev zeq:Nat:=0
noncomputable abbrev zdN:Nat:=1
noncomputable abbrev zfs:Nat:=2
noncomputable abbrev ziU:Nat:=3
noncomputable abbrev zgC:Nat:=4
noncomputable abbrev zdO:Nat:=5
noncomputable abbrev ze5:Nat:=6
noncomputable abbrev zhR:Nat:=7
noncomputable abbrev zeC:Nat:=8
noncomputable abbrev zbn:Nat:=9
noncomputable abbrev zat:Nat:=10
noncomputable abbrev zau:Nat:=11
noncomputable abbrev zcy:Nat:=12
noncomputable abbrev zbl:Nat:=13
noncomputable abbrev zcQ:Nat:=14
noncomputable abbrev zaN:Nat:=15
noncomputable abbrev zc8:Nat:=16
noncomputable abbrev zct:Nat:=17
noncomputable abbrev zcr:Nat:=18
noncomputable abbrev zgY:Nat:=19
noncomputable abbrev ziS:Nat:=20
noncomputable abbrev zkN:Nat:=21
noncomputable abbrev zaj:Nat:=22
noncomputable abbrev zfM:Nat:=23
noncomputable abbrev zfg:Nat:=24
noncomputable abbrev zhd:Nat:=25
noncomputable abbrev zbH:Nat:=26
noncomputable abbrev zeZ:Nat:=27
noncomputable abbrev zdt:Nat:=28
noncomputable abbrev zb6:Nat:=29
noncomputable abbrev zcP:Nat:=30
noncomputable abbrev zdG:Nat:=31
noncomputable abbrev zf1:Nat:=32
noncomputable abbrev zcM:Nat:=33
noncomputable abbrev zds:Nat:=34
noncomputable abbrev zex:Nat:=35
noncomputable abbrev zk8:Nat:=36
noncomputable abbrev zam:Nat:=37
noncomputable abbrev zdE:Nat:=38
noncomputable abbrev zeY:Nat:=39
noncomputable abbrev zj2:Nat:=40
noncomputable abbrev zjU:Nat:=41
end IC
namespace WK
open PySem L2 IC
local macro_rules|`(tactic|nofun)=>`(tactic|exact ⟨rfl,rfl,rfl,by decide +kernel,rfl,by decide +kernel,by decide +kernel⟩)
local macro_rules|`(tactic|trivial)=>`(tactic|decide +kernel)
noncomputable def top (i:Nat):Stmt:=PySem.Challenge.pw_widewords_k08_machine_refuses.main.body.getD i (.Pass ⟨0,0,0,0⟩)
noncomputable abbrev zcF:Stmt:=top 18
theorem ybH:yq ["w"] ["w"] (yc zcF):=by nofun
noncomputable abbrev zbc:Stmt:=top 31
theorem ybk:yq ["thing","low","high"] ["thing","low","high"] (yc zbc):=by nofun
noncomputable abbrev zaW:Stmt:=top 32
theorem ybc:yq ["thing"] ["thing"] (yc zaW):=by nofun
noncomputable abbrev zc3:Stmt:=top 36
theorem ybZ:yq ["thing"] ["thing"] (yc zc3):=by nofun
noncomputable abbrev zaI:Stmt:=top 37
theorem ybo:yq ["thing","told","kind","operand"] ["thing","told"] (yc zaI):=by nofun
noncomputable abbrev zaM:Stmt:=top 38
theorem ybp:yq ["thing"] ["thing"] (yc zaM):=by nofun
noncomputable abbrev zaQ:Stmt:=top 39
theorem ya3:yq ["kind","thing","told"] ["kind","thing","told"] (yc zaQ):=by nofun
noncomputable abbrev zbK:Stmt:=top 40
theorem ybK:yq ["thing"] ["thing"] (yc zbK):=by nofun
noncomputable abbrev zan:Stmt:=top 42
theorem yaT:yq ["thing"] ["thing"] (yc zan):=by nofun
noncomputable abbrev zK:Stmt:=inClass (top 44) 0
theorem yaq:yq ["self","w"] ["self","w"] (yc zK):=by nofun
noncomputable abbrev zR:Stmt:=inClass (top 44) 1
theorem yaV:yq ["self","letter","at","word","cell"] ["self","letter","at","word"] (yc zR):=by nofun
noncomputable abbrev zZ:Stmt:=inClass (top 44) 2
theorem yaM:yq ["self","letter","at"] ["self","letter","at"] (yc zZ):=by nofun
noncomputable abbrev z6:Stmt:=inClass (top 44) 3
theorem yaN:yq ["self"] ["self"] (yc z6):=by nofun
noncomputable abbrev zag:Stmt:=inClass (top 44) 4
theorem ya5:yq ["self","row"] ["self","row"] (yc zag):=by nofun
noncomputable abbrev z8:Stmt:=inClass (top 44) 5
theorem yaS:yq ["self","rows","row"] ["self","rows"] (yc z8):=by nofun
noncomputable abbrev zN:Stmt:=inClass (top 44) 6
theorem yau:yq ["self","cell"] ["self","cell"] (yc zN):=by nofun
noncomputable abbrev zS:Stmt:=inClass (top 44) 7
theorem yaA:yq ["self","row"] ["self","row"] (yc zS):=by nofun
noncomputable abbrev zaS:Stmt:=top 45
theorem ya7:yq ["letter","at"] ["letter","at"] (yc zaS):=by nofun
noncomputable abbrev zaO:Stmt:=top 46
theorem ya1:yq ["thing"] ["thing"] (yc zaO):=by nofun
noncomputable abbrev zdJ:Stmt:=top 48
theorem ybV:yq ["_law_script"] ["_law_script"] (yc zdJ):=by nofun
noncomputable abbrev zcR:Stmt:=top 49
theorem yca:yq ["_law_seed","_law_primes","_law_number","_law_k","_law_prime","_law_far","_law_square","_law_power"] ["_law_seed"] (yc zcR):=by nofun
noncomputable abbrev zdz:Stmt:=top 50
theorem ycn:yq ["_law_state","_law_cells","_law_at","_law_seed"] ["_law_state"] (yc zdz):=by nofun
noncomputable abbrev zd8:Stmt:=top 51
theorem ycm:yq ["_law_state","_law_many","_law_turns","_law_digit"] ["_law_state","_law_many"] (yc zd8):=by nofun
noncomputable abbrev zca:Stmt:=top 52
theorem ybN:yq ["_law_many","_law_found","_law_k"] ["_law_many"] (yc zca):=by nofun
noncomputable abbrev zbU:Stmt:=top 53
theorem yb9:yq ["_law_thing"] ["_law_thing"] (yc zbU):=by nofun
noncomputable abbrev zbv:Stmt:=top 54
theorem ybE:yq ["_law_thing"] ["_law_thing"] (yc zbv):=by nofun
noncomputable abbrev zaE:Stmt:=top 55
theorem yaK:yq ["_law_state"] ["_law_state"] (yc zaE):=by nofun
noncomputable abbrev zaR:Stmt:=top 56
theorem ya4:yq ["_law_state"] ["_law_state"] (yc zaR):=by nofun
noncomputable abbrev za4:Stmt:=top 57
theorem ya9:yq ["_law_state","_law_wide","_law_any_one"] ["_law_state","_law_wide"] (yc za4):=by nofun
noncomputable abbrev zaX:Stmt:=top 58
theorem ybd:yq ["_law_state","_law_cells","_law_kinds","_law_kind_here","_law_digit","_law_some"] ["_law_state","_law_cells"] (yc zaX):=by nofun
noncomputable abbrev zas:Stmt:=top 59
theorem yaY:yq ["_law_state","_law_many","_law_cells","_law_k","_law_spot"] ["_law_state","_law_many"] (yc zas):=by nofun
noncomputable abbrev zaL:Stmt:=top 60
theorem ybn:yq ["_law_thing"] ["_law_thing"] (yc zaL):=by nofun
noncomputable abbrev zaA:Stmt:=top 61
theorem ybG:yq ["_law_row","_law_lengths"] ["_law_row"] (yc zaA):=by nofun
noncomputable abbrev za9:Stmt:=top 62
theorem ybm:yq ["_law_state","_law_letter_here","_law_great","_law_some"] ["_law_state"] (yc za9):=by nofun
noncomputable abbrev zT:Stmt:=top 63
theorem yaC:yq ["_law_state","_law_told","_law_way","_law_at","_law_strange_here","_law_here","_law_other","_law_row"] ["_law_state","_law_told"] (yc zT):=by nofun
noncomputable abbrev z7:Stmt:=top 64
theorem yaU:yq ["_law_state","_law_row","_law_way","_law_at","_law_word","_law_place"] ["_law_state","_law_row"] (yc z7):=by nofun
noncomputable abbrev zaz:Stmt:=top 65
theorem ya0:yq ["_law_e","_law_kinds","_law_far"] ["_law_e"] (yc zaz):=by nofun
noncomputable abbrev zcm:Stmt:=top 66
theorem yb1:yq ["_law_machine","_law_way","_law_thing","_law_kind_here","_law_e"] ["_law_machine","_law_way","_law_thing"] (yc zcm):=by nofun
noncomputable abbrev zcu:Stmt:=top 67
theorem yb7:yq ["_law_machine","_law_cells","_law_kept_here","_law_mark"] ["_law_machine","_law_cells","_law_kept_here","_law_mark"] (yc zcu):=by nofun
noncomputable abbrev zbh:Stmt:=top 68
theorem ybj:yq ["_law_letter_here","_law_at","_law_word","_law_wide"] ["_law_letter_here","_law_at","_law_word","_law_wide"] (yc zbh):=by nofun
noncomputable abbrev zdr:Stmt:=top 69
theorem ycH:yq ["_law_state","_law_cells","_law_way","_law_row"] ["_law_state","_law_cells"] (yc zdr):=by nofun
noncomputable abbrev zbO:Stmt:=top 70
theorem ydb:yq ["_law_script","_law_state","_law_w","_law_wide","_law_cells","_law_machine","_law_kept_here","_law_spot","_law_mark","_law_bad_here","_law_right","_law_at","_law_among","_law_turn","_law_strange_here","_law_letter_here","_law_place","_law_word","_law_due"] ["_law_script"] (yc zbO):=by nofun
theorem zjE:yh ["w"] (yc zcF):=by unfold yh;decide +kernel
theorem zb1:yh ["thing","low","high"] (yc zbc):=by unfold yh;decide +kernel
abbrev GI (s:Stmt)(x:String):Prop:=(yc s).names.lookup (Str.ofString x)=some .globalImplicit
theorem zfb:GI zbc "bool":=by trivial
theorem zf4:GI zbc "int":=by trivial
theorem zby:GI zbc "isinstance":=by trivial
theorem zdy:yh ["thing"] (yc zaW):=by unfold yh;decide +kernel
theorem zcZ:GI zaW "isinstance":=by trivial
theorem ze9:GI zaW "len":=by trivial
theorem ze7:GI zaW "str":=by trivial
theorem zkb:yh ["thing"] (yc zc3):=by unfold yh;decide +kernel
theorem zeh:GI zc3 "has_form":=by trivial
theorem zak:yh ["thing","told","kind","operand"] (yc zaI):=by unfold yh;decide +kernel
theorem zc6:GI zaI "ROWS":=by trivial
theorem zdU:GI zaI "is_named":=by trivial
theorem zdd:GI zaI "is_operand":=by trivial
theorem zdk:GI zaI "len":=by trivial
theorem zfY:GI zaI "zip":=by trivial
theorem zc0:yh ["thing"] (yc zaM):=by unfold yh;decide +kernel
theorem ze8:GI zaM "ROWS":=by trivial
theorem zbz:GI zaM "isinstance":=by trivial
theorem zf2:GI zaM "len":=by trivial
theorem zfr:GI zaM "str":=by trivial
theorem zeM:GI zaM "tuple":=by trivial
theorem zbS:yh ["kind","thing","told"] (yc zaQ):=by unfold yh;decide +kernel
theorem zdw:GI zaQ "is_cell":=by trivial
theorem zdc:GI zaQ "is_whole":=by trivial
theorem zgq:yh ["thing"] (yc zbK):=by unfold yh;decide +kernel
theorem zc9:GI zbK "is_lettered":=by trivial
theorem zd0:GI zbK "is_whole":=by trivial
theorem zcC:yh ["thing"] (yc zan):=by unfold yh;decide +kernel
theorem zcN:GI zan "is_letter":=by trivial
theorem zcA:GI zan "isinstance":=by trivial
theorem zek:GI zan "len":=by trivial
theorem zdV:GI zan "tuple":=by trivial
theorem zaU:yh ["self","w"] (yc zK):=by unfold yh;decide +kernel
theorem zal:yh ["self","letter","at","word","cell"] (yc zR):=by unfold yh;decide +kernel
theorem zdo:GI zR "NoWord":=by trivial
theorem zde:GI zR "highest":=by trivial
theorem zc1:GI zR "is_whole":=by trivial
theorem zcx:GI zR "known_cell":=by trivial
theorem zb0:yh ["self","letter","at"] (yc zZ):=by unfold yh;decide +kernel
theorem zce:GI zZ "known_cell":=by trivial
theorem zfC:yh ["self"] (yc z6):=by unfold yh;decide +kernel
theorem zcV:yh ["self","row"] (yc zag):=by unfold yh;decide +kernel
theorem zcO:GI zag "refuse_row":=by trivial
theorem zcz:yh ["self","rows","row"] (yc z8):=by unfold yh;decide +kernel
theorem zcD:GI z8 "refuse_row":=by trivial
theorem zcg:yh ["self","cell"] (yc zN):=by unfold yh;decide +kernel
theorem zbA:yh ["self","row"] (yc zS):=by unfold yh;decide +kernel
theorem zbR:yh ["letter","at"] (yc zaS):=by unfold yh;decide +kernel
theorem zdW:GI zaS "NoCell":=by trivial
theorem zdC:GI zaS "is_cell":=by trivial
theorem zg8:yh ["thing"] (yc zaO):=by unfold yh;decide +kernel
theorem zed:GI zaO "NoRow":=by trivial
theorem zdR:GI zaO "is_row":=by trivial
theorem zkg:yh ["_law_script"] (yc zdJ):=by unfold yh;decide +kernel
theorem zP:yh ["_law_seed","_law_primes","_law_number","_law_k","_law_prime","_law_far","_law_square","_law_power"] (yc zcR):=by unfold yh;decide +kernel
theorem zd3:GI zcR "enumerate":=by trivial
theorem zX:yh ["_law_state","_law_cells","_law_at","_law_seed"] (yc zdz):=by unfold yh;decide +kernel
theorem zfL:GI zdz "_law_mixed":=by trivial
theorem zcf:GI zdz "len":=by trivial
theorem zac:yh ["_law_state","_law_many","_law_turns","_law_digit"] (yc zd8):=by unfold yh;decide +kernel
theorem zgc:GI zd8 "_law_fill":=by trivial
theorem zbX:yh ["_law_many","_law_found","_law_k"] (yc zca):=by unfold yh;decide +kernel
theorem zfa:GI zca "range":=by trivial
theorem zhw:yh ["_law_thing"] (yc zbU):=by unfold yh;decide +kernel
theorem zf8:GI zbU "bool":=by trivial
theorem zg0:GI zbU "int":=by trivial
theorem zbQ:GI zbU "isinstance":=by trivial
theorem zeJ:yh ["_law_thing"] (yc zbv):=by unfold yh;decide +kernel
theorem zdg:GI zbv "isinstance":=by trivial
theorem zf7:GI zbv "len":=by trivial
theorem zga:GI zbv "str":=by trivial
theorem zf3:yh ["_law_state"] (yc zaE):=by unfold yh;decide +kernel
theorem zdp:GI zaE "_law_take":=by trivial
theorem zbV:yh ["_law_state"] (yc zaR):=by unfold yh;decide +kernel
theorem zcd:GI zaR "_law_some_letter":=by trivial
theorem zbg:GI zaR "_law_take":=by trivial
theorem zaC:yh ["_law_state","_law_wide","_law_any_one"] (yc za4):=by unfold yh;decide +kernel
theorem zbY:GI za4 "_law_take":=by trivial
theorem zt:yh ["_law_state","_law_cells","_law_kinds","_law_kind_here","_law_digit","_law_some"] (yc zaX):=by unfold yh;decide +kernel
theorem zco:GI zaX "_law_take":=by trivial
theorem zej:GI zaX "range":=by trivial
theorem zQ:yh ["_law_state","_law_many","_law_cells","_law_k","_law_spot"] (yc zas):=by unfold yh;decide +kernel
theorem zcB:GI zas "_law_some_cell":=by trivial
theorem zeg:GI zas "len":=by trivial
theorem zdS:GI zas "range":=by trivial
theorem zbZ:yh ["_law_thing"] (yc zaL):=by unfold yh;decide +kernel
theorem zd4:GI zaL "_law_letter":=by trivial
theorem zew:GI zaL "_law_whole":=by trivial
theorem zdb:GI zaL "isinstance":=by trivial
theorem zfR:GI zaL "len":=by trivial
theorem zeU:GI zaL "tuple":=by trivial
theorem zM:yh ["_law_row","_law_lengths"] (yc zaA):=by unfold yh;decide +kernel
theorem zb3:GI zaA "_law_is_cell":=by trivial
theorem zcK:GI zaA "_law_whole":=by trivial
theorem zf9:GI zaA "all":=by trivial
theorem zbL:GI zaA "isinstance":=by trivial
theorem zbe:GI zaA "len":=by trivial
theorem zgf:GI zaA "str":=by trivial
theorem zfd:GI zaA "tuple":=by trivial
theorem zC:yh ["_law_state","_law_letter_here","_law_great","_law_some"] (yc za9):=by unfold yh;decide +kernel
theorem zcJ:GI za9 "_law_some_letter":=by trivial
theorem zbE:GI za9 "_law_take":=by trivial
theorem zfu:GI za9 "len":=by trivial
theorem zn:yh ["_law_state","_law_told","_law_way","_law_at","_law_strange_here","_law_here","_law_other","_law_row"] (yc zT):=by unfold yh;decide +kernel
theorem zcE:GI zT "_law_strange":=by trivial
theorem za0:GI zT "_law_take":=by trivial
theorem zaH:GI zT "len":=by trivial
theorem zdx:GI zT "list":=by trivial
theorem zdQ:GI zT "min":=by trivial
theorem zda:GI zT "tuple":=by trivial
theorem zq:yh ["_law_state","_law_row","_law_way","_law_at","_law_word","_law_place"] (yc z7):=by unfold yh;decide +kernel
theorem zb9:GI z7 "_law_some_letter":=by trivial
theorem za2:GI z7 "_law_spoilt_tuple":=by trivial
theorem zaF:GI z7 "_law_take":=by trivial
theorem zcw:GI z7 "isinstance":=by trivial
theorem zci:GI z7 "len":=by trivial
theorem zdT:GI z7 "tuple":=by trivial
theorem zad:yh ["_law_e","_law_kinds","_law_far"] (yc zaz):=by unfold yh;decide +kernel
theorem zdA:GI zaz "NoCell":=by trivial
theorem zdh:GI zaz "NoDeed":=by trivial
theorem zdY:GI zaz "NoFit":=by trivial
theorem zdn:GI zaz "NoLine":=by trivial
theorem zdi:GI zaz "NoName":=by trivial
theorem zdB:GI zaz "NoPair":=by trivial
theorem zb8:GI zaz "NoQuotient":=by trivial
theorem zdX:GI zaz "NoRow":=by trivial
theorem zcl:GI zaz "NoTelling":=by trivial
theorem zdm:GI zaz "NoText":=by trivial
theorem zdv:GI zaz "NoUndo":=by trivial
theorem zc5:GI zaz "NoWidth":=by trivial
theorem zdq:GI zaz "NoWord":=by trivial
theorem zc7:GI zaz "TooMany":=by trivial
theorem zb4:GI zaz "ValueError":=by trivial
theorem zF:GI zaz "isinstance":=by trivial
theorem zae:yh ["_law_machine","_law_way","_law_thing","_law_kind_here","_law_e"] (yc zcm):=by unfold yh;decide +kernel
theorem zd9:GI zcm "WordError":=by trivial
theorem zfv:GI zcm "_law_kind":=by trivial
theorem zft:yh ["_law_machine","_law_cells","_law_kept_here","_law_mark"] (yc zcu):=by unfold yh;decide +kernel
theorem zhb:GI zcu "all":=by trivial
theorem zb5:yh ["_law_letter_here","_law_at","_law_word","_law_wide"] (yc zbh):=by unfold yh;decide +kernel
theorem zdP:GI zbh "_law_is_cell":=by trivial
theorem zee:GI zbh "_law_whole":=by trivial
theorem zcb:yh ["_law_state","_law_cells","_law_way","_law_row"] (yc zdr):=by unfold yh;decide +kernel
theorem zeI:GI zdr "_law_some_row":=by trivial
theorem zea:GI zdr "_law_spoilt_row":=by trivial
theorem zfe:GI zdr "_law_strange":=by trivial
theorem zgU:GI zdr "_law_take":=by trivial
theorem zht:GI zdr "list":=by trivial
theorem zA:yh ["_law_script","_law_state","_law_w","_law_wide","_law_cells","_law_machine","_law_kept_here","_law_spot","_law_mark","_law_bad_here","_law_right","_law_at","_law_among","_law_turn","_law_strange_here","_law_letter_here","_law_place","_law_word","_law_due"] (yc zbO):=by unfold yh;decide +kernel
theorem zgh:GI zbO "Machine":=by trivial
theorem zbu:GI zbO "_law_asked":=by trivial
theorem zis:GI zbO "_law_bad":=by trivial
theorem zgH:GI zbO "_law_fresh":=by trivial
theorem zfS:GI zbO "_law_is_cell":=by trivial
theorem zgb:GI zbO "_law_is_row":=by trivial
theorem zfX:GI zbO "_law_put_due":=by trivial
theorem zeD:GI zbO "_law_some_cells":=by trivial
theorem zeR:GI zbO "_law_some_word":=by trivial
theorem zeG:GI zbO "_law_stays":=by trivial
theorem zdu:GI zbO "_law_strange":=by trivial
theorem zaP:GI zbO "_law_take":=by trivial
theorem zgg:GI zbO "_law_two_to":=by trivial
theorem zjJ:GI zbO "int":=by trivial
theorem zgs:GI zbO "len":=by trivial
theorem ze0:GI zbO "range":=by trivial
theorem zhN:GI zbO "tuple":=by trivial
noncomputable def pss:Nat->Option (List Str)
 |0=>some ["w"]
 |1=>some ["thing","low","high"]
 |2=>some ["thing"]
 |3=>some ["thing"]
 |4=>some ["thing","told"]
 |5=>some ["thing"]
 |6=>some ["kind","thing","told"]
 |7=>some ["thing"]
 |8=>some ["thing"]
 |9=>some ["self","w"]
 |10=>some ["self","letter","at","word"]
 |11=>some ["self","letter","at"]
 |12=>some ["self"]
 |13=>some ["self","row"]
 |14=>some ["self","rows"]
 |15=>some ["self","cell"]
 |16=>some ["self","row"]
 |17=>some ["letter","at"]
 |18=>some ["thing"]
 |19=>some ["_law_script"]
 |20=>some ["_law_seed"]
 |21=>some ["_law_state"]
 |22=>some ["_law_state","_law_many"]
 |23=>some ["_law_many"]
 |24=>some ["_law_thing"]
 |25=>some ["_law_thing"]
 |26=>some ["_law_state"]
 |27=>some ["_law_state"]
 |28=>some ["_law_state","_law_wide"]
 |29=>some ["_law_state","_law_cells"]
 |30=>some ["_law_state","_law_many"]
 |31=>some ["_law_thing"]
 |32=>some ["_law_row"]
 |33=>some ["_law_state"]
 |34=>some ["_law_state","_law_told"]
 |35=>some ["_law_state","_law_row"]
 |36=>some ["_law_e"]
 |37=>some ["_law_machine","_law_way","_law_thing"]
 |38=>some ["_law_machine","_law_cells","_law_kept_here","_law_mark"]
 |39=>some ["_law_letter_here","_law_at","_law_word","_law_wide"]
 |40=>some ["_law_state","_law_cells"]
 |41=>some ["_law_script"]
 |_=>none
structure Facts (w:World)(K:PySem.W.Frag)(mg:Str->Option Value)(cl:Nat->Addr)(fa:Nat->Addr)(fdd:Nat->FuncData):Prop where
 F0:Fn K mg "highest" zcF ["w"] (fa 0) (fdd 0)
 F1:Fn K mg "is_whole" zbc ["thing","low","high"] (fa 1) (fdd 1)
 F2:Fn K mg "is_letter" zaW ["thing"] (fa 2) (fdd 2)
 F3:Fn K mg "is_row" zc3 ["thing"] (fa 3) (fdd 3)
 F4:Fn K mg "has_form" zaI ["thing","told"] (fa 4) (fdd 4)
 F5:Fn K mg "is_named" zaM ["thing"] (fa 5) (fdd 5)
 F6:Fn K mg "is_operand" zaQ ["kind","thing","told"] (fa 6) (fdd 6)
 F7:Fn K mg "is_cell" zbK ["thing"] (fa 7) (fdd 7)
 F8:Fn K mg "is_lettered" zan ["thing"] (fa 8) (fdd 8)
 F9:FnM K "__init__" "Machine.__init__" zK ["self","w"] (fa 9) (fdd 9)
 K20:Mk K (cl 20) (fa 9)
 F10:FnM K "put" "Machine.put" zR ["self","letter","at","word"] (fa 10) (fdd 10)
 M10:Meth K (cl 20) "put" (fa 10)
 F11:FnM K "word" "Machine.word" zZ ["self","letter","at"] (fa 11) (fdd 11)
 M11:Meth K (cl 20) "word" (fa 11)
 F12:FnM K "mark" "Machine.mark" z6 ["self"] (fa 12) (fdd 12)
 M12:Meth K (cl 20) "mark" (fa 12)
 F13:FnM K "do" "Machine.do" zag ["self","row"] (fa 13) (fdd 13)
 M13:Meth K (cl 20) "do" (fa 13)
 F14:FnM K "run" "Machine.run" z8 ["self","rows"] (fa 14) (fdd 14)
 M14:Meth K (cl 20) "run" (fa 14)
 F15:FnM K "held_in" "Machine.held_in" zN ["self","cell"] (fa 15) (fdd 15)
 M15:Meth K (cl 20) "held_in" (fa 15)
 F16:FnM K "go_row" "Machine.go_row" zS ["self","row"] (fa 16) (fdd 16)
 M16:Meth K (cl 20) "go_row" (fa 16)
 F17:Fn K mg "known_cell" zaS ["letter","at"] (fa 17) (fdd 17)
 F18:Fn K mg "refuse_row" zaO ["thing"] (fa 18) (fdd 18)
 F19:Fn K mg "_law_fresh" zdJ ["_law_script"] (fa 19) (fdd 19)
 F20:Fn K mg "_law_mixed" zcR ["_law_seed"] (fa 20) (fdd 20)
 F21:Fn K mg "_law_fill" zdz ["_law_state"] (fa 21) (fdd 21)
 F22:Fn K mg "_law_take" zd8 ["_law_state","_law_many"] (fa 22) (fdd 22)
 F23:Fn K mg "_law_two_to" zca ["_law_many"] (fa 23) (fdd 23)
 F24:Fn K mg "_law_whole" zbU ["_law_thing"] (fa 24) (fdd 24)
 F25:Fn K mg "_law_letter" zbv ["_law_thing"] (fa 25) (fdd 25)
 F26:Fn K mg "_law_some_letter" zaE ["_law_state"] (fa 26) (fdd 26)
 F27:Fn K mg "_law_some_cell" zaR ["_law_state"] (fa 27) (fdd 27)
 F28:Fn K mg "_law_some_word" za4 ["_law_state","_law_wide"] (fa 28) (fdd 28)
 F29:Fn K mg "_law_some_row" zaX ["_law_state","_law_cells"] (fa 29) (fdd 29)
 F30:Fn K mg "_law_some_cells" zas ["_law_state","_law_many"] (fa 30) (fdd 30)
 F31:Fn K mg "_law_is_cell" zaL ["_law_thing"] (fa 31) (fdd 31)
 F32:Fn K mg "_law_is_row" zaA ["_law_row"] (fa 32) (fdd 32)
 F33:Fn K mg "_law_strange" za9 ["_law_state"] (fa 33) (fdd 33)
 F34:Fn K mg "_law_spoilt_tuple" zT ["_law_state","_law_told"] (fa 34) (fdd 34)
 F35:Fn K mg "_law_spoilt_row" z7 ["_law_state","_law_row"] (fa 35) (fdd 35)
 F36:Fn K mg "_law_kind" zaz ["_law_e"] (fa 36) (fdd 36)
 F37:Fn K mg "_law_asked" zcm ["_law_machine","_law_way","_law_thing"] (fa 37) (fdd 37)
 F38:Fn K mg "_law_stays" zcu ["_law_machine","_law_cells","_law_kept_here","_law_mark"] (fa 38) (fdd 38)
 F39:Fn K mg "_law_put_due" zbh ["_law_letter_here","_law_at","_law_word","_law_wide"] (fa 39) (fdd 39)
 F40:Fn K mg "_law_bad" zdr ["_law_state","_law_cells"] (fa 40) (fdd 40)
 F41:Fn K mg "law" zbO ["_law_script"] (fa 41) (fdd 41)
 z_ValueError:mg "ValueError"=none
 z_all:mg "all"=none
 z_bool:mg "bool"=none
 z_enumerate:mg "enumerate"=none
 z_int:mg "int"=none
 z_isinstance:mg "isinstance"=none
 z_len:mg "len"=none
 z_list:mg "list"=none
 z_min:mg "min"=none
 z_range:mg "range"=none
 z_str:mg "str"=none
 z_tuple:mg "tuple"=none
 z_zip:mg "zip"=none
 k_bool:ycV K .bool
 k_int:ycV K .int
 k_str:ycV K .str
 k_tuple:ycV K .tuple
 d_ROWS:GD K w mg cl "ROWS" d_ROWS
 L20:Cls K (cl 20)
 n_20:mg "Machine"=some (.ref (cl 20))
 A20_marked:yal K (cl 20) "marked"
 A20_w:yal K (cl 20) "w"
 A20_words:yal K (cl 20) "words"
 n_0:mg "NoFit"=some (.ref (cl 0))
 n_1:mg "NoText"=some (.ref (cl 1))
 n_2:mg "NoCell"=some (.ref (cl 2))
 n_3:mg "NoWord"=some (.ref (cl 3))
 n_4:mg "NoRow"=some (.ref (cl 4))
 n_5:mg "NoTelling"=some (.ref (cl 5))
 n_6:mg "NoDeed"=some (.ref (cl 6))
 n_7:mg "NoQuotient"=some (.ref (cl 7))
 n_8:mg "TooMany"=some (.ref (cl 8))
 n_9:mg "NoLine"=some (.ref (cl 9))
 n_10:mg "NoName"=some (.ref (cl 10))
 n_11:mg "NoWidth"=some (.ref (cl 11))
 n_12:mg "NoPair"=some (.ref (cl 12))
 n_13:mg "NoUndo"=some (.ref (cl 13))
 n_14:mg "WordError"=some (.ref (cl 14))
 r_2:ybz K mg (cl 2) "NoCell"
 t_2:PySem.W.exmOne K (.ref (cl 2)) (.ref (cl 14))=some true
 x_2:ybC K (cl 2)
 i_2_0:yR K cl 2 (.cls 0)
 i_2_1:yR K cl 2 (.cls 1)
 i_2_2:yR K cl 2 (.cls 2)
 i_2_3:yR K cl 2 (.cls 3)
 i_2_4:yR K cl 2 (.cls 4)
 i_2_5:yR K cl 2 (.cls 5)
 i_2_6:yR K cl 2 (.cls 6)
 i_2_7:yR K cl 2 (.cls 7)
 i_2_8:yR K cl 2 (.cls 8)
 i_2_9:yR K cl 2 (.cls 9)
 i_2_10:yR K cl 2 (.cls 10)
 i_2_11:yR K cl 2 (.cls 11)
 i_2_12:yR K cl 2 (.cls 12)
 i_2_13:yR K cl 2 (.cls 13)
 i_2_v:yR K cl 2 .val
 r_3:ybz K mg (cl 3) "NoWord"
 t_3:PySem.W.exmOne K (.ref (cl 3)) (.ref (cl 14))=some true
 x_3:ybC K (cl 3)
 i_3_0:yR K cl 3 (.cls 0)
 i_3_1:yR K cl 3 (.cls 1)
 i_3_2:yR K cl 3 (.cls 2)
 i_3_3:yR K cl 3 (.cls 3)
 i_3_4:yR K cl 3 (.cls 4)
 i_3_5:yR K cl 3 (.cls 5)
 i_3_6:yR K cl 3 (.cls 6)
 i_3_7:yR K cl 3 (.cls 7)
 i_3_8:yR K cl 3 (.cls 8)
 i_3_9:yR K cl 3 (.cls 9)
 i_3_10:yR K cl 3 (.cls 10)
 i_3_11:yR K cl 3 (.cls 11)
 i_3_12:yR K cl 3 (.cls 12)
 i_3_13:yR K cl 3 (.cls 13)
 i_3_v:yR K cl 3 .val
 r_4:ybz K mg (cl 4) "NoRow"
 t_4:PySem.W.exmOne K (.ref (cl 4)) (.ref (cl 14))=some true
 x_4:ybC K (cl 4)
 i_4_0:yR K cl 4 (.cls 0)
 i_4_1:yR K cl 4 (.cls 1)
 i_4_2:yR K cl 4 (.cls 2)
 i_4_3:yR K cl 4 (.cls 3)
 i_4_4:yR K cl 4 (.cls 4)
 i_4_5:yR K cl 4 (.cls 5)
 i_4_6:yR K cl 4 (.cls 6)
 i_4_7:yR K cl 4 (.cls 7)
 i_4_8:yR K cl 4 (.cls 8)
 i_4_9:yR K cl 4 (.cls 9)
 i_4_10:yR K cl 4 (.cls 10)
 i_4_11:yR K cl 4 (.cls 11)
 i_4_12:yR K cl 4 (.cls 12)
 i_4_13:yR K cl 4 (.cls 13)
 i_4_v:yR K cl 4 .val
def Fns (P:Program)(w:World)(K:PySem.W.Frag)(mg:Str->Option Value)(base:Heap)(cl:Nat->Addr)(fa:Nat->Addr)(fdd:Nat->FuncData)(k:Nat):Prop:=∀i ps,pss i=some ps->yaE P w K mg base (CX1 P w) (2*k) (fa i) (fdd i) ps (spI K cl (yd T k) i)
section
variable {P:Program}{w:World}{K:PySem.W.Frag}{mg:Str->Option Value}{base:Heap}{cl:Nat->Addr}{fa:Nat->Addr}{fdd:Nat->FuncData}{k:Nat}
theorem zlr (Z:Facts w K mg cl fa fdd):∀k,ybO P w K mg base (2*k) (fa 36) (fdd 36) ["_law_e"] (spI K cl (yd T k) 36)
 |0=>zmB
 |k+1=>zmb (m:=2*k+1) (fn:=zdZ) rfl Z.F36.F ya0 rfl rfl rfl fun cdv A outer s H hr=>have nd:=ya0.nd;have hu1:=hr.units1;(zd (zz (i:=1) nd rfl (lcF (i:=1) zad rfl) (zdl (zc (zcp (all_cons ⟨Z.x_2,Z.i_2_4⟩ (all_cons ⟨Z.x_3,Z.i_3_4⟩ (all_cons ⟨Z.x_4,Z.i_4_4⟩ all_nil))) zF Z.z_isinstance (zY zdX Z.n_4) (zk zad 0)) (zc (zcp (all_cons ⟨Z.x_2,Z.i_2_2⟩ (all_cons ⟨Z.x_3,Z.i_3_2⟩ (all_cons ⟨Z.x_4,Z.i_4_2⟩ all_nil))) zF Z.z_isinstance (zY zdA Z.n_2) (zk zad 0)) (zc (zcp (all_cons ⟨Z.x_2,Z.i_2_3⟩ (all_cons ⟨Z.x_3,Z.i_3_3⟩ (all_cons ⟨Z.x_4,Z.i_4_3⟩ all_nil))) zF Z.z_isinstance (zY zdq Z.n_3) (zk zad 0)) zj))))) (zd (zz (i:=2) nd rfl (lcF (i:=2) zad rfl) (zen (all_cons ⟨Z.x_2,(zu Z.i_2_0 (zu Z.i_2_5 (zu Z.i_2_1 (zu Z.i_2_6 (zu Z.i_2_7 (zu Z.i_2_8 zbN))))))⟩ (all_cons ⟨Z.x_3,(zu Z.i_3_0 (zu Z.i_3_5 (zu Z.i_3_1 (zu Z.i_3_6 (zu Z.i_3_7 (zu Z.i_3_8 zbN))))))⟩ (all_cons ⟨Z.x_4,(zu Z.i_4_0 (zu Z.i_4_5 (zu Z.i_4_1 (zu Z.i_4_6 (zu Z.i_4_7 (zu Z.i_4_8 zbN))))))⟩ all_nil))) (by decide) zF Z.z_isinstance (z4 (zY zdY Z.n_0) (z4 (zY zcl Z.n_5) (z4 (zY zdm Z.n_1) (z4 (zY zdh Z.n_6) (z4 (zY zb8 Z.n_7) (z4 (zY zc7 Z.n_8) zfn)))))) (zk zad 0))) (zd (zao (zc4 (zk zad 1) (zfG (zk zad 2) (zaG (zen (all_cons ⟨Z.x_2,(zu Z.i_2_9 (zu Z.i_2_10 (zu Z.i_2_11 (zu Z.i_2_12 (zu Z.i_2_13 zbN)))))⟩ (all_cons ⟨Z.x_3,(zu Z.i_3_9 (zu Z.i_3_10 (zu Z.i_3_11 (zu Z.i_3_12 (zu Z.i_3_13 zbN)))))⟩ (all_cons ⟨Z.x_4,(zu Z.i_4_9 (zu Z.i_4_10 (zu Z.i_4_11 (zu Z.i_4_12 (zu Z.i_4_13 zbN)))))⟩ all_nil))) (by decide) zF Z.z_isinstance (z4 (zY zdn Z.n_9) (z4 (zY zdi Z.n_10) (z4 (zY zc5 Z.n_11) (z4 (zY zdB Z.n_12) (z4 (zY zdv Z.n_13) zfn))))) (zk zad 0)))))) (zd (zG (za5 (zbP (zD (zd1 hr.units) (zgz (zk zad 1) zbo) zh (yt _)) (zbG (zax (zai (zcp (all_cons ⟨Z.x_2,Z.i_2_v⟩ (all_cons ⟨Z.x_3,Z.i_3_v⟩ (all_cons ⟨Z.x_4,Z.i_4_v⟩ all_nil))) zF Z.z_isinstance (zi3 zb4 Z.z_ValueError) (zk zad 0))))))) (zd zbd zl) zl) (zd (zy (zp (zB (zc zx (zc zx (zc zx (zc zx zj))))) (zgr (zk zad 1) zbo))) zl)))))
abbrev BD (P:Program)(w:World)(K:PySem.W.Frag)(mg:Str->Option Value)(base:Heap)(cl fa:Nat->Addr)(fdd:Nat->FuncData)(k i:Nat)(ps:List Str):=yaE P w K mg base (CX1 P w) (2*k+1+1) (fa i) (fdd i) ps (spI K cl (yd T (k+1)) i)
variable (Z:Facts w K mg cl fa fdd)(C:Fns P w K mg base cl fa fdd k)
include Z C
theorem zjL:BD P w K mg base cl fa fdd k 0 ["w"]:=
 yQ (fn:=zeu) rfl Z.F0.F ybH rfl rfl fun _ _ _ _ _ _ hr1 hr nd hu1=>(zd (zy (zr ziQ (zr zpd zh (zk zjE 0)) zh)) zl)
theorem zh8:BD P w K mg base cl fa fdd k 1 ["thing","low","high"]:=
 yQ (fn:=zaZ) rfl Z.F1.F ybk rfl rfl fun _ _ _ _ _ _ hr1 hr nd hu1=>(zd (zy (zap (zba (t:=.int) Z.k_int rfl zby Z.z_isinstance zf4 Z.z_int zkP (zk zb1 0)) (zap (zg4 (zba (t:=.bool) Z.k_bool rfl zby Z.z_isinstance zfb Z.z_bool zlh (zk zb1 0))) (zaG (zeW zik zik (zk zb1 1) (zk zb1 0) (zk zb1 2)))))) zl)
theorem zhA:BD P w K mg base cl fa fdd k 2 ["thing"]:=
 yQ (fn:=zar) rfl Z.F2.F ybc rfl rfl fun _ _ _ _ _ _ hr1 hr nd hu1=>(zd (zy (zap (zba (t:=.str) Z.k_str rfl zcZ Z.z_isinstance ze7 Z.z_str ziJ (zk zdy 0)) (zap (zay (za6 hr.units) (zV zaJ ze9 Z.z_len zaK (zc (zk zdy 0) zj)) zh (yt _)) (zaG (zeW zik zik zx (zk zdy 0) zx))))) zl)
theorem zj8:BD P w K mg base cl fa fdd k 3 ["thing"]:=
 yQ (fn:=zfj) rfl Z.F3.F ybZ rfl rfl fun _ _ _ _ _ _ hr1 hr nd hu1=>(zd (zy (zo (C 4 _ rfl) hr zeh Z.F4.m Z.F4.F.kp Z.F4.b (zc (zk zkb 0) (zc zbo zj)))) zl)
theorem zid:BD P w K mg base cl fa fdd k 4 ["thing","told"]:=
 yQ (fn:=yE) rfl Z.F4.F ybo rfl rfl fun _ _ _ _ _ _ hr1 hr nd hu1=>(zd (zG (za5 (zbP (zax (zai (zo (C 5 _ rfl) hr zdU Z.F5.m Z.F5.F.kp Z.F5.b (zc (zk zak 0) zj)))) (zbG (zD (zd1 hr.units) (zV zaJ zdk Z.z_len zaK (zc (zk zak 0) zj)) (zr zah (zV zaJ zdk Z.z_len zaK (zc (ziL zc6 Z.d_ROWS (zp (zk zak 0) zh)) zj)) zh) (yt _))))) (zd (zy zbo) zl) zl) (zd (zcT own1 rfl (zlE zfY Z.z_zip (ziL zc6 Z.d_ROWS (zp (zk zak 0) zh)) (zaq (zk zak 0) (zab zh) z9)) (zg5 rfl (zbW (i:=2) nd rfl (lcF (i:=2) zak rfl) (zbW (i:=3) nd rfl (lcF (i:=3) zak rfl) zfy))) (zd (zG (zax (zai (zo (C 6 _ rfl) hr zdd Z.F6.m Z.F6.F.kp Z.F6.b (zc (zk zak 2) (zc (zk zak 3) (zc (zk zak 1) zj)))))) (zd (zy zbo) zl) zl) zl)) (zd (zy (zfG (zay (zd1 hr.units) (zp (zk zak 0) zh) zx (yt _)) (zaG (zay (zd1 hr.units) (zp (zk zak 0) zh) (zp (zk zak 0) zh) (yt _))))) zl)))
theorem zij:BD P w K mg base cl fa fdd k 5 ["thing"]:=
 yQ (fn:=zbB) rfl Z.F5.F ybp rfl rfl fun _ _ _ _ _ _ hr1 hr nd hu1=>(zd (zy (zap (zba (t:=.tuple) Z.k_tuple rfl zbz Z.z_isinstance zeM Z.z_tuple zcX (zk zc0 0)) (zap (zay zob (zV zaJ zf2 Z.z_len zaK (zc (zk zc0 0) zj)) zh (yt _)) (zap (zba (t:=.str) Z.k_str rfl zbz Z.z_isinstance zfr Z.z_str ziJ (zp (zk zc0 0) zh)) (zaG (zmn ze8 Z.d_ROWS (zp (zk zc0 0) zh))))))) zl)
theorem zhc:BD P w K mg base cl fa fdd k 6 ["kind","thing","told"]:=
 yQ (fn:=zbM) rfl Z.F6.F ya3 rfl rfl fun _ _ _ _ _ _ hr1 hr nd hu1=>(zd (zG (zD (za6 hr.units) (zk zbS 0) zx (yt _)) (zd (zy (zo (C 1 _ rfl) hr zdc Z.F1.m Z.F1.F.kp Z.F1.b (zc (zk zbS 1) (zc zh (zc zh zj))))) zl) zl) (zd (zy (zlz (zai (zk zbS 2)) zjX (zo (C 7 _ rfl) hr zdw Z.F7.m Z.F7.F.kp Z.F7.b (zc (zk zbS 1) zj)))) zl))
theorem zjM:BD P w K mg base cl fa fdd k 7 ["thing"]:=
 yQ (fn:=zcL) rfl Z.F7.F ybK rfl rfl fun _ _ _ _ _ _ hr1 hr nd hu1=>(zd (zy (zap (zo (C 8 _ rfl) hr zc9 Z.F8.m Z.F8.F.kp Z.F8.b (zc (zk zgq 0) zj)) (zaG (zo (C 1 _ rfl) hr zd0 Z.F1.m Z.F1.F.kp Z.F1.b (zc (zp (zk zgq 0) zh) (zc zh (zc zh zj))))))) zl)
theorem zge:BD P w K mg base cl fa fdd k 8 ["thing"]:=
 yQ (fn:=zbb) rfl Z.F8.F yaT rfl rfl fun _ _ _ _ _ _ hr1 hr nd hu1=>(zd (zy (zap (zba (t:=.tuple) Z.k_tuple rfl zcA Z.z_isinstance zdV Z.z_tuple zcX (zk zcC 0)) (zap (zay (za6 hr.units) (zV zaJ zek Z.z_len zaK (zc (zk zcC 0) zj)) zh (yt _)) (zaG (zo (C 2 _ rfl) hr zcN Z.F2.m Z.F2.F.kp Z.F2.b (zc (zp (zk zcC 0) zh) zj)))))) zl)
theorem zeb:BD P w K mg base cl fa fdd k 9 ["self","w"]:=
 yQ (fn:=za1) rfl Z.F9.F yaq rfl rfl fun _ _ _ _ _ _ hr1 hr nd hu1=>(zd (zfk Z.L20 Z.A20_w (zk zaU 0) (zk zaU 1)) (zd (zfk Z.L20 Z.A20_words (zk zaU 0) zfP) (zd (zfk Z.L20 Z.A20_marked (zk zaU 0) zh) zl)))
theorem zgi:BD P w K mg base cl fa fdd k 10 ["self","letter","at","word"]:=
 yQ (fn:=zaB) rfl Z.F10.F yaV rfl rfl fun _ _ _ _ _ _ hr1 hr nd hu1=>(zd (zz (i:=4) nd rfl (lcF (i:=4) zal rfl) (zo (C 17 _ rfl) hr zcx Z.F17.m Z.F17.F.kp Z.F17.b (zc (zk zal 1) (zc (zk zal 2) zj)))) (zd (zG (zax (zai (zo (C 1 _ rfl) hr zc1 Z.F1.m Z.F1.F.kp Z.F1.b (zc (zk zal 3) (zc zh (zc (zo (C 0 _ rfl) hr zde Z.F0.m Z.F0.F.kp Z.F0.b (zc (zes Z.L20 Z.A20_w (zk zal 0)) zj)) zj)))))) (zd (zeN Z.r_3 rfl rfl zdo (zmG (zhl zlG (zhl (zl6 (zes Z.L20 Z.A20_w (zk zal 0))) zo5)))) zl) zl) (zd (zfE hu1 (zes Z.L20 Z.A20_words (zk zal 0)) (zk zal 4) (zk zal 3)) zl)))
theorem zfZ:BD P w K mg base cl fa fdd k 11 ["self","letter","at"]:=
 yQ (fn:=zav) rfl Z.F11.F yaM rfl rfl fun _ _ _ _ _ _ hr1 hr nd hu1=>(zd (zy (zbT Z.L20 Z.M15 (C 15 _ rfl) hr Z.F15.b (zk zb0 0) (zc (zo (C 17 _ rfl) hr zce Z.F17.m Z.F17.F.kp Z.F17.b (zc (zk zb0 1) (zc (zk zb0 2) zj))) zj))) zl)
theorem zfq:BD P w K mg base cl fa fdd k 12 ["self"]:=
 yQ (fn:=zbJ) rfl Z.F12.F yaN rfl rfl fun _ _ _ _ _ _ hr1 hr nd hu1=>(zd (zy (zes Z.L20 Z.A20_marked (zk zfC 0))) zl)
theorem zg9:BD P w K mg base cl fa fdd k 13 ["self","row"]:=
 yQ (fn:=zbk) rfl Z.F13.F ya5 rfl rfl fun _ _ _ _ _ _ hr1 hr nd hu1=>(zd (zao (zo (C 18 _ rfl) hr zcO Z.F18.m Z.F18.F.kp Z.F18.b (zc (zk zcV 1) zj))) (zd (zao (zbT Z.L20 Z.M16 (C 16 _ rfl) hr Z.F16.b (zk zcV 0) (zc (zk zcV 1) zj))) zl))
theorem zgj:BD P w K mg base cl fa fdd k 14 ["self","rows"]:=
 yQ (fn:=yC) rfl Z.F14.F yaS rfl rfl fun _ _ _ _ _ _ hr1 hr nd hu1=>(zd (zcT own1 rfl (zfm (zk zcz 1)) (zbq (i:=2) nd rfl (lcF (i:=2) zcz rfl)) (zd (zao (zo (C 18 _ rfl) hr zcD Z.F18.m Z.F18.F.kp Z.F18.b (zc (zk zcz 2) zj))) zl)) (zd zbd zl))
theorem zei:BD P w K mg base cl fa fdd k 15 ["self","cell"]:=
 yQ (fn:=zaw) rfl Z.F15.F yau rfl rfl fun _ _ _ _ _ _ hr1 hr nd hu1=>(zd (zy (ziK hu1 (zes Z.L20 Z.A20_words (zk zcg 0)) (zk zcg 1) zh)) zl)
theorem zeX:BD P w K mg base cl fa fdd k 16 ["self","row"]:=
 yQ (fn:=zbf) rfl Z.F16.F yaA rfl rfl fun _ _ _ _ _ _ hr1 hr nd hu1=>(zd (zG (zD (za6 hr.units) (zp (zk zbA 1) zh) zx (yt _)) (zd (zfk Z.L20 Z.A20_marked (zk zbA 0) (zp (zk zbA 1) zh)) zl) (zd zbd zl)) zl)
theorem zgV:BD P w K mg base cl fa fdd k 17 ["letter","at"]:=
 yQ (fn:=zbi) rfl Z.F17.F ya7 rfl rfl fun _ _ _ _ _ _ hr1 hr nd hu1=>(zd (zG (zax (zai (zo (C 7 _ rfl) hr zdC Z.F7.m Z.F7.F.kp Z.F7.b (zc (zB (zc (zk zbR 0) (zc (zk zbR 1) zj))) zj)))) (zd (zeN Z.r_2 rfl rfl zdW zx) zl) zl) (zd (zy (zB (zc (zk zbR 0) (zc (zk zbR 1) zj)))) zl))
theorem zg3:BD P w K mg base cl fa fdd k 18 ["thing"]:=
 yQ (fn:=zbm) rfl Z.F18.F ya1 rfl rfl fun _ _ _ _ _ _ hr1 hr nd hu1=>(zd (zG (zax (zai (zo (C 3 _ rfl) hr zdR Z.F3.m Z.F3.F.kp Z.F3.b (zc (zk zg8 0) zj)))) (zd (zeN Z.r_4 rfl rfl zed zx) zl) zl) zl)
theorem zkX:BD P w K mg base cl fa fdd k 19 ["_law_script"]:=
 yQ (fn:=zfo) rfl Z.F19.F ybV rfl rfl fun _ _ _ _ _ _ hr1 hr nd hu1=>(zd (zy (zdl (zc (zaq (zk zkg 0) z9 (zab zh)) (zc zh (zc zh (zc zbo zj)))))) zl)
theorem zkB:BD P w K mg base cl fa fdd k 20 ["_law_seed"]:=
 yQ (fn:=yan) rfl Z.F20.F yca rfl rfl fun _ _ _ _ _ _ hr1 hr nd hu1=>(zd (zz (i:=1) nd rfl (lcF (i:=1) zP rfl) (zB (zc zh (zc zh (zc zh (zc zh (zc zh zj))))))) (zd (zz (i:=2) nd rfl (lcF (i:=2) zP rfl) zh) (zd (zcT own1 rfl (zk6 zd3 Z.z_enumerate (zk zP 1)) (zg5 rfl (zbW (i:=3) nd rfl (lcF (i:=3) zP rfl) (zbW (i:=4) nd rfl (lcF (i:=4) zP rfl) zfy))) (zd (zz (i:=5) nd rfl (lcF (i:=5) zP rfl) (zr zah (zk zP 0) (zp (zB (zc zh (zc zh (zc zh (zc zh (zc zh zj)))))) (zk zP 3)))) (zd (zz (i:=5) nd rfl (lcF (i:=5) zP rfl) (zr ze2 (zr zcv (zk zP 5) (zr zah zh (zr zcv zh (zk zP 3)))) (zk zP 4))) (zd (zz (i:=6) nd rfl (lcF (i:=6) zP rfl) (zr ze2 (zr zcv (zk zP 5) (zk zP 5)) (zk zP 4))) (zd (zz (i:=7) nd rfl (lcF (i:=7) zP rfl) (zr ze2 (zr zcv (zr ze2 (zr zcv (zk zP 6) (zk zP 6)) (zk zP 4)) (zk zP 5)) (zk zP 4))) (zd (zz (i:=2) nd rfl (lcF (i:=2) zP rfl) (zr zah (zr zcv (zk zP 2) (zk zP 4)) (zk zP 7))) zl)))))) (zd (zy (zk zP 2)) zl))))
theorem zl7:BD P w K mg base cl fa fdd k 21 ["_law_state"]:=
 yQ (fn:=zec) rfl Z.F21.F ycn rfl rfl fun _ _ _ _ _ _ hr1 hr nd hu1=>(zd (zmA rfl nd rfl rfl (by decide) (zlU rfl nd rfl rfl (by decide) rfl rfl (zc (zp (zk zX 0) zh) (zc (zp (zk zX 0) zh) zj)) rfl)) (zd (zz (i:=3) nd rfl (lcF (i:=3) zX rfl) (zr zah (zr zcv zh (zk zX 2)) zh)) (zd (zG (zD zob (zV zaJ zcf Z.z_len zaK (zc (zk zX 1) zj)) zh (yt _)) (zd (zz (i:=3) nd rfl (lcF (i:=3) zX rfl) (zr zcv zh (zr zih (zk zX 2) (zV zaJ zcf Z.z_len zaK (zc (zk zX 1) zj))))) (zd (zz (i:=3) nd rfl (lcF (i:=3) zX rfl) (zr zah (zk zX 3) (zp (zk zX 1) (zr ze2 (zk zX 2) (zV zaJ zcf Z.z_len zaK (zc (zk zX 1) zj)))))) zl)) zl) (zd (zdK (zr zah (zk zX 2) zh) (zk zX 0) zh (hg:=zbF (zk zX 0) zh zbw)) (zd (zdK (zfG (zay zpK (zk zX 2) (zV zaJ zcf Z.z_len zaK (zc (zk zX 1) zj)) (yt _)) (zaG (zay zjq (zk zX 3) (zr zjb zh zh) (yt _)))) (zk zX 0) zh (hg:=zbF (zk zX 0) zh zbw)) (zd (zG (zai (zp (zk zX 0) zh)) (zd (zdK (zo (C 20 _ rfl) hr zfL Z.F20.m Z.F20.F.kp Z.F20.b (zc (zk zX 3) zj)) (zk zX 0) zh (hg:=zbF (zk zX 0) zh zbw)) zl) (zd (zdK (zr ziQ (zk zX 3) (zr zjb zh zh)) (zk zX 0) zh (hg:=zbF (zk zX 0) zh zbw)) zl)) zl))))))
theorem zmf:BD P w K mg base cl fa fdd k 22 ["_law_state","_law_many"]:=
 yQ (fn:=yO) rfl Z.F22.F ycm rfl rfl fun _ _ _ _ _ _ hr1 hr nd hu1=>(zd (zz (i:=2) nd rfl (lcF (i:=2) zac rfl) zh) (zd (zjC own1 (za5 (zc2 (zD zjq (zk zac 2) zh (yt _)) (zb2 (za5 (zbP (zD (za6 hr.units) (zp (zk zac 0) zh) zh (yt _)) (zbG (za5 (zc2 (zai (zp (zk zac 0) zh)) (zb2 (zD zjq (zp (zk zac 0) zh) (zr zcv (zk zac 1) zh) (yt _))))))))))) (zd (zao (zo (C 21 _ rfl) hr zgc Z.F21.m Z.F21.F.kp Z.F21.b (zc (zk zac 0) zj))) (zd (zl9 (i:=2) nd rfl (lcF (i:=2) zac rfl) zh zoi) (zd (zG (za5 (zc2 (zai (zp (zk zac 0) zh)) (zb2 (zD zjq (zp (zk zac 0) zh) (zr zcv (zk zac 1) zh) (yt _))))) (zd (zdK (zr zah (zp (zk zac 0) zh) (zr zcv (zr zcv (zk zac 1) zh) (zr zah zh (zr ze2 (zp (zk zac 0) zh) zh)))) (zk zac 0) zh (hg:=zbF (zk zac 0) zh zbw)) zl) zl) zl)))) (zd (zz (i:=3) nd rfl (lcF (i:=3) zac rfl) (zr ze2 (zp (zk zac 0) zh) (zk zac 1))) (zd (zdK (zr zih (zp (zk zac 0) zh) (zk zac 1)) (zk zac 0) zh (hg:=zbF (zk zac 0) zh zbw)) (zd (zy (zk zac 3)) zl)))))
theorem zjz:BD P w K mg base cl fa fdd k 23 ["_law_many"]:=
 yQ (fn:=zem) rfl Z.F23.F ybN rfl rfl fun _ _ _ _ _ _ hr1 hr nd hu1=>(zd (zz (i:=1) nd rfl (lcF (i:=1) zbX rfl) zh) (zd (zcT own1 rfl (zb7 zfa Z.z_range (zk zbX 0)) (zbq (i:=2) nd rfl (lcF (i:=2) zbX rfl)) (zd (zz (i:=1) nd rfl (lcF (i:=1) zbX rfl) (zr zcv zh (zk zbX 1))) zl)) (zd (zy (zk zbX 1)) zl)))
theorem zj4:BD P w K mg base cl fa fdd k 24 ["_law_thing"]:=
 yQ (fn:=zfp) rfl Z.F24.F yb9 rfl rfl fun _ _ _ _ _ _ hr1 hr nd hu1=>(zd (zy (zap (zba (t:=.int) Z.k_int rfl zbQ Z.z_isinstance zg0 Z.z_int zkP (zk zhw 0)) (zaG (zg4 (zba (t:=.bool) Z.k_bool rfl zbQ Z.z_isinstance zf8 Z.z_bool zlh (zk zhw 0)))))) zl)
theorem zjj:BD P w K mg base cl fa fdd k 25 ["_law_thing"]:=
 yQ (fn:=zcG) rfl Z.F25.F ybE rfl rfl fun _ _ _ _ _ _ hr1 hr nd hu1=>(zd (zy (zap (zba (t:=.str) Z.k_str rfl zdg Z.z_isinstance zga Z.z_str ziJ (zk zeJ 0)) (zap (zay (za6 hr.units) (zV zaJ zf7 Z.z_len zaK (zc (zk zeJ 0) zj)) zh (yt _)) (zaG (zay zlL (zk zeJ 0) zx (by with_unfolding_all rfl)))))) zl)
theorem zf5:BD P w K mg base cl fa fdd k 26 ["_law_state"]:=
 yQ (fn:=zbI) rfl Z.F26.F yaK rfl rfl fun _ _ _ _ _ _ hr1 hr nd hu1=>(zd (zy (zp zx (zo (C 22 _ rfl) hr zdp Z.F22.m Z.F22.F.kp Z.F22.b (zc (zk zf3 0) (zc zh zj))))) zl)
theorem zgZ:BD P w K mg base cl fa fdd k 27 ["_law_state"]:=
 yQ (fn:=zcs) rfl Z.F27.F ya4 rfl rfl fun _ _ _ _ _ _ hr1 hr nd hu1=>(zd (zy (zB (zc (zo (C 26 _ rfl) hr zcd Z.F26.m Z.F26.F.kp Z.F26.b (zc (zk zbV 0) zj)) (zc (zp (zB (zc zh (zc zh (zc (zo (C 22 _ rfl) hr zbg Z.F22.m Z.F22.F.kp Z.F22.b (zc (zk zbV 0) (zc zh zj))) (zc (zo (C 22 _ rfl) hr zbg Z.F22.m Z.F22.F.kp Z.F22.b (zc (zk zbV 0) (zc zh zj))) zj))))) (zo (C 22 _ rfl) hr zbg Z.F22.m Z.F22.F.kp Z.F22.b (zc (zk zbV 0) (zc zh zj)))) zj)))) zl)
theorem zgG:BD P w K mg base cl fa fdd k 28 ["_law_state","_law_wide"]:=
 yQ (fn:=zcq) rfl Z.F28.F ya9 rfl rfl fun _ _ _ _ _ _ hr1 hr nd hu1=>(zd (zz (i:=2) nd rfl (lcF (i:=2) zaC rfl) (zo (C 22 _ rfl) hr zbY Z.F22.m Z.F22.F.kp Z.F22.b (zc (zk zaC 0) (zc (zk zaC 1) zj)))) (zd (zy (zp (zB (zc zh (zc zh (zc (zr ziQ (zk zaC 1) zh) (zc (zr zih (zk zaC 1) zh) (zc (zk zaC 2) (zc (zk zaC 2) zj))))))) (zo (C 22 _ rfl) hr zbY Z.F22.m Z.F22.F.kp Z.F22.b (zc (zk zaC 0) (zc zh zj))))) zl))
theorem zhm:BD P w K mg base cl fa fdd k 29 ["_law_state","_law_cells"]:=
 yQ (fn:=yr) rfl Z.F29.F ybd rfl rfl fun _ _ _ _ _ _ hr1 hr nd hu1=>(zd (zz (i:=2) nd rfl (lcF (i:=2) zt rfl) (zB (zc zx (zc zx (zc zx (zc zx (zc zx (zc zx (zc zx (zc zx (zc zx (zc zx (zc zx (zc zx (zc zx zj))))))))))))))) (zd (zz (i:=3) nd rfl (lcF (i:=3) zt rfl) (zp (zk zt 2) (zo (C 22 _ rfl) hr zco Z.F22.m Z.F22.F.kp Z.F22.b (zc (zk zt 0) (zc zh zj))))) (zd (zz (i:=4) nd rfl (lcF (i:=4) zt rfl) (zo (C 22 _ rfl) hr zco Z.F22.m Z.F22.F.kp Z.F22.b (zc (zk zt 0) (zc zh zj)))) (zd (zjw (i:=5) nd rfl (lcF (i:=5) zt rfl) rfl (ybA (NC:=["_law_k","_law_cells","_law_state"]) (slots:=[none,some 1,some 0]) ["_law_state","_law_cells","_law_kinds","_law_kind_here","_law_digit","_law_some"] (yc zaX) rfl rfl rfl (by trivial) (by trivial) (by trivial) (by trivial) rfl) (by decide) (zb7 zej Z.z_range zh) (fun j=>zeo rfl (zbq (i:=0) (show (["_law_k","_law_cells","_law_state"]:List Str).Nodup by trivial) rfl (by first|exact Or.inl rfl|exact Or.inr rfl))) (fun j=>zdH) (fun j=>zet rfl (zp (yb0 1) (zo (C 22 _ rfl) hr rfl Z.F22.m Z.F22.F.kp Z.F22.b (zc (yb0 2) (zc (zV zaJ rfl Z.z_len zaK (zc (yb0 1) zj)) zj)))))) (zd (zG (zD (za6 hr.units) (zk zt 3) zx (yt _)) (zd (zy (zB (zc (zk zt 3) (zc (zk zt 4) zj)))) zl) zl) (zd (zG (zD (za6 hr.units) (zk zt 3) zx (yt _)) (zd (zy (zB (zc (zk zt 3) (zc (zp (zk zt 5) zh) zj)))) zl) zl) (zd (zG (zD (za6 hr.units) (zk zt 3) zx (yt _)) (zd (zy (zB (zc (zk zt 3) (zc (zp (zk zt 5) zh) (zc (zk zt 4) zj))))) zl) zl) (zd (zG (zD (za6 hr.units) (zk zt 3) zx (yt _)) (zd (zG (zD (za6 hr.units) (zp (zk zt 5) zh) (zp (zk zt 5) zh) (yt _)) (zd (zhJ rfl (zc (zp (zk zt 1) zh) (zc (zp (zk zt 1) zh) zj)) (zk zt 5) zh (zk zt 5) zh (zbF (zk zt 5) zh zbw) (zbF (zk zt 5) zh zbw)) zl) zl) (zd (zy (zB (zc (zk zt 3) (zc (zp (zk zt 5) zh) (zc (zp (zk zt 5) zh) (zc (zp (zk zt 5) zh) (zc (zp (zk zt 5) zh) zj))))))) zl)) zl) (zd (zG (zD zlL (zk zt 3) (zB (zc zx (zc zx (zc zx (zc zx zj))))) (by with_unfolding_all rfl)) (zd (zy (zB (zc (zk zt 3) (zc (zp (zk zt 5) zh) (zc (zp (zk zt 5) zh) zj))))) zl) zl) (zd (zy (zB (zc (zk zt 3) (zc (zp (zk zt 5) zh) (zc (zp (zk zt 5) zh) (zc (zp (zk zt 5) zh) zj)))))) zl))))))))))
theorem zgd:BD P w K mg base cl fa fdd k 30 ["_law_state","_law_many"]:=
 yQ (fn:=yu) rfl Z.F30.F yaY rfl rfl fun _ _ _ _ _ _ hr1 hr nd hu1=>(zd (zz (i:=2) nd rfl (lcF (i:=2) zQ rfl) (zdl zj)) (zd (zcT own1 rfl (zb7 zdS Z.z_range (zr zah zh (zk zQ 1))) (zbq (i:=3) nd rfl (lcF (i:=3) zQ rfl)) (zd (zz (i:=4) nd rfl (lcF (i:=4) zQ rfl) (zo (C 27 _ rfl) hr zcB Z.F27.m Z.F27.F.kp Z.F27.b (zc (zk zQ 0) zj))) (zd (zG (zme hr.units (zk zQ 4) (zk zQ 2) (by with_unfolding_all rfl)) (zd (zao (zc4 (zk zQ 2) (zk zQ 4))) zl) zl) zl))) (zd (zG (zD (za6 hr.units) (zV zaJ zeg Z.z_len zaK (zc (zk zQ 2) zj)) zh (yt _)) (zd (zao (zc4 (zk zQ 2) (zB (zc (zp (zp (zk zQ 2) zh) zh) (zc (zr ze2 (zr zah (zp (zp (zk zQ 2) zh) zh) zh) zh) zj))))) zl) zl) (zd (zy (zmk (zk zQ 2))) zl))))
theorem ziy:BD P w K mg base cl fa fdd k 31 ["_law_thing"]:=
 yQ (fn:=za7) rfl Z.F31.F ybn rfl rfl fun _ _ _ _ _ _ hr1 hr nd hu1=>(zd (zG (za5 (zbP (zax (zai (zba (t:=.tuple) Z.k_tuple rfl zdb Z.z_isinstance zeU Z.z_tuple zcX (zk zbZ 0)))) (zbP (zD (zd1 hr.units) (zV zaJ zfR Z.z_len zaK (zc (zk zbZ 0) zj)) zh (yt _)) (zbG (zax (zai (zo (C 25 _ rfl) hr zd4 Z.F25.m Z.F25.F.kp Z.F25.b (zc (zp (zk zbZ 0) zh) zj)))))))) (zd (zy zbo) zl) zl) (zd (zy (zap (zo (C 24 _ rfl) hr zew Z.F24.m Z.F24.F.kp Z.F24.b (zc (zp (zk zbZ 0) zh) zj)) (zaG (zeW zik zik zh (zp (zk zbZ 0) zh) zh)))) zl))
theorem zjN:BD P w K mg base cl fa fdd k 32 ["_law_row"]:=
 yQ (fn:=yj) rfl Z.F32.F ybG rfl rfl fun _ _ _ _ _ _ hr1 hr nd hu1=>(zd (zG (za5 (zbP (zax (zai (zba (t:=.tuple) Z.k_tuple rfl zbL Z.z_isinstance zfd Z.z_tuple zcX (zk zM 0)))) (zbP (zD zjq (zV zaJ zbe Z.z_len zaK (zc (zk zM 0) zj)) zh (yt _)) (zbG (zax (zai (zba (t:=.str) Z.k_str rfl zbL Z.z_isinstance zgf Z.z_str ziJ (zp (zk zM 0) zh)))))))) (zd (zy zbo) zl) zl) (zd (zG (zD (za6 hr.units) (zp (zk zM 0) zh) zx (yt _)) (zd (zy (zap (zay (za6 hr.units) (zV zaJ zbe Z.z_len zaK (zc (zk zM 0) zj)) zh (yt _)) (zap (zo (C 24 _ rfl) hr zcK Z.F24.m Z.F24.F.kp Z.F24.b (zc (zp (zk zM 0) zh) zj)) (zaG (zay zlL (zp (zk zM 0) zh) (zB (zc zh (zc zh zj))) (by with_unfolding_all rfl)))))) zl) zl) (zd (zG (zD (za6 hr.units) (zp (zk zM 0) zh) zx (yt _)) (zd (zy (zap (zay (za6 hr.units) (zV zaJ zbe Z.z_len zaK (zc (zk zM 0) zj)) zh (yt _)) (zaG (zo (C 31 _ rfl) hr zb3 Z.F31.m Z.F31.F.kp Z.F31.b (zc (zp (zk zM 0) zh) zj))))) zl) zl) (zd (zG (zD (za6 hr.units) (zp (zk zM 0) zh) zx (yt _)) (zd (zy (zap (zay (za6 hr.units) (zV zaJ zbe Z.z_len zaK (zc (zk zM 0) zj)) zh (yt _)) (zap (zo (C 31 _ rfl) hr zb3 Z.F31.m Z.F31.F.kp Z.F31.b (zc (zp (zk zM 0) zh) zj)) (zap (zo (C 24 _ rfl) hr zcK Z.F24.m Z.F24.F.kp Z.F24.b (zc (zp (zk zM 0) zh) zj)) (zaG (zay zlL (zp (zk zM 0) zh) (zB (zc zh (zc zh zj))) (by with_unfolding_all rfl))))))) zl) zl) (zd (zz (i:=1) nd rfl (lcF (i:=1) zM rfl) (zkz (zbr (zbr (zbr (zbr (zbr (zbr (zbr (zbr (zbr zmc))))))))))) (zd (zfE hu1 (zk zM 1) zx zh) (zd (zG (za5 (zbP (zD (zd1 hr.units) (ziK hu1 (zk zM 1) (zp (zk zM 0) zh) zh) (zV zaJ zbe Z.z_len zaK (zc (zk zM 0) zj)) (yt _)) (zbG (zax (zai (zV (zmY rfl) zf9 Z.z_all zmL (zc (zhx rfl (ybA (NC:=["_law_part"]) (slots:=[none]) ["_law_row","_law_lengths"] (yc zaA) rfl rfl rfl (by trivial) (by trivial) (by trivial) (by trivial) rfl) (by decide) (zfm (zaq (zk zM 0) (zab zh) z9)) (fun j=>zeo rfl (zbq (i:=0) (show (["_law_part"]:List Str).Nodup by trivial) rfl (by first|exact Or.inl rfl|exact Or.inr rfl))) (fun j=>zdH) (fun j=>zet rfl (zo (C 31 _ rfl) hr rfl Z.F31.m Z.F31.F.kp Z.F31.b (zc (yb0 0) zj)))) zj))))))) (zd (zy zbo) zl) zl) (zd (zy (zfG (zay (zd1 hr.units) (zp (zk zM 0) zh) zx (yt _)) (zaG (zay (zd1 hr.units) (zp (zk zM 0) zh) (zp (zk zM 0) zh) (yt _))))) zl))))))))
theorem ziv:BD P w K mg base cl fa fdd k 33 ["_law_state"]:=
 yQ (fn:=yx) rfl Z.F33.F ybm rfl rfl fun _ _ _ _ _ _ hr1 hr nd hu1=>(zd (zz (i:=1) nd rfl (lcF (i:=1) zC rfl) (zo (C 26 _ rfl) hr zcJ Z.F26.m Z.F26.F.kp Z.F26.b (zc (zk zC 0) zj))) (zd (zz (i:=2) nd rfl (lcF (i:=2) zC rfl) (zr zah zh (zr zcv (zo (C 22 _ rfl) hr zbE Z.F22.m Z.F22.F.kp Z.F22.b (zc (zk zC 0) (zc zh zj))) (zo (C 22 _ rfl) hr zbE Z.F22.m Z.F22.F.kp Z.F22.b (zc (zk zC 0) (zc (zr zjb zh zh) zj)))))) (zd (zz (i:=3) nd rfl (lcF (i:=3) zC rfl) (zdl (zc zmo (zc zbo (zc zbo (zc (zgI zh) (zc (zk zC 2) (zc zx (zc (zk zC 1) (zc (zr zah (zk zC 1) (zk zC 1)) (zc zx (zc zx (zc (zB zj) (zc (zB (zc (zk zC 1) zj)) zj)))))))))))))) (zd (zao (zd2 (zk zC 3) (zeH (zc (zB (zc (zk zC 1) (zc zh (zc zh zj)))) (zc (zB (zc (zk zC 1) (zc (zgI zh) zj))) (zc (zB (zc (zk zC 1) (zc (zk zC 2) zj))) (zc (zB (zc zx (zc zh zj))) (zc (zB (zc (zr zah (zk zC 1) zx) (zc zh zj))) zj)))))))) (zd (zao (zd2 (zk zC 3) (zeH (zc (zB (zc zx (zc zh zj))) (zc (zB (zc (zk zC 1) (zc zbo zj))) (zc (zB (zc (zk zC 1) (zc zx zj))) (zc (zeH (zc (zk zC 1) (zc zh zj))) (zc (zB (zc (zk zC 1) (zc (zB (zc zh (zc zh (zc zh (zc zh zj))))) zj))) zj)))))))) (zd (zao (zd2 (zk zC 3) (zeH (zc zh (zc zh (zc zh (zc (zB (zc (zk zC 1) (zc zh zj))) (zc zx (zc zx (zc (zB (zc zx (zc zh zj))) (zc (zB (zc (zB (zc (zk zC 1) (zc zh zj))) (zc zh zj))) zj))))))))))) (zd (zy (zp (zk zC 3) (zo (C 22 _ rfl) hr zbE Z.F22.m Z.F22.F.kp Z.F22.b (zc (zk zC 0) (zc (zV zaJ zfu Z.z_len zaK (zc (zk zC 3) zj)) zj))))) zl)))))))
theorem zfc:BD P w K mg base cl fa fdd k 34 ["_law_state","_law_told"]:=
 yQ (fn:=yg) rfl Z.F34.F yaC rfl rfl fun _ _ _ _ _ _ hr1 hr nd hu1=>(zd (zz (i:=2) nd rfl (lcF (i:=2) zn rfl) (zo (C 22 _ rfl) hr za0 Z.F22.m Z.F22.F.kp Z.F22.b (zc (zk zn 0) (zc zh zj)))) (zd (zz (i:=3) nd rfl (lcF (i:=3) zn rfl) (zo (C 22 _ rfl) hr za0 Z.F22.m Z.F22.F.kp Z.F22.b (zc (zk zn 0) (zc (zr zah (zV zaJ zaH Z.z_len zaK (zc (zk zn 1) zj)) zh) zj)))) (zd (zz (i:=4) nd rfl (lcF (i:=4) zn rfl) (zo (C 33 _ rfl) hr zcE Z.F33.m Z.F33.F.kp Z.F33.b (zc (zk zn 0) zj))) (zd (zz (i:=5) nd rfl (lcF (i:=5) zn rfl) (zV (zo1 rfl) zdQ Z.z_min zo0 (zc (zk zn 3) (zc (zr ziQ (zV zaJ zaH Z.z_len zaK (zc (zk zn 1) zj)) zh) zj)))) (zd (zG (za5 (zbP (zD (za6 hr.units) (zV zaJ zaH Z.z_len zaK (zc (zk zn 1) zj)) zh (yt _)) (zbG (zD (za6 hr.units) (zk zn 2) zh (yt _))))) (zd (zy (zr zah (zr zah (zaq (zk zn 1) z9 (zab (zk zn 3))) (zB (zc (zk zn 4) zj))) (zaq (zk zn 1) (zab (zk zn 3)) z9))) zl) zl) (zd (zG (zD (za6 hr.units) (zk zn 2) zh (yt _)) (zd (zy (zr zah (zaq (zk zn 1) z9 (zab (zk zn 5))) (zaq (zk zn 1) (zab (zr zah (zk zn 5) zh)) z9))) zl) zl) (zd (zG (zD (za6 hr.units) (zk zn 2) zh (yt _)) (zd (zy (zr zah (zr zah (zaq (zk zn 1) z9 (zab (zk zn 5))) (zB (zc (zp (zk zn 1) (zk zn 5)) zj))) (zaq (zk zn 1) (zab (zk zn 5)) z9))) zl) zl) (zd (zG (zD (za6 hr.units) (zk zn 2) zh (yt _)) (zd (zz (i:=6) nd rfl (lcF (i:=6) zn rfl) (zo (C 22 _ rfl) hr za0 Z.F22.m Z.F22.F.kp Z.F22.b (zc (zk zn 0) (zc (zV zaJ zaH Z.z_len zaK (zc (zk zn 1) zj)) zj)))) (zd (zz (i:=7) nd rfl (lcF (i:=7) zn rfl) (zjt zdx Z.z_list zjT (zc (zk zn 1) zj))) (zd (zhJ rfl (zc (zp (zk zn 7) (zk zn 6)) (zc (zp (zk zn 7) (zk zn 5)) zj)) (zk zn 7) (zk zn 5) (zk zn 7) (zk zn 6) (zbF (zk zn 7) (zk zn 5) zbw) (zbF (zk zn 7) (zk zn 6) zbw)) (zd (zy (zez ziB zda Z.z_tuple zcX (zc (zk zn 7) zj))) zl)))) zl) (zd (zy (zr zah (zr zah (zaq (zk zn 1) z9 (zab (zk zn 5))) (zB (zc (zk zn 4) zj))) (zaq (zk zn 1) (zab (zr zah (zk zn 5) zh)) z9))) zl)))))))))
theorem zgk:BD P w K mg base cl fa fdd k 35 ["_law_state","_law_row"]:=
 yQ (fn:=yp) rfl Z.F35.F yaU rfl rfl fun _ _ _ _ _ _ hr1 hr nd hu1=>(zd (zz (i:=2) nd rfl (lcF (i:=2) zq rfl) (zo (C 22 _ rfl) hr zaF Z.F22.m Z.F22.F.kp Z.F22.b (zc (zk zq 0) (zc zh zj)))) (zd (zz (i:=3) nd rfl (lcF (i:=3) zq rfl) (zo (C 22 _ rfl) hr zaF Z.F22.m Z.F22.F.kp Z.F22.b (zc (zk zq 0) (zc (zV zaJ zci Z.z_len zaK (zc (zk zq 1) zj)) zj)))) (zd (zG (zD (za6 hr.units) (zk zq 2) zh (yt _)) (zd (zz (i:=4) nd rfl (lcF (i:=4) zq rfl) (zp (zk zq 1) zh)) (zd (zz (i:=5) nd rfl (lcF (i:=5) zq rfl) (zo (C 22 _ rfl) hr zaF Z.F22.m Z.F22.F.kp Z.F22.b (zc (zk zq 0) (zc (zV zaJ zci Z.z_len zaK (zc (zk zq 4) zj)) zj)))) (zd (zy (zr zah (zB (zc (zr zah (zr zah (zaq (zk zq 4) z9 (zab (zk zq 5))) (zo (C 26 _ rfl) hr zb9 Z.F26.m Z.F26.F.kp Z.F26.b (zc (zk zq 0) zj))) (zaq (zk zq 4) (zab (zr zah (zk zq 5) (zp (zB (zc zh (zc zh zj))) (zo (C 22 _ rfl) hr zaF Z.F22.m Z.F22.F.kp Z.F22.b (zc (zk zq 0) (zc zh zj)))))) z9)) zj)) (zaq (zk zq 1) (zab zh) z9))) zl))) zl) (zd (zG (za5 (zc2 (zD (za6 hr.units) (zk zq 2) zh (yt _)) (zb2 (zai (zba (t:=.tuple) Z.k_tuple rfl zcw Z.z_isinstance zdT Z.z_tuple zcX (zp (zk zq 1) (zk zq 3))))))) (zd (zy (zr zah (zr zah (zaq (zk zq 1) z9 (zab (zk zq 3))) (zB (zc (zo (C 34 _ rfl) hr za2 Z.F34.m Z.F34.F.kp Z.F34.b (zc (zk zq 0) (zc (zp (zk zq 1) (zk zq 3)) zj))) zj))) (zaq (zk zq 1) (zab (zr zah (zk zq 3) zh)) z9))) zl) zl) (zd (zG (za5 (zc2 (zD (za6 hr.units) (zk zq 2) zh (yt _)) (zb2 (zD (za6 hr.units) (zp (zk zq 1) zh) zx (yt _))))) (zd (zy (zr zah (zr zah (zaq (zk zq 1) z9 (zab zh)) (zB (zc (zp (zk zq 1) zh) zj))) (zaq (zk zq 1) (zab zh) z9))) zl) zl) (zd (zy (zo (C 34 _ rfl) hr za2 Z.F34.m Z.F34.F.kp Z.F34.b (zc (zk zq 0) (zc (zk zq 1) zj)))) zl))))))
theorem zma:BD P w K mg base cl fa fdd k 36 ["_law_e"]:=
 yQ (fn:=zdZ) rfl Z.F36.F ya0 rfl rfl fun _ _ _ _ _ _ hr1 hr nd hu1=>(zd (zz (i:=1) nd rfl (lcF (i:=1) zad rfl) (zdl (zc (zcp (all_cons ⟨Z.x_2,Z.i_2_4⟩ (all_cons ⟨Z.x_3,Z.i_3_4⟩ (all_cons ⟨Z.x_4,Z.i_4_4⟩ all_nil))) zF Z.z_isinstance (zY zdX Z.n_4) (zk zad 0)) (zc (zcp (all_cons ⟨Z.x_2,Z.i_2_2⟩ (all_cons ⟨Z.x_3,Z.i_3_2⟩ (all_cons ⟨Z.x_4,Z.i_4_2⟩ all_nil))) zF Z.z_isinstance (zY zdA Z.n_2) (zk zad 0)) (zc (zcp (all_cons ⟨Z.x_2,Z.i_2_3⟩ (all_cons ⟨Z.x_3,Z.i_3_3⟩ (all_cons ⟨Z.x_4,Z.i_4_3⟩ all_nil))) zF Z.z_isinstance (zY zdq Z.n_3) (zk zad 0)) zj))))) (zd (zz (i:=2) nd rfl (lcF (i:=2) zad rfl) (zen (all_cons ⟨Z.x_2,(zu Z.i_2_0 (zu Z.i_2_5 (zu Z.i_2_1 (zu Z.i_2_6 (zu Z.i_2_7 (zu Z.i_2_8 zbN))))))⟩ (all_cons ⟨Z.x_3,(zu Z.i_3_0 (zu Z.i_3_5 (zu Z.i_3_1 (zu Z.i_3_6 (zu Z.i_3_7 (zu Z.i_3_8 zbN))))))⟩ (all_cons ⟨Z.x_4,(zu Z.i_4_0 (zu Z.i_4_5 (zu Z.i_4_1 (zu Z.i_4_6 (zu Z.i_4_7 (zu Z.i_4_8 zbN))))))⟩ all_nil))) (by decide) zF Z.z_isinstance (z4 (zY zdY Z.n_0) (z4 (zY zcl Z.n_5) (z4 (zY zdm Z.n_1) (z4 (zY zdh Z.n_6) (z4 (zY zb8 Z.n_7) (z4 (zY zc7 Z.n_8) zfn)))))) (zk zad 0))) (zd (zao (zc4 (zk zad 1) (zfG (zk zad 2) (zaG (zen (all_cons ⟨Z.x_2,(zu Z.i_2_9 (zu Z.i_2_10 (zu Z.i_2_11 (zu Z.i_2_12 (zu Z.i_2_13 zbN)))))⟩ (all_cons ⟨Z.x_3,(zu Z.i_3_9 (zu Z.i_3_10 (zu Z.i_3_11 (zu Z.i_3_12 (zu Z.i_3_13 zbN)))))⟩ (all_cons ⟨Z.x_4,(zu Z.i_4_9 (zu Z.i_4_10 (zu Z.i_4_11 (zu Z.i_4_12 (zu Z.i_4_13 zbN)))))⟩ all_nil))) (by decide) zF Z.z_isinstance (z4 (zY zdn Z.n_9) (z4 (zY zdi Z.n_10) (z4 (zY zc5 Z.n_11) (z4 (zY zdB Z.n_12) (z4 (zY zdv Z.n_13) zfn))))) (zk zad 0)))))) (zd (zG (za5 (zbP (zD (zd1 hr.units) (zgz (zk zad 1) zbo) zh (yt _)) (zbG (zax (zai (zcp (all_cons ⟨Z.x_2,Z.i_2_v⟩ (all_cons ⟨Z.x_3,Z.i_3_v⟩ (all_cons ⟨Z.x_4,Z.i_4_v⟩ all_nil))) zF Z.z_isinstance (zi3 zb4 Z.z_ValueError) (zk zad 0))))))) (zd zbd zl) zl) (zd (zy (zp (zB (zc zx (zc zx (zc zx (zc zx zj))))) (zgr (zk zad 1) zbo))) zl)))))
theorem zkW:BD P w K mg base cl fa fdd k 37 ["_law_machine","_law_way","_law_thing"]:=
 yQ (fn:=za3) rfl Z.F37.F yb1 rfl rfl fun _ _ _ _ _ _ hr1 hr nd hu1=>(zd (zz (i:=3) nd rfl (lcF (i:=3) zae rfl) zx) (zd (zmj (i:=4) ⟨_,rfl⟩ rfl rfl nd rfl rfl zd9 Z.n_14 (all_cons Z.t_2 (all_cons Z.t_3 (all_cons Z.t_4 all_nil))) (fun pn P=>(zd (zG (zD (za6 hr.units) (zk zae 1) zh (yt _)) (zd (zao (zbT Z.L20 Z.M13 (C 13 _ rfl) hr Z.F13.b (zk zae 0) (zc (zk zae 2) zj))) zl) zl) (zd (zG (zD (za6 hr.units) (zk zae 1) zh (yt _)) (zd (zao (zbT Z.L20 Z.M14 (C 14 _ rfl) hr Z.F14.b (zk zae 0) (zc (zk zae 2) zj))) zl) zl) (zd (zG (zD (za6 hr.units) (zk zae 1) zh (yt _)) (zd (zao (zbT Z.L20 Z.M10 (C 10 _ rfl) hr Z.F10.b (zk zae 0) (zc (zp (zk zae 2) zh) (zc (zp (zk zae 2) zh) (zc (zp (zk zae 2) zh) zj))))) zl) zl) (zd (zG (zD (za6 hr.units) (zk zae 1) zh (yt _)) (zd (zao (zbT Z.L20 Z.M11 (C 11 _ rfl) hr Z.F11.b (zk zae 0) (zc (zp (zk zae 2) zh) (zc (zp (zk zae 2) zh) zj)))) zl) zl) zl))))) (fun pn a=>(zd (zz (i:=3) nd rfl (lcF (i:=3) zae rfl) (zjF (zlr Z _) hr.h.mark zfv Z.F36.m Z.F36.F.kp Z.F36.b (zc (zk zae 4) zj))) zl))) (zd (zy (zk zae 3)) zl)))
theorem zlj:BD P w K mg base cl fa fdd k 38 ["_law_machine","_law_cells","_law_kept_here","_law_mark"]:=
 yQ (fn:=yW) rfl Z.F38.F yb7 rfl rfl fun _ _ _ _ _ _ hr1 hr nd hu1=>(zd (zG (zD (zd1 hr.units) (zj1 Z.L20 Z.M12 (C 12 _ rfl) hr Z.F12.b (zk zft 0)) (zk zft 3) (yt _)) (zd zbd zl) zl) (zd (zy (zV (zmY rfl) zhb Z.z_all zmL (zc (zhx rfl (ybA (NC:=["_law_spot","_law_kept_here","_law_machine"]) (slots:=[none,some 2,some 0]) ["_law_machine","_law_cells","_law_kept_here","_law_mark"] (yc zcu) rfl rfl rfl (by trivial) (by trivial) (by trivial) (by trivial) rfl) (by decide) (zfm (zk zft 1)) (fun j=>zeo rfl (zbq (i:=0) (show (["_law_spot","_law_kept_here","_law_machine"]:List Str).Nodup by trivial) rfl (by first|exact Or.inl rfl|exact Or.inr rfl))) (fun j=>zdH) (fun j=>zet rfl (zay (za6 hr.units) (zbT Z.L20 Z.M11 (C 11 _ rfl) hr Z.F11.b (yb0 2) (zc (zp (yb0 0) zh) (zc (zp (yb0 0) zh) zj))) (ziD hu1 (yb0 1) (yb0 0)) (yt _)))) zj))) zl))
theorem zh9:BD P w K mg base cl fa fdd k 39 ["_law_letter_here","_law_at","_law_word","_law_wide"]:=
 yQ (fn:=zbj) rfl Z.F39.F ybj rfl rfl fun _ _ _ _ _ _ hr1 hr nd hu1=>(zd (zG (zax (zai (zo (C 31 _ rfl) hr zdP Z.F31.m Z.F31.F.kp Z.F31.b (zc (zB (zc (zk zb5 0) (zc (zk zb5 1) zj))) zj)))) (zd (zy zx) zl) zl) (zd (zG (za5 (zbP (zax (zai (zo (C 24 _ rfl) hr zee Z.F24.m Z.F24.F.kp Z.F24.b (zc (zk zb5 2) zj)))) (zbG (zax (zjh zik zjq zh (zk zb5 2) (zk zb5 3)))))) (zd (zy zx) zl) zl) (zd (zy zx) zl)))
theorem znu:BD P w K mg base cl fa fdd k 40 ["_law_state","_law_cells"]:=
 yQ (fn:=zgo) rfl Z.F40.F ycH rfl rfl fun _ _ _ _ _ _ hr1 hr nd hu1=>(zd (zz (i:=2) nd rfl (lcF (i:=2) zcb rfl) (zo (C 22 _ rfl) hr zgU Z.F22.m Z.F22.F.kp Z.F22.b (zc (zk zcb 0) (zc zh zj)))) (zd (zz (i:=3) nd rfl (lcF (i:=3) zcb rfl) (zo (C 29 _ rfl) hr zeI Z.F29.m Z.F29.F.kp Z.F29.b (zc (zk zcb 0) (zc (zk zcb 1) zj)))) (zd (zG (zD (za6 hr.units) (zk zcb 2) zh (yt _)) (zd (zy (zez zof zht Z.z_list zjT (zc (zk zcb 3) zj))) zl) zl) (zd (zG (zD (za6 hr.units) (zk zcb 2) zh (yt _)) (zd (zy (zo (C 33 _ rfl) hr zfe Z.F33.m Z.F33.F.kp Z.F33.b (zc (zk zcb 0) zj))) zl) zl) (zd (zy (zo (C 35 _ rfl) hr zea Z.F35.m Z.F35.F.kp Z.F35.b (zc (zk zcb 0) (zc (zk zcb 3) zj)))) zl)))))
theorem zoS:BD P w K mg base cl fa fdd k 41 ["_law_script"]:=
 yQ (fn:=yN) rfl Z.F41.F ydb rfl rfl fun _ _ _ _ _ _ hr1 hr nd hu1=>(zd (zz (i:=1) nd rfl (lcF (i:=1) zA rfl) (zo (C 19 _ rfl) hr zgH Z.F19.m Z.F19.F.kp Z.F19.b (zc (zk zA 0) zj))) (zd (zz (i:=2) nd rfl (lcF (i:=2) zA rfl) (zr zah zh (zo (C 22 _ rfl) hr zaP Z.F22.m Z.F22.F.kp Z.F22.b (zc (zk zA 1) (zc zh zj))))) (zd (zz (i:=3) nd rfl (lcF (i:=3) zA rfl) (zo (C 23 _ rfl) hr zgg Z.F23.m Z.F23.F.kp Z.F23.b (zc (zk zA 2) zj))) (zd (zz (i:=4) nd rfl (lcF (i:=4) zA rfl) (zo (C 30 _ rfl) hr zeD Z.F30.m Z.F30.F.kp Z.F30.b (zc (zk zA 1) (zc (zo (C 22 _ rfl) hr zaP Z.F22.m Z.F22.F.kp Z.F22.b (zc (zk zA 1) (zc zh zj))) zj)))) (zd (zz (i:=5) nd rfl (lcF (i:=5) zA rfl) (zl0 Z.K20 (C 9 _ rfl) hr1 zgh Z.n_20 Z.F9.b (zc (zk zA 2) zj))) (zd (zz (i:=6) nd rfl (lcF (i:=6) zA rfl) zfP) (zd (zcT own1 rfl (zfm (zk zA 4)) (zbq (i:=7) nd rfl (lcF (i:=7) zA rfl)) (zd (zfE hu1 (zk zA 6) (zk zA 7) (zo (C 28 _ rfl) hr zeR Z.F28.m Z.F28.F.kp Z.F28.b (zc (zk zA 1) (zc (zk zA 3) zj)))) (zd (zao (zbT Z.L20 Z.M10 (C 10 _ rfl) hr Z.F10.b (zk zA 5) (zc (zp (zk zA 7) zh) (zc (zp (zk zA 7) zh) (zc (ziD hu1 (zk zA 6) (zk zA 7)) zj))))) zl))) (zd (zz (i:=8) nd rfl (lcF (i:=8) zA rfl) (zo (C 22 _ rfl) hr zaP Z.F22.m Z.F22.F.kp Z.F22.b (zc (zk zA 1) (zc zh zj)))) (zd (zao (zbT Z.L20 Z.M13 (C 13 _ rfl) hr Z.F13.b (zk zA 5) (zc (zB (zc zx (zc (zk zA 8) zj))) zj))) (zd (zz (i:=9) nd rfl (lcF (i:=9) zA rfl) (zo (C 40 _ rfl) hr zis Z.F40.m Z.F40.F.kp Z.F40.b (zc (zk zA 1) (zc (zk zA 4) zj)))) (zd (zk7 (i:=10) nd rfl (lcF (i:=10) zA rfl) rfl (ybA (NC:=["_law_k","_law_state","_law_cells"]) (slots:=[none,some 1,some 4]) ["_law_script","_law_state","_law_w","_law_wide","_law_cells","_law_machine","_law_kept_here","_law_spot","_law_mark","_law_bad_here","_law_right","_law_at","_law_among","_law_turn","_law_strange_here","_law_letter_here","_law_place","_law_word","_law_due"] (yc zbO) rfl rfl rfl (by trivial) (by trivial) (by trivial) (by trivial) rfl) (by decide) (zb7 ze0 Z.z_range (zo (C 22 _ rfl) hr zaP Z.F22.m Z.F22.F.kp Z.F22.b (zc (zk zA 1) (zc zh zj)))) (fun j=>zeo rfl (zbq (i:=0) (show (["_law_k","_law_state","_law_cells"]:List Str).Nodup by trivial) rfl (by first|exact Or.inl rfl|exact Or.inr rfl))) (fun j=>zdH) (fun j=>zet rfl (zo (C 29 _ rfl) hr rfl Z.F29.m Z.F29.F.kp Z.F29.b (zc (yb0 1) (zc (yb0 2) zj))))) (zd (zz (i:=11) nd rfl (lcF (i:=11) zA rfl) (zo (C 22 _ rfl) hr zaP Z.F22.m Z.F22.F.kp Z.F22.b (zc (zk zA 1) (zc (zr zah (zV zaJ zgs Z.z_len zaK (zc (zk zA 10) zj)) zh) zj)))) (zd (zG (zax (zai (zo (C 32 _ rfl) hr zgb Z.F32.m Z.F32.F.kp Z.F32.b (zc (zk zA 9) zj)))) (zd (zz (i:=12) nd rfl (lcF (i:=12) zA rfl) (zr zah (zr zah (zaq (zk zA 10) z9 (zab (zk zA 11))) (zeH (zc (zk zA 9) zj))) (zaq (zk zA 10) (zab (zk zA 11)) z9))) (zd (zcT own1 rfl (zb7 ze0 Z.z_range zh) (zbq (i:=13) nd rfl (lcF (i:=13) zA rfl)) (zd (zG (za5 (zbP (zD (zd1 hr.units) (zo (C 37 _ rfl) hr zbu Z.F37.m Z.F37.F.kp Z.F37.b (zc (zk zA 5) (zc zh (zc (zk zA 9) zj)))) zx (yt _)) (zbG (zD (zd1 hr.units) (zo (C 37 _ rfl) hr zbu Z.F37.m Z.F37.F.kp Z.F37.b (zc (zk zA 5) (zc zh (zc (zp (zB (zc (zk zA 12) (zc (zez ziB zhN Z.z_tuple zcX (zc (zk zA 12) zj)) zj))) (zk zA 13)) zj)))) zx (yt _))))) (zd zbd zl) zl) (zd (zG (za5 (zc2 (zD zob (zV zaJ zgs Z.z_len zaK (zc (zk zA 10) zj)) zh (yt _)) (zb2 (zD (zd1 hr.units) (zo (C 37 _ rfl) hr zbu Z.F37.m Z.F37.F.kp Z.F37.b (zc (zk zA 5) (zc zh (zc (zp (zk zA 10) zh) zj)))) zx (yt _))))) (zd zbd zl) zl) (zd (zG (zax (zai (zo (C 38 _ rfl) hr zeG Z.F38.m Z.F38.F.kp Z.F38.b (zc (zk zA 5) (zc (zk zA 4) (zc (zk zA 6) (zc (zk zA 8) zj))))))) (zd zbd zl) zl) zl)))) zl)) zl) (zd (zz (i:=14) nd rfl (lcF (i:=14) zA rfl) (zo (C 33 _ rfl) hr zdu Z.F33.m Z.F33.F.kp Z.F33.b (zc (zk zA 1) zj))) (zd (zki (zp (zB (zc (zp (zk zA 4) zh) (zc (zB (zc (zk zA 14) (zc (zp (zp (zk zA 4) zh) zh) zj))) (zc (zB (zc (zp (zp (zk zA 4) zh) zh) (zc (zk zA 14) zj))) zj)))) (zo (C 22 _ rfl) hr zaP Z.F22.m Z.F22.F.kp Z.F22.b (zc (zk zA 1) (zc zh zj)))) (zg5 rfl (zbW (i:=15) nd rfl (lcF (i:=15) zA rfl) (zbW (i:=16) nd rfl (lcF (i:=16) zA rfl) zfy)))) (zd (zz (i:=17) nd rfl (lcF (i:=17) zA rfl) (zp (zB (zc (zk zA 3) (zc (zgI zh) (zc (zo (C 33 _ rfl) hr zdu Z.F33.m Z.F33.F.kp Z.F33.b (zc (zk zA 1) zj)) (zc (zr zah (zk zA 3) (zo (C 22 _ rfl) hr zaP Z.F22.m Z.F22.F.kp Z.F22.b (zc (zk zA 1) (zc (zr zjb zh zh) zj)))) zj))))) (zo (C 22 _ rfl) hr zaP Z.F22.m Z.F22.F.kp Z.F22.b (zc (zk zA 1) (zc zh zj))))) (zd (zz (i:=18) nd rfl (lcF (i:=18) zA rfl) (zo (C 39 _ rfl) hr zfX Z.F39.m Z.F39.F.kp Z.F39.b (zc (zk zA 15) (zc (zk zA 16) (zc (zk zA 17) (zc (zk zA 3) zj)))))) (zd (zG (zD (zd1 hr.units) (zo (C 37 _ rfl) hr zbu Z.F37.m Z.F37.F.kp Z.F37.b (zc (zk zA 5) (zc zh (zc (zB (zc (zk zA 15) (zc (zk zA 16) (zc (zk zA 17) zj)))) zj)))) (zk zA 18) (yt _)) (zd zbd zl) zl) (zd (zG (za5 (zc2 (zD (zd1 hr.units) (zk zA 18) zx (yt _)) (zb2 (zax (zai (zo (C 38 _ rfl) hr zeG Z.F38.m Z.F38.F.kp Z.F38.b (zc (zk zA 5) (zc (zk zA 4) (zc (zk zA 6) (zc (zk zA 8) zj)))))))))) (zd zbd zl) zl) (zd (zy (zay (za6 hr.units) (zo (C 37 _ rfl) hr zbu Z.F37.m Z.F37.F.kp Z.F37.b (zc (zk zA 5) (zc zh (zc (zB (zc (zk zA 15) (zc (zk zA 16) zj))) zj)))) (zp (zB (zc zx (zc zx zj))) (zez zom zjJ Z.z_int zkP (zc (zg4 (zo (C 31 _ rfl) hr zfS Z.F31.m Z.F31.F.kp Z.F31.b (zc (zB (zc (zk zA 15) (zc (zk zA 16) zj))) zj))) zj))) (yt _))) zl))))))))))))))))))))
end
end WK
namespace IC
open PySem
noncomputable def ybw (call:Cl)(t:Tg)(b:Css)(xs:List PV)(ρ:Env)(st:Store):Fl:=forL t (fun ρ2 st2=>exs call ρ2 st2 b) xs ρ st
noncomputable def yaQ (call:Cl)(c:Ce)(b:Css)(n:Nat)(ρ:Env)(st:Store):Fl:=yav (fun ρ2 st2=>ev call ρ2 st2 c) (fun ρ2 st2=>exs call ρ2 st2 b) n ρ st
noncomputable def ycc (call:Cl)(ρ0:Env)(t:Tg)(c e:Ce)(x:PV)(st2:Store):R (Option PV):=match yL t x ρ0 with
 |none=>.bad
 |some ρ1=>(ev call ρ1 st2 c).bind fun b st3=>onO (truV st3 b) fun k=>cond k ((ev call ρ1 st3 e).bind fun y st4=>.ok (some y) st4) (.ok none st3)
noncomputable def yaW (call:Cl)(ρ0:Env)(t:Tg)(c e:Ce)(xs:List PV)(st:Store):R (List PV):=yas (ycc call ρ0 t c e) xs st
noncomputable def thenF (f:Fl)(k:Env->Store->Fl):Fl :=
 match f with
 | .nx ρ st=>k ρ st
 |f=>f
noncomputable def nxO (o:Option Env)(st:Store):Fl :=
 match o with
 |some ρ=>.nx ρ st
 |none=>.bad
noncomputable def stO (ρ:Env)(o:Option Store):Fl :=
 match o with
 |some st=>.nx ρ st
 |none=>.bad
section
variable {call:Cl}{ρ:Env}{st:Store}
theorem x_for {t:Tg}{it:Cit}{b:Css}:ex call ρ st (.for t it b)=(evi call ρ st it).fl ρ fun xs st1=>ybw call t b xs ρ st1:=by rw [ex];rfl
theorem zn0 {c:Ce}{b:Css}:ex call ρ st (.while c b)=yaQ call c b 100000 ρ st:=by rw [ex];rfl
theorem v_comp {sl:List (Option Nat)}{t:Tg}{it:Cit}{c e:Ce}:ev call ρ st (.comp sl t it c e)=(evi call ρ st it).bind fun xs st1=>ybR (yaW call (sl.map fun o=>o.bind fun j=>(ρ[j]?).join) t c e xs st1):=by rw [ev];rfl
theorem zdM {t:Tg}{b:Css}:ybw call t b [] ρ st=.nx ρ st:=by rw [ybw,forL]
theorem zbt {t:Tg}{b:Css}{x:PV}{xs:List PV}{ρ1:Env}(h:yL t x ρ=some ρ1):ybw call t b (x::xs) ρ st=yaG (exs call ρ1 st b) fun ρ2 st2=>ybw call t b xs ρ2 st2:=by
 rw [ybw,forL,h];rfl
theorem zgS {t:Tg}{b:Css}(P:Nat->Env->Store->Prop):∀(xs:List PV) (i:Nat) (ρ:Env) (st:Store),P i ρ st ->
  (∀(j:Nat) (x:PV) (ρ:Env) (st:Store),xs[j]?=some x->P (i+j) ρ st->∃ρ1 ρ2 st2,yL t x ρ=some ρ1/\exs call ρ1 st b=.nx ρ2 st2/\P (i+j+1) ρ2 st2) ->
  ∃ρ' st',ybw call t b xs ρ st=.nx ρ' st'/\P (i+xs.length) ρ' st'
 | [],i,ρ,st,h,_=>⟨ρ,st,zdM,h⟩
 |x::xs,i,ρ,st,h,k=>by
  obtain ⟨ρ1,ρ2,st2,e1,e2,h2⟩:=k 0 x ρ st rfl h
  obtain ⟨ρ',st',e3,h3⟩:=zgS P xs (i+1) ρ2 st2 h2 fun j y ρ st hy hp=>by
   have:=k (j+1) y ρ st (by simpa using hy) (by rw [show i+(j+1)=i+1+j by omega];exact hp)
   rw [show i+(j+1)+1=i+1+j+1 by omega] at this
   exact this
  refine ⟨ρ',st',?_,by rw [List.length_cons,show i+(xs.length+1)=i+1+xs.length by omega];exact h3⟩
  rw [zbt e1,e2]
  exact e3
theorem zly {c:Ce}{b:Css}{n:Nat}{x:PV}{st1 st2:Store}{ρ2:Env}(h:ev call ρ st c=.ok x st1)(ht:truV st1 x=some true)(hb:exs call ρ st1 b=.nx ρ2 st2):yaQ call c b (n+1) ρ st=yaQ call c b n ρ2 st2:=by
 rw [yaQ,yav,h]
 simp only [R.fl,ht,onF,cond_true,hb,yaG]
 rfl
theorem zh0 {c:Ce}{b:Css}{n:Nat}{x:PV}{st1:Store}(h:ev call ρ st c=.ok x st1)(ht:truV st1 x=some false):yaQ call c b (n+1) ρ st=.nx ρ st1:=by
 rw [yaQ,yav,h]
 simp only [R.fl,ht,onF,cond_false]
theorem zfz {ρ0:Env}{t:Tg}{c e:Ce}:yaW call ρ0 t c e [] st=.ok [] st:=by rw [yaW,yas]
theorem zeK {ρ0:Env}{t:Tg}{c e:Ce}{x:PV}{xs:List PV}:yaW call ρ0 t c e (x::xs) st=(ycc call ρ0 t c e x st).bind fun o st1=>(yaW call ρ0 t c e xs st1).bind fun ys st2=>.ok (ybP o ys) st2:=by
 rw [yaW,yas];rfl
theorem zfF {ρ0:Env}{t:Tg}{c e:Ce}{f:PV->PV}:∀(xs:List PV),(∀x∈xs,ycc call ρ0 t c e x st=.ok (some (f x)) st)->yaW call ρ0 t c e xs st=.ok (xs.map f) st
 | [],_=>zfz
 |x::xs,h=>by
  rw [zeK,h x List.mem_cons_self]
  simp only [R.bind]
  rw [zfF xs fun y hy=>h y (List.mem_cons_of_mem _ hy)]
  rfl
theorem xs_nil:exs call ρ st .nil=.nx ρ st:=by rw [exs]
theorem xs_cons {s:Cs}{ss:Css}:exs call ρ st (.cons s ss)=thenF (ex call ρ st s) fun ρ1 st1=>exs call ρ1 st1 ss:=by
 rw [exs]
 cases ex call ρ st s <;> rfl
theorem x_asg {t:Tg}{e:Ce}:ex call ρ st (.asg t e)=(ev call ρ st e).fl ρ fun v st1=>nxO (yL t v ρ) st1:=by
 rw [ex]
 refine congrArg _ (funext fun v=>funext fun st1=>?_)
 cases yL t v ρ <;> rfl
theorem x_expr {e:Ce}:ex call ρ st (.expr e)=(ev call ρ st e).fl ρ fun _ st1=>.nx ρ st1:=by rw [ex]
theorem x_ret {e:Ce}:ex call ρ st (.ret e)=(ev call ρ st e).fl ρ fun v st1=>.rt v st1:=by rw [ex]
theorem x_ite {c:Ce}{a b:Css}:ex call ρ st (.ite c a b)=(ev call ρ st c).fl ρ fun x st1=>onF (truV st1 x) fun k=>cond k (exs call ρ st1 a) (exs call ρ st1 b):=by rw [ex]
theorem x_raise {c:Nat}{e:Ce}:ex call ρ st (.raise c e)=(ev call ρ st e).fl ρ fun _ st1=>.exc c ρ st1:=by rw [ex]
noncomputable def yd0 (i:Nat)(f:Fl):Fl :=
 match f with
 | .nx ρ2 st2=>.nx (ρ2.set i none) st2
 | .rt v st2=>.rt v st2
 |_=>.bad
noncomputable def ydT (cs:List Nat)(i:Nat)(f:Fl)(k:Env->Store->Nat->Fl):Fl :=
 match f with
 | .exc d ρ1 st1=>if cs.contains d then yd0 i (k ρ1 st1 d) else .bad
 |f=>f
theorem x_try {b h:Css}{cs:List Nat}{i:Nat}:ex call ρ st (.try b cs i h)=ydT cs i (exs call ρ st b) fun ρ1 st1 d=>exs call (ρ1.set i (some (.exn d))) st1 h:=by
 rw [ex]
 cases exs call ρ st b <;> rfl
theorem x_six {o i e:Ce}:ex call ρ st (.six o i e)=(ev call ρ st e).fl ρ fun v st1=>(ev call ρ st1 o).fl ρ fun x st2=>(ev call ρ st2 i).fl ρ fun y st3=>stO ρ (yat st3 x y v):=by
 rw [ex]
 refine congrArg _ (funext fun v=>funext fun st1=>congrArg _ (funext fun x=>funext fun st2=>congrArg _ (funext fun y=>funext fun st3=>?_)))
 cases yat st3 x y v <;> rfl
theorem zoA {c:Nat}{o e:Ce}{f:Str}:ex call ρ st (.sfl c o f e)=(ev call ρ st e).fl ρ fun v st1=>(ev call ρ st1 o).fl ρ fun x st2=>stO ρ (ybx c st2 x f v):=by
 rw [ex]
 refine congrArg _ (funext fun v=>funext fun st1=>congrArg _ (funext fun x=>funext fun st2=>?_))
 cases ybx c st2 x f v <;> rfl
theorem zko {o i e:Ce}:ex call ρ st (.dput o i e)=(ev call ρ st e).fl ρ fun v st1=>(ev call ρ st1 o).fl ρ fun x st2=>(ev call ρ st2 i).fl ρ fun y st3=>stO ρ (yaP st3 x y v):=by
 rw [ex]
 refine congrArg _ (funext fun v=>funext fun st1=>congrArg _ (funext fun x=>funext fun st2=>congrArg _ (funext fun y=>funext fun st3=>?_)))
 cases yaP st3 x y v <;> rfl
theorem zpB {i:Nat}{o:BOp}{e:Ce}{x:PV}(h:ρ[i]?=some (some x)):ex call ρ st (.aug i o e)=(ev call ρ st e).fl ρ fun y st1=>nxO ((ybU o x y).map fun z=>ρ.set i (some z)) st1:=by
 rw [ex,h]
 show (ev call ρ st e).fl ρ _=_
 refine congrArg _ (funext fun y=>funext fun st1=>?_)
 cases ybU o x y <;> rfl
end
end IC
namespace WK
open IC PySem
noncomputable def chS (c:Nat):Str:=⟨#[c]⟩
noncomputable def yeJ (c:Nat)(i:Int):PV:=.tup [.str (chS c),.int i]
noncomputable abbrev Mem:=Nat->Int->Int
noncomputable def upd (M:Mem)(c:Nat)(i v:Int):Mem:=fun d j=>if d=c/\j=i then v else M d j
def Rel (kvs:List (PV×PV))(M:Mem):Prop:=∀c i,(look (yeJ c i) kvs).getD (.int 0)=.int (M c i)
noncomputable abbrev Cel:=Nat×Int
inductive Rw where
 | mark (d:Int)|ask (x:Cel)|set (t:Cel) (d:Int)|move (t x:Cel)|bare (t x:Cel)|twice (t x:Cel)|half (t x:Cel)
 | sum (t x y:Cel)|less (t x y:Cel)|both (t x y:Cel)|any (t x y:Cel)|odd (t x y:Cel)
theorem zlF {st:Store}{n:Nat}{o:Ob}(h:st[n]?=some o):st=st.set n o:=by
 refine List.ext_getElem? fun i=>?_
 rw [List.getElem?_set]
 split
 ·rename_i e
  subst e
  split
  ·exact h
  ·rename_i z
   rw [List.getElem?_eq_none (by omega)] at h
   cases h
 ·rfl
theorem zfK (i:Int):shp (.int i)=true:=rfl
section
variable {st:Store}{k:Bool}{a b c d e:PV}{r:List PV}{i j:Int}
theorem ix0:idxV st (.tp k (a::r)) (.int 0)=some a:=by simp [idxV,idxI,at?,ixI]
theorem ix1:idxV st (.tp k (a::b::r)) (.int 1)=some b:=by
 have:(1:Int)<(r.length:Int)+1+1:=by omega
 simp [idxV,idxI,at?,ixI,this]
theorem ix2:idxV st (.tp k (a::b::c::r)) (.int 2)=some c:=by
 have:(2:Int)<(r.length:Int)+1+1+1:=by omega
 simp [idxV,idxI,at?,ixI,this]
theorem b_add:binV .add (.int i) (.int j)=some (.int (i+j)):=rfl
theorem b_sub:binV .sub (.int i) (.int j)=some (.int (i - j)):=rfl
theorem zn6 (h:i.natAbs<18446744073709551616 \/ j.natAbs<18446744073709551616):binV .mul (.int i) (.int j)=some (.int (i*j)):=by
 have:CMulB i j=true:=by simpa [CMulB] using h
 simp [binV,binI,this]
theorem zol (h:i.natAbs<18446744073709551616):binV .mul (.int i) (.int j)=some (.int (i*j)):=zn6 (.inl h)
theorem zkL (h:j.natAbs<18446744073709551616):binV .mul (.int i) (.int j)=some (.int (i*j)):=zn6 (.inr h)
theorem b_mul2:binV .mul (.int 2) (.int j)=some (.int (2*j)):=zn6 (.inl (by decide))
theorem b_div2:binV .fdiv (.int i) (.int 2)=some (.int (i / 2)):=rfl
theorem zoq (h:0<j):binV .mod (.int i) (.int j)=some (.int (i % j)):=by simp [binV,binI,h]
theorem toR_some {v:PV}:toR (some v) st=.ok v st:=rfl
theorem c_ne:cmpV .ne (.int i) (.int j)=some (.bl (!(i == j))):=by simp [cmpV,zfK,peq]
theorem c_eq:cmpV .eq (.int i) (.int j)=some (.bl (i == j)):=by simp [cmpV,zfK,peq]
theorem c_lt:cmpV .lt (.int i) (.int j)=some (.bl (decide (i<j))):=rfl
theorem c_le:cmpV .le (.int i) (.int j)=some (.bl (decide (i<=j))):=rfl
theorem c_gt:cmpV .gt (.int i) (.int j)=some (.bl (decide (j<i))):=rfl
theorem c_ge:cmpV .ge (.int i) (.int j)=some (.bl (decide (j<=i))):=rfl
theorem t_bl {b:Bool}:truV st (.bl b)=some b:=rfl
theorem on_t {f:Bool->Fl}{b:Bool}:onF (some b) f=f b:=rfl
theorem ono {α:Type}{f:Bool->R α}{b:Bool}:onO (some b) f=f b:=rfl
theorem zcY {ρ:IC.Env}:stO ρ (some st)=.nx ρ st:=rfl
theorem nxO_some {ρ:IC.Env}:nxO (some ρ) st=.nx ρ st:=rfl
theorem fl_ok {α:Type}{a:α}{ρ:IC.Env}{k:α->Store->Fl}:(R.ok a st).fl ρ k=k a st:=rfl
theorem bd_ok {α β:Type}{a:α}{k:α->Store->R β}:(R.ok a st).bind k=k a st:=rfl
theorem th_nx {ρ:IC.Env}{k:IC.Env->Store->Fl}:thenF (.nx ρ st) k=k ρ st:=rfl
theorem th_rt {v:PV}{k:IC.Env->Store->Fl}:thenF (.rt v st) k=.rt v st:=rfl
theorem fl_exc {α:Type}{c:Nat}{ρ:IC.Env}{k:α->Store->Fl}:(R.exc c st:R α).fl ρ k=.exc c ρ st:=rfl
theorem bd_exc {α β:Type}{c:Nat}{k:α->Store->R β}:(R.exc c st:R α).bind k=.exc c st:=rfl
theorem th_exc {c:Nat}{ρ:IC.Env}{k:IC.Env->Store->Fl}:thenF (.exc c ρ st) k=.exc c ρ st:=rfl
theorem noLocs_ints:∀(l:List Int),noLocs (l.map PV.int)=true
 | []=>rfl
 |_::l=>by simp [noLocs,noLoc,noLocs_ints l]
theorem bT_n {i:Nat}{v:PV}{ρ:IC.Env}:yL (.n i) v ρ=some (ρ.set i (some v)):=rfl
theorem mget {o k d:PV}:yaI .get st o [k,d]=ycN st o k d:=rfl
end
end WK
local macro_rules | `(tactic| dsimp! [$xs,*])=>`(tactic| simp only [IC.CMulB,IC.R.bind,IC.R.fl,IC.at?,IC.binI,IC.binV,IC.cmpI,IC.cmpV,IC.ev.eq_1,IC.ev.eq_16,IC.ev.eq_18,IC.ev.eq_2,IC.ev.eq_3,IC.ev.eq_8,IC.evs,IC.idxI,IC.idxV,IC.ixI,IC.nxO,IC.onBl,IC.onF,IC.thenF,IC.toR,IC.truV,IC.x_ite,IC.x_six,IC.xs_cons,IC.xs_nil,List.getElem?_cons_succ,List.getElem?_cons_zero,List.set_cons_succ,List.set_cons_zero,$xs,*])
local macro_rules | `(tactic| simp_all! [$xs,*])=>`(tactic| simp only [IC.R.fl,IC.thenF,IC.x_ret,IC.xs_cons,IC.xs_nil,List.cons_append,List.getElem?_cons_zero,List.length_cons,List.length_nil,List.map_cons,List.map_nil,List.nil_append,List.replicate,Nat.reduceSub,if_true,$xs,*])
local macro_rules | `(tactic| simp? [$xs,*])=>`(tactic| simp only [IC.CMulB,IC.R.bind,IC.at?,IC.binI,IC.binV,IC.cmpI,IC.cmpV,IC.ev.eq_1,IC.ev.eq_16,IC.ev.eq_2,IC.ev.eq_3,IC.ev.eq_6,IC.ev.eq_7,IC.ev.eq_8,IC.idxI,IC.idxV,IC.ixI,IC.onBl,IC.toR,List.getElem?_cons_succ,List.getElem?_cons_zero,$xs,*])
namespace WK
open IC PySem
theorem zne {i:Int}(h:i.natAbs<2 ^ 1000):∃y,ybT (.int i)=some y/\y.length<=2000:=by
 have hl:i.natAbs.log2<1920:=by
  by_cases h0:i.natAbs=0
  ·rw [h0];decide
  ·exact (Nat.log2_lt h0).mpr (Nat.lt_of_lt_of_le h (Nat.pow_le_pow_right (by omega) (by omega)))
 refine ⟨_,by rw [ybT,if_pos hl],?_⟩
 rw [PySem.ofString_length]
 have:=PySem.int_text_length_le (k:=1920) (by decide) hl
 omega
theorem znl {s:Str}(h:s.length<=2000):∃y,ybT (.str s)=some y/\y.length<=2000:=⟨s,by rw [ybT,if_pos (by omega)],h⟩
theorem zk5:∀(vs:List PV) (out:Str),(∀v∈vs,∃y,ybT v=some y/\y.length<=2000)->out.length+2000*vs.length<=16777216->∃z,ycq out vs=some z
 | [],out,_,h=>⟨out,by rw [ycq,if_pos (by simpa using h)]⟩
 |v::vs,out,hv,h=>by
  obtain ⟨y,e,l⟩:=hv v List.mem_cons_self
  have hl:(out++y).length=out.length+y.length:=PySem.Str.length_append out y
  rw [List.length_cons] at h
  obtain ⟨z,e2⟩:=zk5 vs (out++y) (fun u hu=>hv u (List.mem_cons_of_mem _ hu)) (by omega)
  exact ⟨z,by rw [ycq,e];show (if _ then _ else _)=_;rw [if_pos (by omega)];exact e2⟩
theorem znd {vs:List PV}(st:Store)(hv:∀v∈vs,∃y,ybT v=some y/\y.length<=2000)(h:vs.length<=8000):∃z,ydH (.ok vs st)=.ok (.str z) st:=by
 obtain ⟨z,e⟩:=zk5 vs Str.empty hv (by show 0+_<=_;omega)
 exact ⟨z,by rw [ydH,e]⟩
mutual
noncomputable def tam (d m:Nat):PV->Bool
 | .non=>true
 | .bl _=>true
 | .int _=>true
 | .str s=>s.cps.toList.all (· < 128) && decide (s.cps.toList.length<=m)
 | .tp _ xs=>decide (0<d) && (decide (xs.length<=m) && ybf (d - 1) m xs)
 | .lst xs=>decide (0<d) && (decide (xs.length<=m) && ybf (d - 1) m xs)
 |_=>false
noncomputable def ybf (d m:Nat):List PV->Bool
 | []=>true
 |x::xs=>tam d m x && ybf d m xs
end
theorem zer (d m:Nat):∀xs:List PV,ybf d m xs=true ↔ ∀x∈xs,tam d m x=true
 | []=>by simp [ybf]
 |x::xs=>by simp [ybf,zer d m xs]
mutual
theorem zaa (d m:Nat):∀v:PV,tam d m v=true->noLoc v=true
 | .non,_=>rfl
 | .bl _,_=>rfl
 | .int _,_=>rfl
 | .str _,_=>rfl
 | .tp _ xs,h=>by simp only [tam,Bool.and_eq_true] at h;simp only [noLoc];exact zeP (d - 1) m xs h.2.2
 | .lst xs,h=>by simp only [tam,Bool.and_eq_true] at h;simp only [noLoc];exact zeP (d - 1) m xs h.2.2
 | .loc _,h=>by simp [tam] at h
 | .exn _,h=>by simp [tam] at h
 | .scr _,h=>by simp [tam] at h
theorem zeP (d m:Nat):∀v:List PV,ybf d m v=true->noLocs v=true
 | [],_=>rfl
 |x::xs,h=>by
  simp only [ybf,Bool.and_eq_true] at h
  simp only [noLocs,Bool.and_eq_true]
  exact ⟨zaa d m x h.1,zeP d m xs h.2⟩
end
theorem yez {s:Str}(h:s.cps.toList.all (· < 128)=true):s.cps.all (· < 0x110000)=true:=by
 rw [<- Array.all_toList]
 rw [List.all_eq_true] at h ⊢
 intro x hx
 have:=h x hx
 simp only [decide_eq_true_eq] at this ⊢
 omega
mutual
theorem zky (d m:Nat):∀(v:PV) (n:Nat),tam d m v=true->d<=n->shd n v=true
 | .non,n,_,_=>rfl
 | .bl _,n,_,_=>rfl
 | .int _,n,_,_=>rfl
 | .str s,n,h,_=>by simp only [tam,Bool.and_eq_true] at h;exact yez h.1
 | .tp _ xs,n,h,l=>by
  simp only [tam,Bool.and_eq_true,decide_eq_true_eq] at h
  simp only [shd,Bool.and_eq_true,decide_eq_true_eq]
  exact ⟨by omega,zfh (d - 1) m xs (n - 1) h.2.2 (by omega)⟩
 | .lst xs,n,h,l=>by
  simp only [tam,Bool.and_eq_true,decide_eq_true_eq] at h
  simp only [shd,Bool.and_eq_true,decide_eq_true_eq]
  exact ⟨by omega,zfh (d - 1) m xs (n - 1) h.2.2 (by omega)⟩
 | .loc _,n,h,_=>by simp [tam] at h
 | .exn _,n,h,_=>by simp [tam] at h
 | .scr _,n,h,_=>by simp [tam] at h
theorem zfh (d m:Nat):∀(v:List PV) (n:Nat),ybf d m v=true->d<=n->ya8 n v=true
 | [],n,_,_=>rfl
 |x::xs,n,h,l=>by
  simp only [ybf,Bool.and_eq_true] at h
  simp only [ya8,Bool.and_eq_true]
  exact ⟨zky d m x n h.1 l,zfh d m xs n h.2 l⟩
end
mutual
theorem zcI {d m d' m':Nat}(hd:d<=d')(hm:m<=m'):∀v:PV,tam d m v=true->tam d' m' v=true
 | .non,_=>rfl
 | .bl _,_=>rfl
 | .int _,_=>rfl
 | .str s,h=>by simp only [tam,Bool.and_eq_true,decide_eq_true_eq] at h ⊢;exact ⟨h.1,by omega⟩
 | .tp _ xs,h=>by
  simp only [tam,Bool.and_eq_true,decide_eq_true_eq] at h ⊢
  exact ⟨by omega,by omega,zie (by omega) hm xs h.2.2⟩
 | .lst xs,h=>by
  simp only [tam,Bool.and_eq_true,decide_eq_true_eq] at h ⊢
  exact ⟨by omega,by omega,zie (by omega) hm xs h.2.2⟩
 | .loc _,h=>by simp [tam] at h
 | .exn _,h=>by simp [tam] at h
 | .scr _,h=>by simp [tam] at h
theorem zie {d m d' m':Nat}(hd:d<=d')(hm:m<=m'):∀v:List PV,ybf d m v=true->ybf d' m' v=true
 | [],_=>rfl
 |x::xs,h=>by
  simp only [ybf,Bool.and_eq_true] at h ⊢
  exact ⟨zcI hd hm x h.1,zie hd hm xs h.2⟩
end
theorem zcn {d m:Nat}{k:Bool}{xs:List PV}:tam d m (.tp k xs)=true ↔ 0<d/\xs.length<=m/\∀x∈xs,tam (d - 1) m x=true:=by
 simp only [tam,Bool.and_eq_true,decide_eq_true_eq,zer]
theorem zn5 {d m:Nat}{xs:List PV}:tam d m (.lst xs)=true ↔ 0<d/\xs.length<=m/\∀x∈xs,tam (d - 1) m x=true:=by
 simp only [tam,Bool.and_eq_true,decide_eq_true_eq,zer]
theorem zd5 {d m:Nat}{v:PV}(h:tam d m v=true)(hd:d<=60):shp v=true:=zky d m v 60 h hd
theorem ziH (f:PV->Bool):∀xs:List PV,allB (xs.map fun x=>.bl (f x))=some (xs.all f)
 | []=>rfl
 |x::xs=>by simp [allB,ziH f xs]
theorem zg1 (ys:List PV)(h:ys.length<=1000000)(st:Store):ybR (.ok ys st)=.ok (.lst ys) st:=by simp [ybR,h]
theorem zj7 (f:PV->Bool)(xs:List PV)(st:Store):yaf .all st [.lst (xs.map fun x=>.bl (f x))]=some (.bl (xs.all f)):=by
 simp [yaf,yG,ziH]
theorem zje (n:Nat)(h:n<1000):ycA (.int (n:Int))=some (yD n 0 1):=by
 simp [ycA];omega
theorem zg2 {z:Int}(h:0<=z):∃n:Nat,z=n:=⟨z.toNat,by omega⟩
noncomputable def ycD (st:Store)(f:Fl):R PV :=
 match f with
 | .rt v _=>if noLoc v then .ok v st else .bad
 | .nx _ _=>.ok .non st
 | .exc c _ _=>.exc c st
 |_=>.bad
theorem zaf {T:Nat->Option IC.Fn}{k f:Nat}{fn:IC.Fn}{args:List PV}{st:Store}(hT:T f=some fn)(hp:fn.pure=true)(hl:args.length=fn.np)(hn:noLocs args=true) :
  yd T (k+1) f args st=ycD st (exs (yd T k) (args.map some++List.replicate (fn.ns - fn.np) none) [] fn.body):=by
 rw [yd,hT]
 dsimp only
 rw [if_pos hl,if_pos hp,if_pos hn]
 rfl
noncomputable def outI (f:Fl):R PV :=
 match f with
 | .rt v st1=>.ok v st1
 | .nx _ st1=>.ok .non st1
 | .exc c _ st1=>.exc c st1
 |_=>.bad
theorem zJ {T:Nat->Option IC.Fn}{k f:Nat}{fn:IC.Fn}{args:List PV}{st:Store}(hT:T f=some fn)(hp:fn.pure=false)(hl:args.length=fn.np) :
  yd T (k+1) f args st=outI (exs (yd T k) (args.map some++List.replicate (fn.ns - fn.np) none) st fn.body):=by
 rw [yd,hT]
 dsimp only
 rw [if_pos hl,hp,if_neg (by simp)]
 rfl
theorem zaT {st:Store}{v:PV}:outI (.rt v st)=.ok v st:=rfl
theorem zI {st s:Store}{b:Bool}:ycD st (.rt (.bl b) s)=.ok (.bl b) st:=rfl
theorem znr {st s:Store}{b:Int}:ycD st (.rt (.int b) s)=.ok (.int b) st:=rfl
theorem zgO {α:Type}{xs:List α}{lo hi:Option Int}{x:α}(h:x∈cut xs lo hi):x∈xs:=List.mem_of_mem_drop (List.mem_of_mem_take h)
theorem zgK {α:Type}(xs:List α)(lo hi:Option Int):(cut xs lo hi).length<=xs.length:=by
 unfold cut
 rw [List.length_take,List.length_drop]
 omega
theorem zhT {k:Bool}{xs:List PV}(a b:Option Int):∃j ys,yaZ (.tp k xs) a b=some (.tp j ys)/\ys.length<=xs.length/\∀y∈ys,y∈xs:=by
 simp only [yaZ]
 split
 ·exact ⟨k,xs,rfl,Nat.le_refl _,fun _ h=>h⟩
 ·exact ⟨false,_,rfl,zgK xs a b,fun _ h=>zgO h⟩
theorem ziT {k j:Bool}{a b:List PV}(h:a.length+b.length<=sizeMax):∃i ys,binV .add (.tp k a) (.tp j b)=some (.tp i ys)/\ys.length=a.length+b.length/\∀y∈ys,y∈a \/ y∈b:=by
 simp only [binV,if_pos h,ydX]
 cases a with
 |nil=>exact ⟨j,b,rfl,by simp,fun y h=>.inr h⟩
 |cons x a =>
  cases b with
  |nil=>exact ⟨k,x::a,rfl,by simp,fun y h=>.inl h⟩
  |cons z b=>exact ⟨false,_,rfl,by rw [List.length_append],fun y h=>List.mem_append.1 h⟩
noncomputable def yak:PV:=.tup [.int 2147483647,.int 2147483629,.int 2147483587,.int 2147483579,.int 2147483563]
noncomputable def ydB:Css:=match yan.body with
 | .cons _ (.cons _ (.cons (.for _ _ b) _))=>b
 |_=>.nil
theorem zf6 {c:Cl}{s num g p:Int}{i:Nat}{u5 u6 u7:Option PV}(hg:∀st,idxV st (.tup [.int 11,.int 101,.int 1009,.int 10007,.int 100003]) (.int i)=some (.int g))(hi:i<5)(hp:0<p)(hp2:p<18446744073709551616) :
  ∃num' v5 v6 v7,exs c [some (.int s),some yak,some (.int num),some (.int i),some (.int p),u5,u6,u7] [] ydB=.nx [some (.int s),some yak,some (.int num'),some (.int i),some (.int p),v5,v6,v7] []:=by
 have h1:∀z:Int,binV .mul (.int z) (.int (48271+2*(i:Int)))=some (.int (z*(48271+2*(i:Int)))):=fun z=>zkL (by omega)
 have h2:∀z y:Int,binV .mul (.int z) (.int (y % p))=some (.int (z*(y % p))):=fun z y=>zkL (by
  have a:=Int.emod_nonneg y (show p≠0 by omega)
  have b:=Int.emod_lt_of_pos y hp
  omega)
 have h3:∀z:Int,binV .mul (.int z) (.int p)=some (.int (z*p)):=fun z=>zkL (by omega)
 simp only [ydB,yan,List.length_cons,List.length_nil,Nat.zero_add,Nat.reduceAdd,if_true,xs_cons,xs_nil,x_asg,ev.eq_1,ev.eq_2,ev.eq_3,ev.eq_11,ev.eq_16,evs,List.getElem?_cons_zero,List.getElem?_cons_succ,bd_ok,fl_ok,toR_some,bT_n,nxO_some,th_nx,List.set_cons_zero,List.set_cons_succ,sizeMax,Nat.reduceLeDiff,b_add,b_mul2,hg,h1,h2,h3,zoq hp]
 exact ⟨_,_,_,_,rfl⟩
theorem zlI {c:Cl}{s num:Int}{u5 u6 u7:Option PV}(i:Nat)(p:Int)(h:(i,p)∈[(0,(2147483647:Int)),(1,2147483629),(2,2147483587),(3,2147483579),(4,2147483563)]) :
  ∃num' v5 v6 v7,exs c [some (.int s),some yak,some (.int num),some (.int i),some (.int p),u5,u6,u7] [] ydB=.nx [some (.int s),some yak,some (.int num'),some (.int i),some (.int p),v5,v6,v7] []:=by
 simp only [List.mem_cons,Prod.mk.injEq,List.not_mem_nil,or_false] at h
 rcases h with ⟨rfl,rfl⟩|⟨rfl,rfl⟩|⟨rfl,rfl⟩|⟨rfl,rfl⟩|⟨rfl,rfl⟩
 ·exact zf6 (fun _=>rfl) (by decide) (by decide) (by decide)
 ·exact zf6 (fun _=>rfl) (by decide) (by decide) (by decide)
 ·exact zf6 (fun _=>rfl) (by decide) (by decide) (by decide)
 ·exact zf6 (fun _=>rfl) (by decide) (by decide) (by decide)
 ·exact zf6 (fun _=>rfl) (by decide) (by decide) (by decide)
noncomputable def ydG:List PV:=[.tup [.int 0,.int 2147483647],.tup [.int 1,.int 2147483629],.tup [.int 2,.int 2147483587],.tup [.int 3,.int 2147483579],.tup [.int 4,.int 2147483563]]
theorem mixed (k:Nat)(s:Int)(st:Store):∃num,yd T (k+1) ziS [.int s] st=.ok (.int num) st:=by
 obtain ⟨ρ',st',h,num,a,b,c,d,e,e1,e2⟩:=zgS (call:=yd T k) (t:=.t [3,4]) (b:=ydB) (fun _ ρ st=>∃num a b c d e,ρ=[some (.int s),some yak,some (.int num),a,b,c,d,e]/\st=[]) ydG 0 [some (.int s),some yak,some (.int 0),none,none,none,none,none] [] ⟨_,_,_,_,_,_,rfl,rfl⟩ (by
  rintro j x ρ st hx ⟨num,a,b,c,d,e,rfl,rfl⟩
  have hx:=List.mem_of_getElem? hx
  have hx:∃i p,x=.tup [.int ((i:Nat):Int),.int p]/\(i,p)∈[(0,(2147483647:Int)),(1,2147483629),(2,2147483587),(3,2147483579),(4,2147483563)]:=by
   simp only [ydG,List.mem_cons,List.not_mem_nil,or_false] at hx
   rcases hx with rfl|rfl|rfl|rfl|rfl
   ·exact ⟨0,_,rfl,by simp⟩
   ·exact ⟨1,_,rfl,by simp⟩
   ·exact ⟨2,_,rfl,by simp⟩
   ·exact ⟨3,_,rfl,by simp⟩
   ·exact ⟨4,_,rfl,by simp⟩
  obtain ⟨i,p,rfl,hm⟩:=hx
  obtain ⟨num',v5,v6,v7,hh⟩:=zlI (c:=yd T k) (s:=s) (num:=num) (u5:=c) (u6:=d) (u7:=e) i p hm
  exact ⟨_,_,_,rfl,hh,_,_,_,_,_,_,rfl,rfl⟩)
 subst e1 e2
 refine ⟨num,?_⟩
 rw [yd]
 have hb:yan.body=.cons (.asg (.n 1) (.tup (.cons (.cst (.int 2147483647)) (.cons (.cst (.int 2147483629)) (.cons (.cst (.int 2147483587)) (.cons (.cst (.int 2147483579)) (.cons (.cst (.int 2147483563)) .nil))))))) (.cons (.asg (.n 2) (.cst (.int 0))) (.cons (.for (.t [3,4]) (.enum (.var 1)) ydB) (.cons (.ret (.var 2)) .nil))):=rfl
 have hT:T ziS=some ⟨1,8,true,yan.body⟩:=rfl
 have hp:PV.tup [.int 2147483647,.int 2147483629,.int 2147483587,.int 2147483579,.int 2147483563]=yak:=rfl
 rw [hT,hb]
 have h5:ev (yd T k) [some (.int s),none,none,none,none,none,none,none] [] (.tup (.cons (.cst (.int 2147483647)) (.cons (.cst (.int 2147483629)) (.cons (.cst (.int 2147483587)) (.cons (.cst (.int 2147483579)) (.cons (.cst (.int 2147483563)) .nil))))))=.ok yak []:=by
  simp [ev.eq_1,ev.eq_11,evs,R.bind,sizeMax,yak]
 have he:evi (yd T k) [some (.int s),some yak,some (.int 0),none,none,none,none,none] [] (.enum (.var 1))=.ok ydG []:=by
  simp [evi,ev.eq_2,R.bind,yak,yab,ydG]
 simp_all! [noLocs,noLoc,Bool.and_self,x_asg,x_for,h5,yL,nxO,List.set_cons_zero,List.set_cons_succ,ev.eq_1,he,h,ev.eq_2,List.getElem?_cons_succ]
theorem rdS {st:Store}{n:Nat}{o x:Ob}(h:st[n]?=some o):(st.set n x)[n]?=some x:=by
 have:n<st.length:=by
  rcases Nat.lt_or_ge n st.length with h1|h1
  ·exact h1
  ·rw [List.getElem?_eq_none h1] at h;cases h
 rw [List.getElem?_set_self this]
theorem fill (k n:Nat)(ns:List Int)(hns:ns.length<=1000)(a p:Int)(ha:0<=a)(f:Bool)(st:Store)(h:st[n]?=some (.lst [.lst (ns.map .int),.int a,.int p,.bl f])) :
  ∃p' f',yd T (k+2) zkN [.loc n] st=.ok .non (st.set n (.lst [.lst (ns.map .int),.int (a+1),.int p',.bl f'])):=by
 rw [yd,show T zkN=some zec from rfl]
 by_cases hn:ns=[]
 ·subst hn
  obtain ⟨q,hq⟩:=mixed k (31*a+7) (st.set n (.lst [.lst [],.int (a+1),.int p,.bl true]))
  have h':st[n]?=some (.lst [.lst [],.int a,.int p,.bl f]):=h
  refine ⟨q,true,?_⟩
  dsimp! [zec,List.length_cons,List.length_nil,if_true,List.map_cons,List.map_nil,Nat.reduceSub,List.replicate,List.cons_append,List.nil_append,x_asg,stO,ev.eq_7,ev.eq_11,ev.eq_19,yL,h,rdS h,sizeMax,yat,yaf,lenV,yay,ha,decide_true,cond_true]
  simp [ha,h',rdS h',hq]
 ·have h0:0<ns.length:=List.length_pos_iff.2 hn
  have h1:=Int.emod_nonneg a (show (ns.length:Int)≠0 by omega)
  have h2:=Int.emod_lt_of_pos a (show (0:Int)<ns.length by omega)
  have h3:(a % (ns.length:Int)).toNat<ns.length:=by omega
  obtain ⟨v,hv⟩:∃v,ns[(a % (ns.length:Int)).toNat]?=some v:=⟨_,List.getElem?_eq_getElem h3⟩
  have hw:ns[(a % (ns.length:Int)).toNat]'h3=v:=by rw [List.getElem?_eq_getElem h3] at hv;exact Option.some.inj hv
  have h4:(ns.length:Int)<10000000000000000000000000000000000000000000000000000000000000000000000:=by omega
  have h5:(0:Int)<ns.length:=by omega
  by_cases hf:(ns.length:Int)<=a \/ 104729*(a / (ns.length:Int))+v<1000000000000000000
  ·obtain ⟨q,hq⟩:=mixed k (104729*(a / (ns.length:Int))+v) (st.set n (.lst [.lst (ns.map .int),.int (a+1),.int p,.bl true]))
   refine ⟨q,true,?_⟩
   rcases Classical.em ((ns.length:Int)<=a) with hg|hg
   ·dsimp! [zec,List.length_cons,List.length_nil,if_true,List.map_cons,List.map_nil,Nat.reduceSub,List.replicate,List.cons_append,List.nil_append,x_asg,stO,ev.eq_7,ev.eq_11,ev.eq_19,yL,h,rdS h,sizeMax,yat,yaf,lenV,yay,List.length_map,h5,h1,h2,h4,hg,and_self,decide_true,cond_true,List.getElem?_map,hv,Option.bind_some,Option.map_some]
    simp [h,rdS h,hq,h0,h1,h2,h4,hv,hw,hg]
   ·have hf:=hf.resolve_left hg
    dsimp! [zec,List.length_cons,List.length_nil,if_true,List.map_cons,List.map_nil,Nat.reduceSub,List.replicate,List.cons_append,List.nil_append,x_asg,stO,ev.eq_7,ev.eq_11,ev.eq_19,yL,h,rdS h,sizeMax,yat,yaf,lenV,yay,List.length_map,h5,h1,h2,h4,hg,hf,and_self,decide_true,cond_true,List.getElem?_map,hv,Option.bind_some,Option.map_some]
    simp [h,rdS h,hq,h0,h1,h2,h4,hv,hw,hg,hf]
  ·have hg:¬(ns.length:Int)<=a:=fun z=>hf (.inl z)
   have hf:¬104729*(a / (ns.length:Int))+v<1000000000000000000:=fun z=>hf (.inr z)
   refine ⟨104729*(a / (ns.length:Int))+v - 1000000000000000000,false,?_⟩
   dsimp! [zec,List.length_cons,List.length_nil,if_true,List.map_cons,List.map_nil,Nat.reduceSub,List.replicate,List.cons_append,List.nil_append,x_asg,stO,ev.eq_7,ev.eq_11,ev.eq_19,yL,h,rdS h,sizeMax,yat,yaf,lenV,yay,List.length_map,h5,h1,h2,h4,hg,hf,and_self,decide_true,cond_true,List.getElem?_map,hv,Option.bind_some,Option.map_some]
   simp [h,rdS h,h0,h1,h2,h4,hv,hw,hg,hf]
noncomputable def ybq:Ce:=match yO.body with
 | .cons _ (.cons (.while c _) _)=>c
 |_=>.nope
noncomputable def ybJ:Css:=match yO.body with
 | .cons _ (.cons (.while _ b) _)=>b
 |_=>.nil
theorem zkF {c:Cl}{n:Nat}{ns:List Int}{a p m t:Int}{f:Bool}{u:Option PV}{st:Store}(h:st[n]?=some (.lst [.lst (ns.map .int),.int a,.int p,.bl f])) :
  ∃B,ev c [some (.loc n),some (.int m),some (.int t),u] st ybq=.ok (.bl B) st/\(B=true->t<64):=by
 by_cases h1:t<64
 ·by_cases h2:p=0
  ·refine ⟨true,?_,fun _=>h1⟩
   simp? [ybq,yO,h]
   simp [h1,h2,zfK,peq]
  ·have h2:(p == 0)=false:=by simp [h2]
   cases f
   ·refine ⟨false,?_,fun _=>h1⟩
    simp? [ybq,yO,h]
    simp [h,h1,h2,zfK,peq]
   ·refine ⟨decide (p<m*4096),?_,fun _=>h1⟩
    simp? [ybq,yO,h]
    simp [h,h1,h2,zfK,peq]
 ·refine ⟨false,?_,fun z=>by cases z⟩
  simp? [ybq,yO,h]
  simp [h1]
theorem zjQ (k:Nat){n:Nat}{ns:List Int}(hns:ns.length<=1000){a p m t:Int}(ha:0<=a){f:Bool}{u:Option PV}{st:Store}(h:st[n]?=some (.lst [.lst (ns.map .int),.int a,.int p,.bl f])) :
  ∃p' f',exs (yd T (k+2)) [some (.loc n),some (.int m),some (.int t),u] st ybJ=.nx [some (.loc n),some (.int m),some (.int (t+1)),u] (st.set n (.lst [.lst (ns.map .int),.int (a+1),.int p',.bl f'])):=by
 obtain ⟨q,g,hq⟩:=fill k n ns hns a p ha f st h
 have hm:(1+q % 4093).natAbs<18446744073709551616:=by omega
 have hau:∀st,ex (yd T (k+2)) [some (.loc n),some (.int m),some (.int t),u] st (.aug 2 .add (.cst (.int 1)))=.nx [some (.loc n),some (.int m),some (.int (t+1)),u] st:=fun st=>by
  rw [zpB (x:=.int t) rfl]
  simp [ev.eq_1,R.fl,ybU,binV,binI,nxO]
 cases g
 ·refine ⟨q,false,?_⟩
  dsimp! [ybJ,yO,x_expr,hau,ev.eq_6,hq,ybU,Option.map_some,rdS h]
  simp [rdS h]
 ·by_cases hl:q<m*4096
  ·refine ⟨q+m*4096*(1+q % 4093),true,?_⟩
   dsimp! [ybJ,yO,x_expr,hau,ev.eq_6,hq,ybU,Option.map_some,rdS h,stO,yat]
   simp [rdS h,hl,hm]
  ·refine ⟨q,true,?_⟩
   dsimp! [ybJ,yO,x_expr,hau,ev.eq_6,hq,ybU,Option.map_some,rdS h]
   simp [rdS h,hl]
theorem zhG (k:Nat){n:Nat}{ns:List Int}(hns:ns.length<=1000){m:Int}{u:Option PV}:∀(r N:Nat) (t a p:Int) (f:Bool) (st:Store),r<=N->64 - t<=r->0<=a->st[n]?=some (.lst [.lst (ns.map .int),.int a,.int p,.bl f]) ->
  ∃t' a' p' f',0<=a'/\yaQ (yd T (k+2)) ybq ybJ (N+1) [some (.loc n),some (.int m),some (.int t),u] st=.nx [some (.loc n),some (.int m),some (.int t'),u] (st.set n (.lst [.lst (ns.map .int),.int a',.int p',.bl f']))
 |r,N,t,a,p,f,st,hN,ht,ha,h=>by
  obtain ⟨B,hB,hb⟩:=zkF (c:=yd T (k+2)) (m:=m) (t:=t) (u:=u) h
  have hs:st.set n (.lst [.lst (ns.map .int),.int a,.int p,.bl f])=st:=by
   refine List.ext_getElem? fun i=>?_
   rw [List.getElem?_set]
   split
   ·rename_i e
    subst e
    split
    ·exact h.symm
    ·rename_i z
     rw [List.getElem?_eq_none (by omega)] at h
     cases h
   ·rfl
  cases B with
  |false=>exact ⟨t,a,p,f,ha,by rw [zh0 hB rfl,hs]⟩
  |true =>
   have h64:=hb rfl
   match r,N with
   |0,_=>exact absurd ht (by omega)
   |r+1,N+1 =>
    obtain ⟨p1,f1,hx⟩:=zjQ k hns (m:=m) (t:=t) ha (u:=u) h
    obtain ⟨t',a',p',f',h0,h2⟩:=zhG k hns (m:=m) (u:=u) r N (t+1) (a+1) p1 f1 _ (by omega) (by omega) (by omega) (rdS h)
    refine ⟨t',a',p',f',h0,?_⟩
    rw [zly hB rfl hx,h2,List.set_set]
theorem take (k n:Nat)(ns:List Int)(hns:ns.length<=1000)(a p m:Int)(ha:0<=a)(hm:0<m)(hm2:m<10000000000000000000000000000000000000000000000000000000000000000000000)(f:Bool)(st:Store)(h:st[n]?=some (.lst [.lst (ns.map .int),.int a,.int p,.bl f])) :
  ∃d a' p' f',0<=d/\d<m/\0<=a'/\yd T (k+3) zaj [.loc n,.int m] st=.ok (.int d) (st.set n (.lst [.lst (ns.map .int),.int a',.int p',.bl f'])):=by
 obtain ⟨t',a',p',f',h0,h2⟩:=zhG k hns (m:=m) (u:=none) 64 99999 0 a p f st (by omega) (by omega) ha h
 refine ⟨p' % m,a',p' / m,f',Int.emod_nonneg _ (by omega),Int.emod_lt_of_pos _ hm,h0,?_⟩
 have hb:yO.body=.cons (.asg (.n 2) (.cst (.int 0))) (.cons (.while ybq ybJ) (.cons (.asg (.n 3) (.bin .mod (.idx (.var 0) (.cst (.int 2))) (.var 1))) (.cons (.six (.var 0) (.cst (.int 2)) (.bin .fdiv (.idx (.var 0) (.cst (.int 2))) (.var 1))) (.cons (.ret (.var 3)) .nil)))):=rfl
 have hT:T zaj=some ⟨2,4,false,yO.body⟩:=rfl
 rw [yd,hT,hb]
 simp_all! [x_asg,zn0,x_six,nxO,stO,ev.eq_1,ev.eq_2,ev.eq_3,ev.eq_16,R.bind,yL,List.set_cons_zero,List.set_cons_succ,List.getElem?_cons_succ,h2,rdS h,idxV,idxI,at?,ixI,binV,binI,hm,hm2,and_self,toR,yat]
 simp [rdS h,hm,hm2]
def Drw (ns:List Int)(n:Nat)(st:Store):Prop:=∃a p f,0<=a/\st[n]?=some (.lst [.lst (ns.map .int),.int a,.int p,.bl f])
def Onl (ns:List Int)(n:Nat)(st st':Store):Prop:=∃a p f,0<=a/\st'=st.set n (.lst [.lst (ns.map .int),.int a,.int p,.bl f])
theorem Onl.drw {ns:List Int}{n:Nat}{st st':Store}(h:Drw ns n st)(o:Onl ns n st st'):Drw ns n st':=by
 obtain ⟨a,p,f,ha,h⟩:=h
 obtain ⟨b,q,g,hb,rfl⟩:=o
 exact ⟨b,q,g,hb,rdS h⟩
theorem Onl.trans {ns:List Int}{n:Nat}{st st1 st2:Store}(o:Onl ns n st st1)(o2:Onl ns n st1 st2):Onl ns n st st2:=by
 obtain ⟨b,q,g,hb,rfl⟩:=o
 obtain ⟨c,r,j,hc,rfl⟩:=o2
 exact ⟨c,r,j,hc,by rw [List.set_set]⟩
theorem yah (k:Nat){n:Nat}{ns:List Int}(hns:ns.length<=1000){m:Int}(hm:0<m)(hm2:m<10000000000000000000000000000000000000000000000000000000000000000000000){st:Store}(h:Drw ns n st) :
  ∃d st',0<=d/\d<m/\Onl ns n st st'/\yd T (k+3) zaj [.loc n,.int m] st=.ok (.int d) st':=by
 obtain ⟨a,p,f,ha,h⟩:=h
 obtain ⟨d,a',p',f',h1,h2,h3,h4⟩:=take k n ns hns a p m ha hm hm2 f st h
 exact ⟨d,_,h1,h2,⟨_,_,_,h3,rfl⟩,h4⟩
theorem fresh (k:Nat)(ns:List Int)(h:ns.length<=63)(st:Store):∃v,yd T (k+1) zgY [.scr (ns.map .int)] st=.ok (.loc st.length) (st++[v])/\v=.lst [.lst (ns.map .int),.int 0,.int 0,.bl false]:=by
 have hT:T zgY=some zfo:=rfl
 refine ⟨_,?_,rfl⟩
 rw [yd,hT]
 simp_all! [zfo,ev,evs,R.bind,toR]
 have hc:ycx (.scr (ns.map PV.int)) none (.int 63)=some (.lst (ns.map .int)):=by
  have hk:ybt ns.length 63=ns.length:=by
   show min 63 ns.length=ns.length
   omega
  simp [ycx,ycd,yaZ,cut,ycw,ycL,hk]
  try rw [<- List.length_map (f:=PV.int),List.take_length]
 simp [ycd,onP,hc,sizeMax]
theorem Drw.refl {ns:List Int}{n:Nat}{st:Store}(h:Drw ns n st):Onl ns n st st:=by
 obtain ⟨a,p,f,ha,h⟩:=h
 exact ⟨a,p,f,ha,zlF h⟩
theorem Drw.pos {ns:List Int}{st:Store}(h:Drw ns 0 st):0<st.length:=by
 obtain ⟨a,p,f,ha,h⟩:=h
 rcases Nat.lt_or_ge 0 st.length with z|z
 ·exact z
 ·rw [List.getElem?_eq_none z] at h;cases h
theorem Drw.app {ns:List Int}{st:Store}(h:Drw ns 0 st)(o:Ob):Drw ns 0 (st++[o]):=by
 have hl:=h.pos
 obtain ⟨a,p,f,ha,h⟩:=h
 exact ⟨a,p,f,ha,by rw [List.getElem?_append_left hl];exact h⟩
theorem Drw.put {ns:List Int}{st:Store}(h:Drw ns 0 st){L:Nat}(hL:L≠0)(o:Ob):Drw ns 0 (st.set L o):=by
 obtain ⟨a,p,f,ha,h⟩:=h
 exact ⟨a,p,f,ha,by rw [List.getElem?_set_ne hL];exact h⟩
theorem Onl.get {ns:List Int}{st st':Store}(o:Onl ns 0 st st'){L:Nat}(hL:L≠0):st'[L]?=st[L]?:=by
 obtain ⟨a,p,f,ha,rfl⟩:=o
 rw [List.getElem?_set_ne (Ne.symm hL)]
theorem zjg (l:List Int):noLocs [PV.scr (l.map .int)]=true:=by simp [noLocs,noLoc,noLocs_ints]
theorem Onl.len {ns:List Int}{n:Nat}{st st':Store}(o:Onl ns n st st'):st'.length=st.length:=by
 obtain ⟨a,p,f,ha,rfl⟩:=o
 rw [List.length_set]
local macro_rules | `(tactic| simp! [$xs,*])=>`(tactic| simp only [IC.xs_cons,IC.xs_nil,IC.x_asg,IC.x_ite,IC.x_ret,IC.x_expr,IC.x_for,IC.x_six,IC.x_try,IC.x_raise,IC.evs,IC.evi,IC.ev.eq_1,IC.ev.eq_2,IC.ev.eq_3,IC.ev.eq_4,IC.ev.eq_5,IC.ev.eq_6,IC.ev.eq_7,IC.ev.eq_8,IC.ev.eq_9,IC.ev.eq_10,IC.ev.eq_11,IC.ev.eq_12,IC.ev.eq_13,IC.ev.eq_14,IC.ev.eq_15,IC.ev.eq_16,IC.ev.eq_17,IC.ev.eq_18,IC.ev.eq_19,IC.ev.eq_20,IC.ev.eq_21,IC.ev.eq_22,IC.ev.eq_24,IC.ev.eq_25,IC.ev.eq_26,IC.v_comp,List.getElem?_cons_zero,List.getElem?_cons_succ,WK.bd_ok,WK.fl_ok,WK.bd_exc,WK.fl_exc,WK.toR_some,IC.toL,WK.bT_n,WK.nxO_some,WK.th_nx,WK.th_rt,WK.th_exc,List.set_cons_zero,List.set_cons_succ,WK.on_t,WK.t_bl,WK.ono,IC.onBl,cond_true,cond_false,List.length_cons,List.length_nil,Nat.zero_add,Nat.reduceAdd,Nat.reduceSub,Nat.reduceLeDiff,if_true,IC.noLoc,IC.noLocs,WK.noLocs_ints,Bool.and_self,Bool.not_true,Bool.not_false,List.map_cons,List.map_nil,List.replicate,List.cons_append,List.nil_append,List.append_nil,Option.bind_none,Option.bind_some,Option.join_some,WK.b_add,WK.b_sub,WK.b_mul2,WK.b_div2,WK.c_lt,WK.c_le,WK.c_gt,WK.c_ge,WK.c_eq,WK.c_ne,IC.PV.tup,IC.sizeMax,$xs,*])
noncomputable def wh (lo hi:Int):PV->Bool
 | .int i=>decide (lo<=i) && decide (i<=hi)
 |_=>false
noncomputable def ltr:PV->Bool
 | .str s=>match s.cps.toList with
  | [c]=>decide (97<=c) && decide (c<=122)
  |_=>false
 |_=>false
noncomputable def told (n:Nat):PV->Bool
 | .tp _ xs=>decide (xs.length=n) && xs.all (wh (-200) 200)
 |_=>false
theorem zcS (k:Nat){d m:Nat}{v:PV}(hv:tam d m v=true)(lo hi:Int)(st:Store):yd T (k+1) zdN [v,.int lo,.int hi] st=.ok (.bl (wh lo hi v)) st:=by
 have hT:T zdN=some zaZ:=rfl
 have hn:=zaa d m v hv
 rw [zaf hT rfl rfl (by simp [noLocs,noLoc,hn])]
 cases v with
 |int i =>
  by_cases h:lo<=i
  ·simp! [zaZ,zI,yU,yP,yac,blO,decide_eq_true h,wh,Bool.true_and]
  ·simp! [zaZ,zI,yU,yP,yac,blO,decide_eq_false h,wh,Bool.false_and]
 |bl b=>simp! [zaZ,zI,yU,yP,yac,wh]
 |non=>simp! [zaZ,zI,yU,yP,yac,wh]
 |str s=>simp! [zaZ,zI,yU,yP,yac,wh]
 |tp b xs=>simp! [zaZ,zI,yU,yP,yac,wh]
 |lst xs=>simp! [zaZ,zI,yU,yP,yac,wh]
 |loc _=>simp [tam] at hv
 |exn _=>simp [tam] at hv
 |scr _=>simp [tam] at hv
theorem zmX (c d:Nat):decide ([c] < [d])=decide (c<d):=by
 have:[c] < [d] ↔ c<d:=by
  rw [List.cons_lt_cons_iff]
  simp
 exact decide_eq_decide.mpr this
theorem zoX:(Str.ofString "a").cps.toList=[97]:=by decide +kernel
theorem zop:(Str.ofString "z").cps.toList=[122]:=by decide +kernel
theorem zjP {s:Str}{st:Store}(h:s.cps.toList.length<=1000000):yaf .len st [.str s]=some (.int s.cps.toList.length):=by
 have:s.length=s.cps.toList.length:=by simp [Str.length]
 simp only [yaf,lenV,this]
 rw [if_pos (by simp only [sizeMax];omega)]
theorem zhL (k:Nat){d m:Nat}{v:PV}(hv:tam d m v=true)(hm:m<=1000)(st:Store):yd T (k+1) zfs [v] st=.ok (.bl (ltr v)) st:=by
 have hT:T zfs=some zar:=rfl
 have hn:=zaa d m v hv
 rw [zaf hT rfl rfl (by simp [noLocs,noLoc,hn])]
 cases v with
 |str s =>
  simp only [tam,Bool.and_eq_true,decide_eq_true_eq] at hv
  have hl:=zjP (s:=s) (st:=[]) (by omega)
  cases hs:s.cps.toList with
  |nil =>
   rw [hs] at hl
   simp! [zar,zI,yU,yP,yac,hl,ltr,hs]
   rfl
  |cons c r =>
   cases r with
   |nil =>
    rw [hs] at hl
    have h1:cmpV .le (.str "a") (.str s)=some (.bl (decide (97<=c))):=by
     simp only [cmpV,ydt,hs,zoX,zmX]
     by_cases q:c<97
     ·rw [decide_eq_true q,decide_eq_false (by omega)];rfl
     ·rw [decide_eq_false q,decide_eq_true (by omega)];rfl
    have h2:cmpV .le (.str s) (.str "z")=some (.bl (decide (c<=122))):=by
     simp only [cmpV,ydt,hs,zop,zmX]
     by_cases q:122<c
     ·rw [decide_eq_true q,decide_eq_false (by omega)];rfl
     ·rw [decide_eq_false q,decide_eq_true (by omega)];rfl
    have h0:(((1:Nat):Int) == 1)=true:=rfl
    by_cases q:97<=c
    ·simp! [zar,zI,yU,yP,yac,hl,h0,ltr,hs,h1,h2,blO,decide_eq_true q,Bool.true_and]
    ·simp! [zar,zI,yU,yP,yac,hl,h0,ltr,hs,h1,h2,blO,decide_eq_false q,Bool.false_and]
   |cons e r =>
    rw [hs] at hl
    have h0:((((c::e::r:List Nat).length:Nat):Int) == 1)=false:=by
     rw [beq_eq_false_iff_ne]
     simp only [List.length_cons]
     omega
    simp only [List.length_cons] at hl h0
    simp! [zar,zI,yU,yP,yac,hl,h0,ltr,hs]
 |int i=>simp! [zar,zI,yU,yP,yac,ltr]
 |bl b=>simp! [zar,zI,yU,yP,yac,ltr]
 |non=>simp! [zar,zI,yU,yP,yac,ltr]
 |tp b xs=>simp! [zar,zI,yU,yP,yac,ltr]
 |lst xs=>simp! [zar,zI,yU,yP,yac,ltr]
 |loc _=>simp [tam] at hv
 |exn _=>simp [tam] at hv
 |scr _=>simp [tam] at hv
theorem zi9 (a b:Nat):cmpV .ne (.int a) (.int b)=some (.bl (!decide (a=b))):=by
 rw [c_ne]
 by_cases h:a=b
 ·subst h;simp
 ·rw [decide_eq_false h,show ((a:Int) == b)=false by rw [beq_eq_false_iff_ne];omega]
theorem zW {k:Bool}{xs:List PV}{st:Store}:yaf .len st [.tp k xs]=some (.int xs.length):=rfl
theorem yco {d m:Nat}{v:PV}(hv:tam d m v=true)(hd:d<=60)(s:Str)(hs:s.cps.all (· < 0x110000)=true):cmpV .eq v (.str s)=some (.bl (peq v (.str s))):=by
 have h1:shp v=true:=zd5 hv hd
 have h2:shp (.str s)=true:=hs
 simp only [cmpV]
 rw [if_pos (by rw [h1,h2];rfl)]
theorem yeR {d m:Nat}{v:PV}(hv:tam d m v=true)(hd:d<=60)(s:Str)(hs:s.cps.all (· < 0x110000)=true):cmpV .ne v (.str s)=some (.bl (!peq v (.str s))):=by
 have h1:shp v=true:=zd5 hv hd
 have h2:shp (.str s)=true:=hs
 simp only [cmpV]
 rw [if_pos (by rw [h1,h2];rfl)]
theorem zhO (a b:Nat):cmpV .eq (.int a) (.int b)=some (.bl (decide (a=b))):=by
 rw [c_eq]
 by_cases h:a=b
 ·subst h;simp
 ·rw [decide_eq_false h,show ((a:Int) == b)=false by rw [beq_eq_false_iff_ne];omega]
noncomputable def isI:PV->Bool
 | .int _=>true
 |_=>false
theorem zck (k:Nat){d m:Nat}{v:PV}(hv:tam d m v=true)(st:Store):yd T (k+1) zfg [v] st=.ok (.bl (isI v)) st:=by
 have hT:T zfg=some zfp:=rfl
 have hn:=zaa d m v hv
 rw [zaf hT rfl rfl (by simp [noLocs,noLoc,hn])]
 cases v with
 |loc _=>simp [tam] at hv
 |exn _=>simp [tam] at hv
 |scr _=>simp [tam] at hv
 |_=>simp! [zfp,zI,yU,yP,yac,isI]
noncomputable abbrev ycs:Str:=Str.ofString "abcdefghijklmnopqrstuvwxyz"
theorem zn3:(List.range 128).all (fun c=>inS ⟨#[c]⟩ ycs == (decide (97<=c) && decide (c<=122)))=true:=by decide +kernel
theorem zn7 {c:Nat}(h:c<128):inS ⟨#[c]⟩ ycs=(decide (97<=c) && decide (c<=122)):=by
 have:=List.all_eq_true.mp zn3 c (by simpa using h)
 exact eq_of_beq this
theorem zk0 (s:Str){l:List Nat}(h:s.cps.toList=l):s=⟨l.toArray⟩:=by
 obtain ⟨⟨c⟩⟩:=s
 simp at h
 rw [h]
theorem zgL (k:Nat){d m:Nat}{v:PV}(hv:tam d m v=true)(hm:m<=1000)(st:Store):yd T (k+1) zhd [v] st=.ok (.bl (ltr v)) st:=by
 have hT:T zhd=some zcG:=rfl
 have hn:=zaa d m v hv
 rw [zaf hT rfl rfl (by simp [noLocs,noLoc,hn])]
 cases v with
 |str s =>
  simp only [tam,Bool.and_eq_true,decide_eq_true_eq] at hv
  have hl:=zjP (s:=s) (st:=[]) (by omega)
  by_cases h1:s.cps.toList.length=1
  ·obtain ⟨c,hs⟩:∃c,s.cps.toList=[c]:=by
    match h:s.cps.toList,h1 with
    | [c],_=>exact ⟨c,rfl⟩
   have hc:c<128:=by
    have:=List.all_eq_true.1 hv.1 c (by rw [hs];simp)
    simpa using this
   have hin:cmpV .isin (.str s) (.str ycs)=some (.bl (decide (97<=c) && decide (c<=122))):=by
    rw [zk0 s hs]
    exact congrArg (fun b=>some (PV.bl b)) (zn7 hc)
   rw [hs] at hl
   have h0:(((1:Nat):Int) == 1)=true:=rfl
   simp! [zcG,zI,yU,yP,yac,hl,h0,hin,ltr,hs]
  ·have h0:(((s.cps.toList.length:Nat):Int) == 1)=false:=by
    rw [beq_eq_false_iff_ne]
    omega
   have ht:ltr (.str s)=false:=by
    unfold ltr
    dsimp only
    split
    ·rename_i e;rw [e] at h1;simp at h1
    ·rfl
   rw [ht]
   simp! [zcG,zI,yU,yP,yac,hl,h0]
 |loc _=>simp [tam] at hv
 |exn _=>simp [tam] at hv
 |scr _=>simp [tam] at hv
 |_=>simp! [zcG,zI,yU,yP,yac,ltr]
theorem zbs {α:Type}{i:Int}{k:Option Int->R α}:onP (ycd (.int i)) k=k (some i):=rfl
theorem zcW {α:Type}{k:Option Int->R α}:onP (ycd .non) k=k none:=rfl
theorem zkR {n:Nat}{i:Int}(h0:0<=i)(h1:i<n):ixI n i=some i.toNat:=by simp [ixI,h0,h1]
theorem zim {st:Store}{xs:List PV}{i:Int}(h0:0<=i)(h1:i<xs.length):∃x,x∈xs/\idxV st (.lst xs) (.int i)=some x:=by
 have hi:i.toNat<xs.length:=by omega
 refine ⟨xs[i.toNat],List.getElem_mem hi,?_⟩
 simp only [idxV,idxI,at?,zkR h0 h1,Option.bind_some]
 exact List.getElem?_eq_getElem hi
theorem ze1 {k:Bool}{xs:List PV}{i:Int}(h0:0<=i)(h1:i<xs.length):∃x,x∈xs/\∀st,idxV st (.tp k xs) (.int i)=some x:=by
 have hi:i.toNat<xs.length:=by omega
 refine ⟨xs[i.toNat],List.getElem_mem hi,fun st=>?_⟩
 simp only [idxV,idxI,at?,zkR h0 h1,Option.bind_some]
 exact List.getElem?_eq_getElem hi
theorem zkT {c d m:Nat}(h:c<128)(hm:1<=m):tam d m (.str ⟨#[c]⟩)=true:=by
 simp [tam,h];omega
theorem znZ:ycs.cps.toList.length=26:=by decide +kernel
theorem zef {x:PV}{o:Option Int}{i:Int}:ycx x o (.int i)=yaZ x o (some i):=rfl
theorem zeB {x:PV}{o:Option Int}:ycx x o .non=yaZ x o none:=rfl
theorem znG {d m:Nat}{s:Str}{a b:Option Int}(h:tam d m (.str s)=true):tam d m (.str ⟨(cut s.cps.toList a b).toArray⟩)=true:=by
 simp only [tam,Bool.and_eq_true,decide_eq_true_eq,List.all_eq_true] at h ⊢
 exact ⟨fun x hx=>h.1 x (zgO hx),Nat.le_trans (zgK _ _ _) h.2⟩
end WK
namespace WK
open IC PySem
local macro_rules | `(tactic| simp! [$xs,*])=>`(tactic| simp only [IC.xs_cons,IC.xs_nil,IC.x_asg,IC.x_ite,IC.x_ret,IC.x_expr,IC.x_for,IC.x_six,IC.x_try,IC.x_raise,IC.evs,IC.evi,IC.ev.eq_1,IC.ev.eq_2,IC.ev.eq_3,IC.ev.eq_4,IC.ev.eq_5,IC.ev.eq_6,IC.ev.eq_7,IC.ev.eq_8,IC.ev.eq_9,IC.ev.eq_10,IC.ev.eq_11,IC.ev.eq_12,IC.ev.eq_13,IC.ev.eq_14,IC.ev.eq_15,IC.ev.eq_16,IC.ev.eq_17,IC.ev.eq_18,IC.ev.eq_19,IC.ev.eq_20,IC.ev.eq_21,IC.ev.eq_22,IC.ev.eq_24,IC.ev.eq_25,IC.ev.eq_26,IC.ev.eq_28, IC.v_comp,List.getElem?_cons_zero,List.getElem?_cons_succ,WK.bd_ok,WK.fl_ok,WK.bd_exc,WK.fl_exc,WK.toR_some,IC.toL,WK.bT_n,WK.nxO_some,WK.th_nx,WK.th_rt,WK.th_exc,List.set_cons_zero,List.set_cons_succ,WK.on_t,WK.t_bl,WK.ono,IC.onBl,cond_true,cond_false,List.length_cons,List.length_nil,Nat.zero_add,Nat.reduceAdd,Nat.reduceSub,Nat.reduceLeDiff,if_true,IC.noLoc,IC.noLocs,WK.noLocs_ints,Bool.and_self,Bool.not_true,Bool.not_false,List.map_cons,List.map_nil,List.replicate,List.cons_append,List.nil_append,List.append_nil,Option.bind_none,Option.bind_some,Option.join_some,WK.b_add,WK.b_sub,WK.b_mul2,WK.b_div2,WK.c_lt,WK.c_le,WK.c_gt,WK.c_ge,WK.c_eq,WK.c_ne,IC.PV.tup,IC.sizeMax,$xs,*])
noncomputable abbrev yaX:Str:=Str.ofString "figure"
noncomputable abbrev yJ:Str:=Str.ofString "times"
noncomputable def yag:PV->Bool
 | .tp _ [l,a]=>ltr l && wh 0 99 a
 |_=>false
noncomputable def ycu:PV->Bool
 | .tp _ [l,_]=>ltr l
 |_=>false
noncomputable def ycz:PV->Bool
 | .tp _ (.str s::_)=>(yM s d_ROWS).isSome
 |_=>false
noncomputable def opS (k x:PV):Bool:=if peq k (.str yaX) then wh 0 1 x else yag x
noncomputable def prS:PV->Bool
 | .tp _ [k,x]=>opS k x
 |_=>false
noncomputable def unl:List PV->Bool
 |a::b::_=>!peq a b
 |_=>true
noncomputable def yae:PV->Bool
 | .tp _ (.str s::r)=>match yM s d_ROWS with
  |some (.tp _ ks)=>decide (r.length=ks.length) && ((yS ks r).all prS && (!decide (s=yJ) || unl r))
  |_=>false
 |_=>false
theorem ziA (k:Nat){d m:Nat}{v:PV}(hv:tam d m v=true)(hm:m<=1000)(st:Store):yd T (k+2) zeC [v] st=.ok (.bl (ycu v)) st:=by
 have hT:T zeC=some zbb:=rfl
 have hn:=zaa d m v hv
 rw [zaf hT rfl rfl (by simp [noLocs,noLoc,hn])]
 cases v with
 |tp b xs =>
  obtain ⟨h0,h1,h2⟩:=zcn.1 hv
  by_cases h:xs.length=2
  ·obtain ⟨l,a,rfl⟩:∃l a,xs=[l,a]:=by
    match xs,h with
    | [l,a],_=>exact ⟨l,a,rfl⟩
   have hl:cmpV .eq (.int ((2:Nat):Int)) (.int 2)=some (.bl true):=rfl
   have hL:=zhL k (h2 l (by simp)) hm []
   simp! [zbb,zI,yU,yP,yac,zW,hl,ix0,hL,ycu]
  ·have hl:cmpV .eq (.int (xs.length:Int)) (.int 2)=some (.bl false):=by
    have:=zhO xs.length 2
    rw [decide_eq_false h] at this
    exact this
   have ht:ycu (.tp b xs)=false:=by
    unfold ycu
    split
    ·rename_i e;cases e;simp at h
    ·rfl
   rw [ht]
   simp! [zbb,zI,yU,yP,yac,zW,hl]
 |loc _=>simp [tam] at hv
 |exn _=>simp [tam] at hv
 |scr _=>simp [tam] at hv
 |_=>simp! [zbb,zI,yU,yP,yac,ycu]
theorem zeV (k:Nat){d m:Nat}{v:PV}(hv:tam d m v=true)(hm:m<=1000)(st:Store):yd T (k+3) zhR [v] st=.ok (.bl (yag v)) st:=by
 have hT:T zhR=some zcL:=rfl
 have hn:=zaa d m v hv
 have hL:=ziA k hv hm []
 rw [zaf hT rfl rfl (by simp [noLocs,noLoc,hn])]
 by_cases hx:∃b l a,v=.tp b [l,a]
 ·obtain ⟨b,l,a,rfl⟩:=hx
  obtain ⟨h0,h1,h2⟩:=zcn.1 hv
  have hW:=zcS (k+1) (h2 a (by simp)) 0 99 []
  have hc:yag (.tp b [l,a])=(ltr l && wh 0 99 a):=rfl
  rw [hc]
  have hl0:ycu (.tp b [l,a])=ltr l:=rfl
  rw [hl0] at hL
  cases e:ltr l with
  |false =>
   rw [e] at hL
   simp! [zcL,zI,hL,Bool.false_and]
  |true =>
   rw [e] at hL
   simp! [zcL,zI,hL,ix1,hW,Bool.true_and]
 ·have h1:ycu v=false:=by
   unfold ycu
   split
   ·rename_i b l a;exact absurd ⟨b,l,a,rfl⟩ hx
   ·rfl
  have h2:yag v=false:=by
   unfold yag
   split
   ·rename_i b l a;exact absurd ⟨b,l,a,rfl⟩ hx
   ·rfl
  rw [h1] at hL
  rw [h2]
  simp! [zcL,zI,hL]
theorem zoo:yaX.cps.all (· < 0x110000)=true:=by decide +kernel
theorem zgE:yJ.cps.all (· < 0x110000)=true:=by decide +kernel
theorem zgM (k:Nat){d m d' m':Nat}{v kd:PV}(hv:tam d m v=true)(hm:m<=1000)(hk:tam d' m' kd=true)(hd:d'<=60)(st:Store):yd T (k+4) ze5 [kd,v,.bl false] st=.ok (.bl (opS kd v)) st:=by
 have hT:T ze5=some zbM:=rfl
 have hn:=zaa d m v hv
 have hn2:=zaa d' m' kd hk
 have he:=yco hk hd yaX zoo
 have hW:=zcS (k+2) hv 0 1 []
 have hC:=zeV k hv hm []
 rw [zaf hT rfl rfl (by simp [noLocs,noLoc,hn,hn2])]
 unfold opS
 cases e:peq kd (.str yaX) with
 |true =>
  rw [e] at he
  simp! [zbM,zI,he,hW]
 |false =>
  rw [e] at he
  simp! [zbM,zI,he,hC,Bool.false_eq_true,if_false]
theorem zlC:∀p∈d_ROWS,∃ks,p.2=.tp true ks/\ks.length<=4/\1<=ks.length/\∀x∈ks,tam 1 10 x=true:=by
 intro p hp
 simp only [d_ROWS,List.mem_cons,List.not_mem_nil,or_false] at hp
 rcases hp with rfl|rfl|rfl|rfl|rfl|rfl|rfl|rfl|rfl|rfl|rfl|rfl|rfl <;> refine ⟨_,rfl,by simp,by simp,fun x hx=>?_⟩ <;> simp only [List.mem_cons,List.not_mem_nil,or_false] at hx <;> (repeat' rcases hx with rfl|hx) <;> first|(subst hx;decide +kernel)|decide +kernel
theorem zhQ {s:Str}{v:PV}:∀{D:List (Str×PV)},yM s D=some v->(s,v)∈D
 | [],h=>by cases h
 | (a,b)::r,h=>by
  rw [yM] at h
  by_cases e:a=s
  ·rw [if_pos (by simpa using e)] at h
   cases h
   rw [e]
   exact List.mem_cons_self
  ·rw [if_neg (by simpa using e)] at h
   exact List.mem_cons_of_mem _ (zhQ h)
theorem ziN {s:Str}{v:PV}(h:yM s d_ROWS=some v):∃ks,v=.tp true ks/\ks.length<=4/\1<=ks.length/\∀x∈ks,tam 1 10 x=true:=zlC _ (zhQ h)
theorem zh7 (k:Nat){d m:Nat}{v:PV}(hv:tam d m v=true)(st:Store):yd T (k+1) zdO [v] st=.ok (.bl (ycz v)) st:=by
 have hT:T zdO=some zbB:=rfl
 have hn:=zaa d m v hv
 rw [zaf hT rfl rfl (by simp [noLocs,noLoc,hn])]
 cases v with
 |tp b xs =>
  cases xs with
  |nil =>
   have h0:cmpV .gt (.int (([]:List PV).length:Int)) (.int 0)=some (.bl false):=rfl
   simp! [zbB,zI,yU,yP,yac,zW,h0,ycz]
   rfl
  |cons x r =>
   obtain ⟨_,_,h2⟩:=zcn.1 hv
   have hx:=h2 x (by simp)
   have h0:decide ((0:Int)<((r.length+1:Nat):Int))=true:=decide_eq_true (by omega)
   cases x with
   |str s=>simp! [zbB,zI,yU,yP,yac,zW,h0,ix0,ev.eq_29,yeP,ycz]
   |loc _=>simp [tam] at hx
   |exn _=>simp [tam] at hx
   |scr _=>simp [tam] at hx
   |_=>simp! [zbB,zI,yU,yP,yac,zW,h0,ix0,ycz]
 |loc _=>simp [tam] at hv
 |exn _=>simp [tam] at hv
 |scr _=>simp [tam] at hv
 |_=>simp! [zbB,zI,yU,yP,yac,ycz]
noncomputable def ydg:Css:=match yE.body with
 | .cons _ (.cons (.for _ _ b) _)=>b
 |_=>.nil
theorem ziO (k:Nat){d m:Nat}{p0:Option PV}(hm:m<=1000):∀(ks r:List PV) (u w:Option PV),(∀x∈ks,tam 1 10 x=true)->(∀x∈r,tam d m x=true) ->
  ∃u' w',ybw (yd T (k+4)) (.t [2,3]) ydg (yS ks r) [p0,some (.bl false),u,w] []=if (yS ks r).all prS then .nx [p0,some (.bl false),u',w'] [] else .rt (.bl false) []
 | [],r,u,w,_,_=>⟨u,w,by simp only [yS,List.all_nil,if_true];rw [zdM]⟩
 |k0::ks,[],u,w,_,_=>⟨u,w,by simp only [yS,List.all_nil,if_true];rw [zdM]⟩
 |k0::ks,x::r,u,w,hk,hr=>by
  obtain ⟨u',w',e⟩:=ziO k (p0:=p0) hm ks r (some k0) (some x) (fun y hy=>hk y (List.mem_cons_of_mem _ hy)) fun y hy=>hr y (List.mem_cons_of_mem _ hy)
  refine ⟨u',w',?_⟩
  have ho:=zgM k (hr x List.mem_cons_self) hm (hk k0 List.mem_cons_self) (by omega) []
  have hp:prS (.tup [k0,x])=opS k0 x:=rfl
  have hst:exs (yd T (k+4)) [p0,some (.bl false),some k0,some x] [] ydg=if opS k0 x then .nx [p0,some (.bl false),some k0,some x] [] else .rt (.bl false) []:=by
   cases q:opS k0 x with
   |true=>rw [q] at ho;simp! [ydg,yE,ho]
   |false=>rw [q] at ho;simp! [ydg,yE,ho,Bool.false_eq_true,if_false]
  rw [yS,zbt (ρ1:=[p0,some (.bl false),some k0,some x]) rfl,hst,List.all_cons,hp]
  cases q:opS k0 x with
  |true=>simp only [if_true,yaG,Bool.true_and];exact e
  |false=>simp only [Bool.false_eq_true,if_false,yaG,Bool.false_and]
theorem ydE {b:Bool}{x:PV}{r:List PV}:ycx (.tp b (x::r)) (some 1) .non=some (.tp false r):=by
 have h:ybt (r.length+1) 1=1:=by
  show min 1 (r.length+1)=1
  omega
 simp only [ycx,ycd,yaZ,ycw,ycL,List.length_cons,h]
 rw [if_neg (by omega)]
 simp [cut,ycw,ycL,h]
theorem zo7 {d m d' m':Nat}{v w:PV}(hv:tam d m v=true)(hd:d<=60)(hw:tam d' m' w=true)(hd':d'<=60):cmpV .ne v w=some (.bl (!peq v w)):=by
 have h1:shp v=true:=zd5 hv hd
 have h2:shp w=true:=zd5 hw hd'
 simp only [cmpV]
 rw [if_pos (by rw [h1,h2];rfl)]
theorem zbD (a b:Str):peq (.str a) (.str b)=decide (a=b):=by
 simp only [peq]
 rw [Bool.eq_iff_iff]
 simp
theorem zkc:yM yJ d_ROWS=some (.tp true [.str "cell",.str "cell",.str "cell",.str "cell"]):=by with_unfolding_all rfl
theorem ziw (k:Nat){d m:Nat}{v:PV}(hv:tam d m v=true)(hd:d<=60)(hm:m<=1000)(st:Store):yd T (k+5) zgC [v,.bl false] st=.ok (.bl (yae v)) st:=by
 have hT:T zgC=some ⟨2,4,true,yE.body⟩:=rfl
 have hn:=zaa d m v hv
 have hN:=zh7 (k+3) hv []
 have hb:yE.body=(match yE.body with
  | .cons a (.cons (.for t i _) r)=>.cons a (.cons (.for t i ydg) r)
  |_=>.nil):=rfl
 rw [zaf hT rfl rfl (by simp [noLocs,noLoc,hn])]
 dsimp only
 rw [hb]
 by_cases hx:∃b s r,v=.tp b (.str s::r)/\(yM s d_ROWS).isSome=true
 ·obtain ⟨b,s,r,rfl,hs⟩:=hx
  obtain ⟨h0,h1,h2⟩:=zcn.1 hv
  obtain ⟨kv,hkv⟩:=Option.isSome_iff_exists.1 hs
  obtain ⟨ks,rfl,hk4,hk1,hkt⟩:=ziN hkv
  have hN:yd T (k+4) zdO [.tp b (.str s::r)] []=.ok (.bl true) []:=by
   rw [hN]
   simp only [ycz,hs]
  have hrow:yae (.tp b (.str s::r))=(decide (r.length=ks.length) && ((yS ks r).all prS && (!decide (s=yJ) || unl r))):=by
   simp only [yae,hkv]
  rw [hrow]
  have hdx:∀st,toR (yd8 d_ROWS (.str s)) st=.ok (.tp true ks) st:=fun st=>by simp only [yd8,hkv,toR]
  have hne:cmpV .ne (.int ((r.length+1:Nat):Int)) (.int ((ks.length:Int)+1))=some (.bl (!decide (r.length=ks.length))):=by
   have:=zi9 (r.length+1) (ks.length+1)
   rw [show decide (r.length+1=ks.length+1)=decide (r.length=ks.length) from decide_eq_decide.mpr (by omega)] at this
   exact this
  by_cases hl:r.length=ks.length
  ·rw [decide_eq_true hl] at hne ⊢
   obtain ⟨u',w',e⟩:=ziO k (p0:=some (.tp b (.str s::r))) (d:=d - 1) hm ks r none none hkt (fun x hx=>h2 x (List.mem_cons_of_mem _ hx))
   have hz:ydM (.tp true ks) (.tp false r)=some (yS ks r):=by simp only [ydM];rw [if_pos (by omega)]
   have ht:=yeR (h2 (.str s) List.mem_cons_self) (by omega) yJ zgE
   rw [zbD] at ht
   cases hall:(yS ks r).all prS with
   |false =>
    rw [hall] at e
    simp! [yE,hN,zW,ix0,ev.eq_28,hdx,hne,zbs,ydE,hz,e,Bool.false_eq_true,if_false,Bool.true_and,Bool.false_and,zI]
   |true =>
    rw [hall] at e
    by_cases hst:s=yJ
    ·subst hst
     have hk:ks.length=4:=by rw [zkc] at hkv;cases hkv;rfl
     obtain ⟨a,c,hi1,hi2,hu,ha,hc⟩:∃a c,(∀st,idxV st (.tp b (.str yJ::r)) (.int 1)=some a)/\(∀st,idxV st (.tp b (.str yJ::r)) (.int 2)=some c)/\unl r=!peq a c/\a∈r/\c∈r:=by
      rw [hk] at hl
      match r,hl with
      |a::c::r',_=>exact ⟨a,c,fun st=>ix1,fun st=>ix2,rfl,by simp,by simp⟩
     have hac:=zo7 (h2 a (List.mem_cons_of_mem _ ha)) (by omega) (h2 c (List.mem_cons_of_mem _ hc)) (by omega)
     rw [decide_eq_true rfl] at ht
     simp! [yE,hN,zW,ix0,hi1,hi2,ev.eq_28,hdx,hne,zbs,ydE,hz,e,Bool.true_and,zI,ht,hac,hu,decide_true,Bool.false_or]
    ·rw [decide_eq_false hst] at ht
     simp! [yE,hN,zW,ix0,ev.eq_28,hdx,hne,zbs,ydE,hz,e,Bool.true_and,zI,ht,decide_eq_false hst,Bool.true_or]
  ·rw [decide_eq_false hl] at hne ⊢
   simp! [yE,hN,zW,ix0,ev.eq_28,hdx,hne,Bool.false_and,zI]
 ·have h1:ycz v=false:=by
   unfold ycz
   split
   ·rename_i b s r
    cases q:(yM s d_ROWS).isSome with
    |false=>rfl
    |true=>exact absurd ⟨b,s,r,rfl,q⟩ hx
   ·rfl
  have h2:yae v=false:=by
   unfold yae
   split
   ·rename_i b s r
    split
    ·rename_i ks q
     exact absurd ⟨b,s,r,rfl,by rw [q];rfl⟩ hx
    ·rfl
   ·rfl
  have hN:yd T (k+4) zdO [v] []=.ok (.bl false) []:=by rw [hN,h1]
  rw [h2]
  simp! [yE,hN,zI]
theorem zhS (k:Nat){d m:Nat}{v:PV}(hv:tam d m v=true)(hd:d<=60)(hm:m<=1000)(st:Store):yd T (k+6) ziU [v] st=.ok (.bl (yae v)) st:=by
 have hT:T ziU=some zfj:=rfl
 have hn:=zaa d m v hv
 have hF:=ziw k hv hd hm []
 rw [zaf hT rfl rfl (by simp [noLocs,noLoc,hn])]
 simp! [zfj,hF,zI]
theorem zcU (k:Nat){d m:Nat}{v:PV}(hv:tam d m v=true)(hm:m<=1000)(st:Store):yd T (k+2) zdG [v] st=.ok (.bl (yag v)) st:=by
 have hT:T zdG=some za7:=rfl
 have hn:=zaa d m v hv
 rw [zaf hT rfl rfl (by simp [noLocs,noLoc,hn])]
 cases v with
 |tp b xs =>
  obtain ⟨h0,h1,h2⟩:=zcn.1 hv
  by_cases h:xs.length=2
  ·obtain ⟨l,a,rfl⟩:∃l a,xs=[l,a]:=by
    match xs,h with
    | [l,a],_=>exact ⟨l,a,rfl⟩
   have hl:cmpV .ne (.int ((2:Nat):Int)) (.int 2)=some (.bl false):=rfl
   have hL:=zgL k (h2 l (by simp)) hm []
   have hW:=zck k (h2 a (by simp)) []
   have hc:yag (.tp b [l,a])=(ltr l && wh 0 99 a):=rfl
   rw [hc]
   cases e:ltr l with
   |false =>
    rw [e] at hL
    simp! [za7,zI,yU,yP,yac,zW,hl,ix0,hL,Bool.false_and]
   |true =>
    rw [e] at hL
    have ha:=h2 a (by simp)
    cases a with
    |int i =>
     have hI:isI (.int i)=true:=rfl
     rw [hI] at hW
     by_cases q:0<=i
     ·simp! [za7,zI,yU,yP,yac,zW,hl,ix0,ix1,hL,hW,blO,decide_eq_true q,wh,Bool.true_and]
     ·simp! [za7,zI,yU,yP,yac,zW,hl,ix0,ix1,hL,hW,blO,decide_eq_false q,wh,Bool.true_and,Bool.false_and]
    |loc _=>simp [tam] at ha
    |exn _=>simp [tam] at ha
    |scr _=>simp [tam] at ha
    |_ =>
     simp only [isI] at hW
     simp! [za7,zI,yU,yP,yac,zW,hl,ix0,ix1,hL,hW,wh,Bool.true_and]
  ·have hl:cmpV .ne (.int (xs.length:Int)) (.int 2)=some (.bl true):=by
    have:=zi9 xs.length 2
    rw [decide_eq_false h] at this
    exact this
   have ht:yag (.tp b xs)=false:=by
    unfold yag
    split
    ·rename_i e;cases e;simp at h
    ·rfl
   rw [ht]
   simp! [za7,zI,yU,yP,yac,zW,hl]
 |loc _=>simp [tam] at hv
 |exn _=>simp [tam] at hv
 |scr _=>simp [tam] at hv
 |_=>simp! [za7,zI,yU,yP,yac,yag]
noncomputable def yb8:List (PV×PV):=[(.str "move",.int 3),(.str "bare",.int 3),(.str "twice",.int 3),(.str "half",.int 3),(.str "sum",.int 4),(.str "less",.int 4),(.str "both",.int 4),(.str "any",.int 4),(.str "odd",.int 4)]
noncomputable def ya6:List (PV×PV):=yb8++[(.str "times",.int 5)]
noncomputable def newE:Ce:=match yj.body with
 | .cons _ (.cons _ (.cons _ (.cons _ (.cons (.asg _ e) _))))=>e
 |_=>.nope
theorem zoW {call:Cl}{ρ:IC.Env}:ev call ρ [] newE=.ok (.loc 0) [.dct false yb8]:=by with_unfolding_all rfl
theorem zow:yaP [.dct false yb8] (.loc 0) (.str "times") (.int 5)=some [.dct false ya6]:=by with_unfolding_all rfl
noncomputable def ycM (s:Str):Int:=match look (.str s) ya6 with
 |some (.int i)=>i
 |_=>0
theorem zmg:∀p∈ya6,∃i,p.2=.int i:=by
 intro p hp
 simp only [ya6,yb8,List.cons_append,List.nil_append,List.mem_cons,List.not_mem_nil,or_false] at hp
 rcases hp with rfl|rfl|rfl|rfl|rfl|rfl|rfl|rfl|rfl|rfl <;> exact ⟨_,rfl⟩
theorem zi4 {k v:PV}:∀{D:List (PV×PV)},look k D=some v->∃p∈D,p.2=v
 | [],h=>by cases h
 | (a,b)::r,h=>by
  rw [look] at h
  by_cases e:peq a k=true
  ·rw [if_pos e] at h
   exact ⟨(a,b),List.mem_cons_self,Option.some.inj h⟩
  ·rw [if_neg e] at h
   obtain ⟨p,hp,q⟩:=zi4 h
   exact ⟨p,List.mem_cons_of_mem _ hp,q⟩
theorem ziP (s:Str):ycN [.dct false ya6] (.loc 0) (.str s) (.int 0)=.ok (.int (ycM s)) [.dct false ya6]:=by
 have hk:isKey false (.str s)=true:=rfl
 have hd:yar [.dct false ya6] (.loc 0)=some (false,ya6):=rfl
 simp only [ycN,hd,hk,if_true,ycM]
 cases q:look (.str s) ya6 with
 |none=>rfl
 |some v =>
  obtain ⟨p,hp,e⟩:=zi4 q
  obtain ⟨i,hi⟩:=zmg p hp
  rw [hi] at e
  subst e
  rfl
noncomputable abbrev yax:PV:=.str "cell"
theorem cls (s:Str)(h1:s≠Str.ofString "mark")(h2:s≠Str.ofString "ask")(h3:s≠Str.ofString "set") :
  (yM s d_ROWS=none/\ycM s=0) \/ ∃n,2<=n/\n<=4/\yM s d_ROWS=some (.tp true (List.replicate n yax))/\ycM s=((n+1:Nat):Int):=by
 by_cases a1:s=Str.ofString "move"
 ·subst a1;exact .inr ⟨2,by omega,by omega,by with_unfolding_all rfl,by with_unfolding_all rfl⟩
 by_cases a2:s=Str.ofString "bare"
 ·subst a2;exact .inr ⟨2,by omega,by omega,by with_unfolding_all rfl,by with_unfolding_all rfl⟩
 by_cases a3:s=Str.ofString "twice"
 ·subst a3;exact .inr ⟨2,by omega,by omega,by with_unfolding_all rfl,by with_unfolding_all rfl⟩
 by_cases a4:s=Str.ofString "half"
 ·subst a4;exact .inr ⟨2,by omega,by omega,by with_unfolding_all rfl,by with_unfolding_all rfl⟩
 by_cases a5:s=Str.ofString "times"
 ·subst a5;exact .inr ⟨4,by omega,by omega,by with_unfolding_all rfl,by with_unfolding_all rfl⟩
 by_cases a6:s=Str.ofString "sum"
 ·subst a6;exact .inr ⟨3,by omega,by omega,by with_unfolding_all rfl,by with_unfolding_all rfl⟩
 by_cases a7:s=Str.ofString "less"
 ·subst a7;exact .inr ⟨3,by omega,by omega,by with_unfolding_all rfl,by with_unfolding_all rfl⟩
 by_cases a8:s=Str.ofString "both"
 ·subst a8;exact .inr ⟨3,by omega,by omega,by with_unfolding_all rfl,by with_unfolding_all rfl⟩
 by_cases a9:s=Str.ofString "any"
 ·subst a9;exact .inr ⟨3,by omega,by omega,by with_unfolding_all rfl,by with_unfolding_all rfl⟩
 by_cases a0:s=Str.ofString "odd"
 ·subst a0;exact .inr ⟨3,by omega,by omega,by with_unfolding_all rfl,by with_unfolding_all rfl⟩
 have c:∀{x:Str},¬s=x->¬x=s:=fun h e=>h e.symm
 refine .inl ⟨?_,?_⟩
 ·simp only [d_ROWS,yM,decide_eq_true_eq,c h1,c h2,c h3,c a1,c a2,c a3,c a4,c a5,c a6,c a7,c a8,c a9,c a0,if_false]
 ·simp only [ycM,ya6,yb8,List.cons_append,List.nil_append,look,zbD,decide_eq_true_eq,c a1,c a2,c a3,c a4,c a5,c a6,c a7,c a8,c a9,c a0,if_false]
theorem zfW:∀(n:Nat) (r:List PV),r.length=n->(yS (List.replicate n yax) r).all prS=r.all yag
 |0,[],_=>rfl
 |n+1,x::r,h=>by
  have hp:prS (.tup [yax,x])=yag x:=by
   have:peq yax (.str yaX)=false:=by rw [zbD];decide +kernel
   simp only [prS,opS,this,Bool.false_eq_true,if_false]
  rw [List.replicate_succ,yS,List.all_cons,List.all_cons,hp,zfW n r (by simpa using h)]
 |0,_::_,h=>by simp at h
 |n+1,[],h=>by simp at h
theorem yeT {d m:Nat}{v:PV}(hv:tam d m v=true):(isI v=true->cmpV .isin v (.tp false [.int 0,.int 1])=some (.bl (wh 0 1 v)))/\(isI v=false->wh 0 1 v=false):=by
 cases v with
 |int i =>
  refine ⟨fun _=>?_,fun z=>(by cases z)⟩
  show some (PV.bl (inL (.int i) [.int 0,.int 1]))=_
  congr 2
  simp only [inL,peq,wh,Bool.or_false]
  rw [Bool.eq_iff_iff]
  simp
  omega
 |_=>exact ⟨fun z=>(by cases z),fun _=>rfl⟩
theorem zmZ (a b:Nat):cmpV .lt (.int a) (.int b)=some (.bl (decide (a<b))):=by
 rw [c_lt]
 by_cases h:a<b
 ·rw [decide_eq_true h,decide_eq_true (by omega)]
 ·rw [decide_eq_false h,decide_eq_false (by omega)]
noncomputable def ydU:Css:=match yj.body with | .cons _ r=>r|x=>x
noncomputable def ydp:Css:=match ydU with | .cons _ r=>r|x=>x
noncomputable def ydf:Css:=match ydp with | .cons _ r=>r|x=>x
noncomputable def ycT:Css:=match ydf with | .cons _ r=>r|x=>x
noncomputable def ydS:Css:=match ycT with | .cons _ (.cons _ r)=>r|x=>x
noncomputable def ydO:Css:=match ydS with | .cons _ r=>r|x=>x
theorem yeW:yj.body=(match yj.body with | .cons a _=>.cons a ydU|x=>x):=rfl
theorem yfj:ydU=(match yj.body with | .cons _ (.cons a _)=>.cons a ydp|x=>x):=rfl
theorem ye3:ydp=(match yj.body with | .cons _ (.cons _ (.cons a _))=>.cons a ydf|x=>x):=rfl
theorem yfo:ydf=(match yj.body with | .cons _ (.cons _ (.cons _ (.cons a _)))=>.cons a ycT|x=>x):=rfl
theorem yfN:ycT=(match yj.body with | .cons _ (.cons _ (.cons _ (.cons _ (.cons (.asg t _) (.cons b _)))))=>.cons (.asg t newE) (.cons b ydS)|x=>x):=rfl
theorem ye5:ydS=(match yj.body with | .cons _ (.cons _ (.cons _ (.cons _ (.cons _ (.cons _ (.cons a _))))))=>.cons a ydO|x=>x):=rfl
theorem yfP:ydO=(match yj.body with | .cons _ (.cons _ (.cons _ (.cons _ (.cons _ (.cons _ (.cons _ a))))))=>a|x=>x):=rfl
theorem zju (k:Nat){d m:Nat}{v:PV}(hv:tam d m v=true)(hd:d<=60)(hm:m<=1000)(st:Store):yd T (k+3) zf1 [v] st=.ok (.bl (yae v)) st:=by
 have hT:T zf1=some ⟨1,2,true,yj.body⟩:=rfl
 have hn:=zaa d m v hv
 rw [zaf hT rfl rfl (by simp [noLocs,noLoc,hn])]
 dsimp only
 have hE:List.map some [v]++List.replicate (2 - 1) none=[some v,none]:=rfl
 rw [hE]
 by_cases hx:∃b s x r,v=.tp b (.str s::x::r)
 ·obtain ⟨b,s,x,r,rfl⟩:=hx
  obtain ⟨h0,h1,h2⟩:=zcn.1 hv
  have hlt:cmpV .lt (.int ((r.length+1+1:Nat):Int)) (.int 2)=some (.bl false):=by
   have:=zmZ (r.length+1+1) 2
   rw [decide_eq_false (by omega)] at this
   exact this
  have em:=yco (h2 (.str s) List.mem_cons_self) (by omega) (Str.ofString "mark") (by decide +kernel)
  have ea:=yco (h2 (.str s) List.mem_cons_self) (by omega) (Str.ofString "ask") (by decide +kernel)
  have es:=yco (h2 (.str s) List.mem_cons_self) (by omega) (Str.ofString "set") (by decide +kernel)
  rw [zbD] at em ea es
  have hx1:=h2 x (by simp)
  have hC:=zcU k hx1 hm []
  have hW:=zck (k+1) hx1 []
  have g0:exs (yd T (k+2)) [some (.tp b (.str s::x::r)),none] [] yj.body=exs (yd T (k+2)) [some (.tp b (.str s::x::r)),none] [] ydU:=by
   rw [yeW]
   simp! [yj,yU,yP,yac,zW,hlt,ix0]
  rw [g0,yfj]
  by_cases c1:s=Str.ofString "mark"
  ·have hrow:yae (.tp b (.str s::x::r))=(decide (r.length=0) && wh 0 1 x):=by
    subst c1
    have hk:yM (Str.ofString "mark") d_ROWS=some (.tp true [.str yaX]):=by with_unfolding_all rfl
    have ht:decide (Str.ofString "mark"=yJ)=false:=by decide +kernel
    have hp:prS (.tup [.str yaX,x])=wh 0 1 x:=by
     have:peq (.str yaX) (.str yaX)=true:=by rw [zbD];simp
     simp only [prS,opS,this,if_true]
    cases r with
    |nil=>simp [yae,hk,yS,hp,ht]
    |cons y r=>simp [yae,hk]
   rw [hrow]
   rw [decide_eq_true c1] at em
   have hl:=zhO (r.length+1+1) 2
   rw [show decide (r.length+1+1=2)=decide (r.length=0) from decide_eq_decide.mpr (by omega)] at hl
   have hl:cmpV .eq (.int ((r.length+1+1:Nat):Int)) (.int 2)=some (.bl (decide (r.length=0))):=hl
   obtain ⟨i1,i2⟩:=yeT hx1
   cases q:decide (r.length=0) with
   |false =>
    rw [q] at hl
    simp! [yj,zI,zW,ix0,em,hl,Bool.false_and]
   |true =>
    rw [q] at hl
    cases w:isI x with
    |false =>
     rw [w] at hW
     rw [i2 w]
     simp! [yj,zI,zW,ix0,ix1,em,hl,hW,Bool.true_and]
    |true =>
     rw [w] at hW
     have i1:=i1 w
     simp! [yj,zI,zW,ix0,ix1,em,hl,hW,i1,Bool.true_and]
  ·rw [decide_eq_false c1] at em
   have g1:exs (yd T (k+2)) [some (.tp b (.str s::x::r)),none] [] (match yj.body with | .cons _ (.cons a _)=>.cons a ydp|x=>x)=exs (yd T (k+2)) [some (.tp b (.str s::x::r)),none] [] ydp:=by
    simp! [yj,ix0,em]
   rw [g1,ye3]
   by_cases c2:s=Str.ofString "ask"
   ·have hrow:yae (.tp b (.str s::x::r))=(decide (r.length=0) && yag x):=by
     subst c2
     have hk:yM (Str.ofString "ask") d_ROWS=some (.tp true [yax]):=by with_unfolding_all rfl
     have ht:decide (Str.ofString "ask"=yJ)=false:=by decide +kernel
     have hp:prS (.tup [yax,x])=yag x:=by
      have:peq yax (.str yaX)=false:=by rw [zbD];decide +kernel
      simp only [prS,opS,this,Bool.false_eq_true,if_false]
     cases r with
     |nil=>simp [yae,hk,yS,hp,ht]
     |cons y r=>simp [yae,hk]
    rw [hrow]
    rw [decide_eq_true c2] at ea
    have hl:=zhO (r.length+1+1) 2
    rw [show decide (r.length+1+1=2)=decide (r.length=0) from decide_eq_decide.mpr (by omega)] at hl
    have hl:cmpV .eq (.int ((r.length+1+1:Nat):Int)) (.int 2)=some (.bl (decide (r.length=0))):=hl
    cases q:decide (r.length=0) with
    |false =>
     rw [q] at hl
     simp! [yj,zI,zW,ix0,ea,hl,Bool.false_and]
    |true =>
     rw [q] at hl
     simp! [yj,zI,zW,ix0,ix1,ea,hl,hC,Bool.true_and]
   ·rw [decide_eq_false c2] at ea
    have g2:exs (yd T (k+2)) [some (.tp b (.str s::x::r)),none] [] (match yj.body with | .cons _ (.cons _ (.cons a _))=>.cons a ydf|x=>x)=exs (yd T (k+2)) [some (.tp b (.str s::x::r)),none] [] ydf:=by
     simp! [yj,ix0,ea]
    rw [g2,yfo]
    by_cases c3:s=Str.ofString "set"
    ·have hp:prS (.tup [yax,x])=yag x:=by
      have:peq yax (.str yaX)=false:=by rw [zbD];decide +kernel
      simp only [prS,opS,this,Bool.false_eq_true,if_false]
     have hk:yM s d_ROWS=some (.tp true [yax,.str yaX]):=by subst c3;with_unfolding_all rfl
     have ht:decide (s=yJ)=false:=by subst c3;decide +kernel
     rw [decide_eq_true c3] at es
     have hl:=zhO (r.length+1+1) 3
     rw [show decide (r.length+1+1=3)=decide (r.length=1) from decide_eq_decide.mpr (by omega)] at hl
     have hl:cmpV .eq (.int ((r.length+1+1:Nat):Int)) (.int 3)=some (.bl (decide (r.length=1))):=hl
     by_cases q:r.length=1
     ·obtain ⟨y,rfl⟩:∃y,r=[y]:=by
       match r,q with
       | [y],_=>exact ⟨y,rfl⟩
      have hy:=h2 y (by simp)
      have hW2:=zck (k+1) hy []
      obtain ⟨i1,i2⟩:=yeT hy
      have hp2:prS (.tup [.str yaX,y])=wh 0 1 y:=by
       have:peq (.str yaX) (.str yaX)=true:=by rw [zbD];simp
       simp only [prS,opS,this,if_true]
      have hrow:yae (.tp b (.str s::x::[y]))=(yag x && wh 0 1 y):=by simp [yae,hk,yS,hp,hp2,ht]
      rw [hrow]
      have hl:cmpV .eq (.int ((3:Nat):Int)) (.int 3)=some (.bl true):=rfl
      have hlt:cmpV .lt (.int ((3:Nat):Int)) (.int 2)=some (.bl false):=rfl
      cases z:yag x with
      |false =>
       rw [z] at hC
       simp! [yj,zI,zW,ix0,ix1,es,hl,hC,Bool.false_and]
      |true =>
       rw [z] at hC
       cases w:isI y with
       |false =>
        rw [w] at hW2
        rw [i2 w]
        simp! [yj,zI,zW,ix0,ix1,ix2,es,hl,hC,hW2,Bool.true_and]
       |true =>
        rw [w] at hW2
        have i1:=i1 w
        simp! [yj,zI,zW,ix0,ix1,ix2,es,hl,hC,hW2,i1,Bool.true_and]
     ·rw [decide_eq_false q] at hl
      have hrow:yae (.tp b (.str s::x::r))=false:=by
       simp only [yae,hk]
       rw [decide_eq_false (by simp;exact q)]
       rfl
      rw [hrow]
      simp! [yj,zI,zW,ix0,es,hl]
    ·rw [decide_eq_false c3] at es
     have g3:exs (yd T (k+2)) [some (.tp b (.str s::x::r)),none] [] (match yj.body with | .cons _ (.cons _ (.cons _ (.cons a _)))=>.cons a ycT|x=>x)=exs (yd T (k+2)) [some (.tp b (.str s::x::r)),none] [] ycT:=by
      simp! [yj,ix0,es]
     have g4:exs (yd T (k+2)) [some (.tp b (.str s::x::r)),none] [] ycT=exs (yd T (k+2)) [some (.tp b (.str s::x::r)),some (.loc 0)] [.dct false ya6] ydS:=by
      rw [yfN]
      simp! [yj,zoW,zko,zow,zcY]
     rw [g3,g4,ye5]
     have hmg:∀(o:PV),yV .get [.dct false ya6] (.loc 0)=some true:=fun _=>rfl
     have hmg:=hmg .non
     have hcut:=ydE (b:=b) (x:=.str s) (r:=x::r)
     have hcmp:yaW (yd T (k+2)) [none] (.n 0) (.cst (.bl true)) (.call zdG (.cons (.var 0) .nil)) (x::r) [.dct false ya6]=.ok ((x::r).map fun y=>.bl (yag y)) [.dct false ya6]:=by
      refine zfF _ fun p hp=>?_
      have:=zcU k (h2 p (List.mem_cons_of_mem _ hp)) hm [.dct false ya6]
      simp! [ycc,this]
     have hlr:ybR (.ok ((x::r).map fun y=>PV.bl (yag y)) [.dct false ya6])=.ok (.lst ((x::r).map fun y=>.bl (yag y))) [.dct false ya6]:=zg1 _ (by rw [List.length_map];simp only [List.length_cons] at h1 ⊢;omega) _
     have ht:=yeR (h2 (.str s) List.mem_cons_self) (by omega) yJ zgE
     rw [zbD] at ht
     rcases cls s c1 c2 c3 with ⟨k0,l0⟩|⟨n,n2,n4,k0,l0⟩
     ·have hrow:yae (.tp b (.str s::x::r))=false:=by simp only [yae,k0]
      rw [hrow]
      have hne:cmpV .ne (.int (ycM s)) (.int ((r.length+1+1:Nat):Int))=some (.bl true):=by
       have:=zi9 0 (r.length+1+1)
       rw [decide_eq_false (by omega)] at this
       rw [l0];exact this
      simp! [yj,zI,zW,ix0,hmg,mget,ziP,hne]
     ·have hne:cmpV .ne (.int (ycM s)) (.int ((r.length+1+1:Nat):Int))=some (.bl (!decide (r.length+1=n))):=by
       have:=zi9 (n+1) (r.length+1+1)
       rw [show decide (n+1=r.length+1+1)=decide (r.length+1=n) from decide_eq_decide.mpr (by omega)] at this
       rw [l0];exact this
      by_cases hl:r.length+1=n
      ·have hrow:yae (.tp b (.str s::x::r))=((x::r).all yag && (!decide (s=yJ) || unl (x::r))):=by
        simp only [yae,k0,List.length_replicate]
        rw [decide_eq_true (by simpa using hl),zfW n (x::r) (by simpa using hl),Bool.true_and]
       rw [hrow]
       rw [decide_eq_true hl] at hne
       have hall:=fun st=>zj7 yag (x::r) st
       simp only [List.map_cons] at hlr hall hcmp
       cases z:(x::r).all yag with
       |false =>
        rw [z] at hall
        simp! [yj,zI,zW,ix0,hmg,mget,ziP,hne,zbs,hcut,hcmp,hlr,hall,Bool.false_and]
       |true =>
        rw [z] at hall
        have g5:exs (yd T (k+2)) [some (.tp b (.str s::x::r)),some (.loc 0)] [.dct false ya6] (match yj.body with | .cons _ (.cons _ (.cons _ (.cons _ (.cons _ (.cons _ (.cons a _))))))=>.cons a ydO|x=>x)=exs (yd T (k+2)) [some (.tp b (.str s::x::r)),some (.loc 0)] [.dct false ya6] ydO:=by
         simp! [yj,zW,ix0,hmg,mget,ziP,hne,zbs,hcut,hcmp,hlr,hall]
        rw [g5,yfP]
        by_cases hst:s=yJ
        ·obtain ⟨y,r',rfl⟩:∃y r',r=y::r':=by
          cases r with
          |nil=>simp at hl;omega
          |cons y r'=>exact ⟨y,r',rfl⟩
         have hac:=zo7 hx1 (by omega) (h2 y (by simp)) (by omega)
         rw [decide_eq_true hst] at ht ⊢
         have hu:unl (x::y::r')=!peq x y:=rfl
         rw [hu]
         skip
         simp! [yj,zI,ix0,ix1,ix2,ht,hac,Bool.true_and,Bool.false_or]
        ·rw [decide_eq_false hst] at ht ⊢
         simp! [yj,zI,ix0,ht,Bool.true_and,Bool.true_or]
      ·have hrow:yae (.tp b (.str s::x::r))=false:=by
        simp only [yae,k0,List.length_replicate]
        rw [decide_eq_false (by simpa using hl)]
        rfl
       rw [hrow]
       rw [decide_eq_false hl] at hne
       simp! [yj,zI,zW,ix0,hmg,mget,ziP,hne]
 ·have hrow:yae v=false:=by
   unfold yae
   split
   ·rename_i b s r
    split
    ·rename_i k1 ks q
     obtain ⟨ks',e,_,h1,_⟩:=ziN q
     cases e
     cases r with
     |nil=>rw [decide_eq_false (by simp;omega)];rfl
     |cons x r=>exact absurd ⟨b,s,x,r,rfl⟩ hx
    ·rfl
   ·rfl
  rw [hrow,yeW]
  cases v with
  |tp b xs =>
   obtain ⟨h0,h1,h2⟩:=zcn.1 hv
   cases xs with
   |nil =>
    have hlt:cmpV .lt (.int (([]:List PV).length:Int)) (.int 2)=some (.bl true):=rfl
    simp! [yj,zI,yU,yP,yac,zW,hlt]
    rfl
   |cons y r =>
    cases r with
    |nil =>
     have hlt:cmpV .lt (.int ((1:Nat):Int)) (.int 2)=some (.bl true):=rfl
     simp! [yj,zI,yU,yP,yac,zW,hlt]
    |cons x r =>
     have hlt:cmpV .lt (.int ((r.length+1+1:Nat):Int)) (.int 2)=some (.bl false):=by
      have:=zmZ (r.length+1+1) 2
      rw [decide_eq_false (by omega)] at this
      exact this
     have hy:=h2 y (by simp)
     cases y with
     |str s=>exact absurd ⟨b,s,x,r,rfl⟩ hx
     |loc _=>simp [tam] at hy
     |exn _=>simp [tam] at hy
     |scr _=>simp [tam] at hy
     |_=>simp! [yj,zI,yU,yP,yac,zW,hlt,ix0]
  |loc _=>simp [tam] at hv
  |exn _=>simp [tam] at hv
  |scr _=>simp [tam] at hv
  |_=>simp! [yj,zI,yU,yP,yac]
def yaB (v:PV):Prop:=∃c a,97<=c/\c<=122/\0<=a/\a<=99/\v=.tp false [.str ⟨#[c]⟩,.int a]
theorem zi5 {v:PV}(h:yaB v):yag v=true:=by
 obtain ⟨c,a,h1,h2,h3,h4,rfl⟩:=h
 simp [yag,ltr,wh,h1,h2,h3,h4]
theorem ze4 {v:PV}(h:yaB v):tam 2 10 v=true:=by
 obtain ⟨c,a,h1,h2,h3,h4,rfl⟩:=h
 simp [tam,ybf];omega
theorem zoI:∀n:Fin 26,ycs.cps.toList[n.val]?=some (97+n.val):=by decide +kernel
theorem znA {i:Int}(h0:0<=i)(h1:i<26):∃c,97<=c/\c<=122/\∀st,idxV st (.str ycs) (.int i)=some (.str ⟨#[c]⟩):=by
 obtain ⟨n,rfl⟩:=zg2 h0
 have hn:n<26:=by omega
 have hl:ycs.length<=sizeMax:=by decide +kernel
 refine ⟨97+n,by omega,by omega,fun st=>?_⟩
 have e:=zoI ⟨n,hn⟩
 have hx:ixI ycs.cps.toList.length (n:Int)=some n:=by
  rw [znZ]
  simp [ixI];omega
 simp only [idxV,if_pos hl,idxI,at?,hx,Option.bind_some,e,Option.map_some]
theorem zfI {ns:List Int}(hns:ns.length<=1000)(k:Nat){st:Store}(h:Drw ns 0 st):∃c st',97<=c/\c<=122/\Onl ns 0 st st'/\yd T (k+4) zbH [.loc 0] st=.ok (.str ⟨#[c]⟩) st':=by
 have hT:T zbH=some zbI:=rfl
 obtain ⟨w,s1,w0,w1,o1,e1⟩:=yah k hns (m:=26) (by omega) (by omega) h
 obtain ⟨c,c0,c1,hc⟩:=znA w0 w1
 refine ⟨c,s1,c0,c1,o1,?_⟩
 rw [zJ hT rfl rfl]
 simp! [zbI,zaT,e1,hc]
theorem zk9 {ns:List Int}(hns:ns.length<=1000)(k:Nat){st:Store}(h:Drw ns 0 st):∃v st',yaB v/\Onl ns 0 st st'/\yd T (k+5) zeZ [.loc 0] st=.ok v st':=by
 have hT:T zeZ=some zcs:=rfl
 obtain ⟨c,s1,c0,c1,o1,e1⟩:=zfI hns k h
 obtain ⟨a,s2,a0,a1,o2,e2⟩:=yah (k+1) hns (m:=100) (by omega) (by omega) (o1.drw h)
 obtain ⟨b,s3,b0,b1,o3,e3⟩:=yah (k+1) hns (m:=100) (by omega) (by omega) (o2.drw (o1.drw h))
 obtain ⟨w,s4,w0,w1,o4,e4⟩:=yah (k+1) hns (m:=4) (by omega) (by omega) (o3.drw (o2.drw (o1.drw h)))
 have e2:yd T (k+4) zaj [.loc 0,.int 100] s1=_:=e2
 have e3:yd T (k+4) zaj [.loc 0,.int 100] s2=_:=e3
 have e4:yd T (k+4) zaj [.loc 0,.int 4] s3=_:=e4
 obtain ⟨x,hx,hi⟩:=ze1 (k:=false) (xs:=[.int 0,.int 99,.int a,.int b]) w0 (show w<((4:Nat):Int) from w1)
 have hx':∃q,0<=q/\q<=99/\x=.int q:=by
  simp only [List.mem_cons,List.not_mem_nil,or_false] at hx
  rcases hx with rfl|rfl|rfl|rfl
  ·exact ⟨0,by omega,by omega,rfl⟩
  ·exact ⟨99,by omega,by omega,rfl⟩
  ·exact ⟨a,by omega,by omega,rfl⟩
  ·exact ⟨b,by omega,by omega,rfl⟩
 obtain ⟨q,q0,q1,rfl⟩:=hx'
 refine ⟨_,s4,⟨c,q,c0,c1,q0,q1,rfl⟩,((o1.trans o2).trans o3).trans o4,?_⟩
 rw [zJ hT rfl rfl]
 simp! [zcs,zaT,e1,e2,e3,e4,hi]
def two (xs:List PV):Prop:=xs.Pairwise fun a b=>peq a b=false
def ybl (L:Nat)(st st':Store):Prop:=∀m,m≠0->m≠L->m<st.length->st'[m]?=st[m]?/\st.length<=st'.length
theorem ybl.rfl {L:Nat}{st:Store}:ybl L st st:=fun m _ _ _=>⟨Eq.refl _,Nat.le_refl _⟩
theorem ybl.trans {L:Nat}{a b c:Store}(h:ybl L a b)(g:ybl L b c):ybl L a c:=fun m h0 h1 h2=>by
 obtain ⟨e1,l1⟩:=h m h0 h1 h2
 obtain ⟨e2,l2⟩:=g m h0 h1 (by omega)
 exact ⟨e2.trans e1,by omega⟩
theorem ybl.onl {L:Nat}{ns:List Int}{a b:Store}(o:Onl ns 0 a b):ybl L a b:=fun m h0 _ _=>⟨o.get h0,by rw [o.len];exact Nat.le_refl _⟩
theorem ybl.set {L:Nat}{a:Store}(x:Ob):ybl L a (a.set L x):=fun m _ h1 _=>⟨by rw [List.getElem?_set_ne (Ne.symm h1)],by rw [List.length_set];exact Nat.le_refl _⟩
theorem ybl.app {L:Nat}{a:Store}(x:Ob):ybl L a (a++[x]):=fun m _ _ h2=>⟨by rw [List.getElem?_append_left h2],by simp⟩
noncomputable def scB:Css:=match yu.body with
 | .cons _ (.cons (.for _ _ b) _)=>b
 |_=>.nil
noncomputable def scT:Css:=match yu.body with
 | .cons _ (.cons _ r)=>r
 |_=>.nil
theorem zkr {st:Store}{L:Nat}{xs:List PV}{v:PV}(h:st[L]?=some (.lst xs))(hl:xs.length<1000):yV .append st (.loc L)=some true/\yaI .append st (.loc L) [v]=.ok .non (st.set L (.lst (xs++[v]))):=by
 constructor
 ·simp [yV,yG,h]
 ·simp only [yaI,yer,h]
  rw [if_pos (by omega)]
theorem znq {xs:List PV}(h:∀y∈xs,yaB y):ya8 60 xs=true:=zfh 2 10 xs 60 ((zer 2 10 xs).2 fun x hx=>ze4 (h x hx)) (by omega)
theorem zhp {v:PV}:∀{xs:List PV},inL v xs=false->∀y∈xs,peq y v=false
 | [],_=>fun y hy=>by cases hy
 |x::xs,h=>fun y hy=>by
  simp only [inL,Bool.or_eq_false_iff] at h
  rcases List.mem_cons.1 hy with rfl|hy
  ·exact h.1
  ·exact zhp h.2 y hy
theorem zoa {xs:List PV}{v:PV}(h:two xs)(hv:inL v xs=false):two (xs++[v]):=by
 refine List.pairwise_append.2 ⟨h,by simp,fun a ha b hb=>?_⟩
 simp only [List.mem_cons,List.not_mem_nil,or_false] at hb
 subst hb
 exact zhp hv a ha
theorem zeS {ns:List Int}(hns:ns.length<=1000)(k:Nat){p1:Option PV}{L:Nat}(hL:L≠0):∀(N:Nat) (a:Int) (acc:List PV) (p3 p4:Option PV) (st:Store),(∀y∈acc,yaB y)->two acc->acc.length+N<=900->Drw ns 0 st->st[L]?=some (.lst acc) ->
  ∃acc' q3 q4 st',(∀y∈acc',yaB y)/\two acc'/\acc'.length<=acc.length+N/\(0<acc.length+N->0<acc'.length)/\Drw ns 0 st'/\st'[L]?=some (.lst acc')/\ybl L st st' /\
   ybw (yd T (k+5)) (.n 3) scB (yD N a 1) [some (.loc 0),p1,some (.loc L),p3,p4] st=.nx [some (.loc 0),p1,some (.loc L),q3,q4] st'
 |0,a,acc,p3,p4,st,h1,h2,h3,h,hs=>⟨acc,p3,p4,st,h1,h2,by omega,by omega,h,hs,.rfl,by rw [yD,zdM]⟩
 |N+1,a,acc,p3,p4,st,h1,h2,h3,h,hs=>by
  obtain ⟨v,s1,hv,o1,e1⟩:=zk9 hns k h
  have g1:=o1.drw h
  have hs1:s1[L]?=some (.lst acc):=by rw [o1.get hL];exact hs
  have hn:ycv s1 v (.loc L)=some (.bl (!inL v acc)):=by
   simp only [ycv,hs1]
   rw [if_pos (by rw [zd5 (ze4 hv) (by omega),znq h1];rfl)]
  cases q:inL v acc with
  |true =>
   rw [q] at hn
   obtain ⟨acc',q3,q4,st',r1,r2,r3,r4,r5,r6,r8,r7⟩:=zeS hns k (p1:=p1) hL N (a+1) acc (some (.int a)) (some v) s1 h1 h2 (by omega) g1 hs1
   have:0<acc.length:=by
    cases acc with
    |nil=>simp [inL] at q
    |cons x r=>simp
   refine ⟨acc',q3,q4,st',r1,r2,by omega,fun _=>r4 (by omega),r5,r6,(ybl.onl o1).trans r8,?_⟩
   have hb:exs (yd T (k+5)) [some (.loc 0),p1,some (.loc L),some (.int a),p4] st scB=.nx [some (.loc 0),p1,some (.loc L),some (.int a),some v] s1:=by
    simp! [scB,yu,e1,IC.ev.eq_31,hn]
   rw [yD,zbt (ρ1:=[some (.loc 0),p1,some (.loc L),some (.int a),p4]) rfl,hb]
   exact r7
  |false =>
   rw [q] at hn
   obtain ⟨m1,m2⟩:=zkr (v:=v) hs1 (by omega)
   obtain ⟨acc',q3,q4,st',r1,r2,r3,r4,r5,r6,r8,r7⟩:=zeS hns k (p1:=p1) hL N (a+1) (acc++[v]) (some (.int a)) (some v) (s1.set L (.lst (acc++[v]))) (fun y hy=>by
    rcases List.mem_append.1 hy with hy|hy
    ·exact h1 y hy
    ·simp at hy;rw [hy];exact hv) (zoa h2 q) (by simp;omega) (g1.put hL _) (rdS hs1)
   rw [List.length_append,List.length_singleton] at r3 r4
   refine ⟨acc',q3,q4,st',r1,r2,by omega,fun _=>r4 (by omega),r5,r6,((ybl.onl o1).trans (.set _)).trans r8,?_⟩
   have hb:exs (yd T (k+5)) [some (.loc 0),p1,some (.loc L),some (.int a),p4] st scB=.nx [some (.loc 0),p1,some (.loc L),some (.int a),some v] (s1.set L (.lst (acc++[v]))):=by
    simp! [scB,yu,e1,IC.ev.eq_31,hn,m1,m2]
   rw [yD,zbt (ρ1:=[some (.loc 0),p1,some (.loc L),some (.int a),p4]) rfl,hb]
   exact r7
theorem zjK {ns:List Int}(hns:ns.length<=1000)(k:Nat){st:Store}(h:Drw ns 0 st)(many:Nat)(hm:many<=20):∃xs st',(∀y∈xs,yaB y)/\two xs/\2<=xs.length/\xs.length<=30/\Drw ns 0 st'/\yd T (k+6) zcP [.loc 0,.int many] st=.ok (.lst xs) st':=by
 have hT:T zcP=some ⟨2,5,false,yu.body⟩:=rfl
 have hL:st.length≠0:=by have:=h.pos;omega
 have h1:=h.app (.lst [])
 have hs1:(st++[Ob.lst []])[st.length]?=some (.lst []):=by simp
 obtain ⟨xs,q3,q4,s2,r1,r2,r3,r4,r5,r6,r8,r7⟩:=zeS hns k (p1:=some (.int many)) hL (2+many) 0 [] none none (st++[.lst []]) (by simp) List.Pairwise.nil (by simp;omega) h1 hs1
 have r4:=r4 (by omega)
 have hr:ycA (.int (2+(many:Int)))=some (yD (2+many) 0 1):=by
  have:=zje (2+many) (by omega)
  rw [<- this];congr 2
 have hb:yu.body=(match yu.body with
  | .cons a (.cons (.for t i _) _)=>.cons a (.cons (.for t i scB) scT)
  |_=>.nil):=rfl
 simp only [List.length_nil,Nat.zero_add] at r3
 have hlen:yaf .len s2 [.loc st.length]=some (.int xs.length):=by simp [yaf,lenV,yay,r6]
 have hq:=zhO xs.length 1
 by_cases cz:xs.length=1
 ·obtain ⟨x,rfl⟩:∃x,xs=[x]:=by
   match xs,cz with
   | [x],_=>exact ⟨x,rfl⟩
  obtain ⟨c,a,c0,c1,a0,a1,rfl⟩:=r1 x (by simp)
  have i0:idxV s2 (.loc st.length) (.int 0)=some (.tp false [.str ⟨#[c]⟩,.int a]):=by simp only [idxV,r6];rfl
  have hmod:binV .mod (.int (a+1)) (.int 100)=some (.int ((a+1) % 100)):=zoq (by omega)
  obtain ⟨m1,m2⟩:=zkr (v:=.tp false [.str ⟨#[c]⟩,.int ((a+1) % 100)]) r6 (by simp)
  obtain ⟨s3,hs3⟩:∃s3,s3=s2.set st.length (.lst ([.tp false [.str ⟨#[c]⟩,.int a]]++[.tp false [.str ⟨#[c]⟩,.int ((a+1) % 100)]])):=⟨_,rfl⟩
  have g3:Drw ns 0 s3:=by rw [hs3];exact r5.put hL _
  have hf:ycU (.loc st.length) s3=.ok (.lst [.tp false [.str ⟨#[c]⟩,.int a],.tp false [.str ⟨#[c]⟩,.int ((a+1) % 100)]]) (s3.set st.length .dead):=by
   have:s3[st.length]?=some (.lst [.tp false [.str ⟨#[c]⟩,.int a],.tp false [.str ⟨#[c]⟩,.int ((a+1) % 100)]]):=by rw [hs3];exact rdS r6
   simp only [ycU,this]
  rw [<- hs3] at m2
  refine ⟨[.tp false [.str ⟨#[c]⟩,.int a],.tp false [.str ⟨#[c]⟩,.int ((a+1) % 100)]],s3.set st.length .dead,fun y hy=>?_,?_,by simp,by simp,g3.put hL _,?_⟩
  ·simp only [List.mem_cons,List.not_mem_nil,or_false] at hy
   rcases hy with rfl|rfl
   ·exact ⟨c,a,c0,c1,a0,a1,rfl⟩
   ·exact ⟨c,(a+1) % 100,c0,c1,by omega,by omega,rfl⟩
  ·refine List.pairwise_cons.2 ⟨fun y hy=>?_,by simp⟩
   simp only [List.mem_cons,List.not_mem_nil,or_false] at hy
   subst hy
   simp [peq,ybi]
   omega
  ·rw [zJ hT rfl rfl]
   dsimp only
   rw [hb]
   have hlen:yaf .len s2 [.loc st.length]=some (.int 1):=hlen
   simp! [yu,zaT,Nat.zero_le,hr,r7]
   simp! [scT,yu,zaT,hlen,c_eq,beq_self_eq_true,m1,i0,ix0,ix1,hmod,m2,ev.eq_24,hf]
 ·rw [decide_eq_false cz] at hq
  have hf:ycU (.loc st.length) s2=.ok (.lst xs) (s2.set st.length .dead):=by simp only [ycU,r6]
  refine ⟨xs,s2.set st.length .dead,r1,r2,by omega,by omega,r5.put hL _,?_⟩
  rw [zJ hT rfl rfl]
  dsimp only
  rw [hb]
  simp! [yu,zaT,Nat.zero_le,hr,r7]
  have hq2:((xs.length:Int) == 1)=false:=by simp;omega
  simp! [scT,yu,zaT,hlen,hq2,ev.eq_24,hf]
noncomputable def someE:Ce:=.idx (.var 1) (.call zaj (.cons (.var 2) (.cons (.blt .len (.cons (.var 1) .nil)) .nil)))
theorem zm8 {xs:List PV}{st:Store}:yaf .len st [.lst xs]=some (.int xs.length):=rfl
theorem ydd {ns:List Int}(hns:ns.length<=1000)(k:Nat){xs:List PV}(hx:0<xs.length)(hx2:xs.length<=1000):∀(N:Nat) (a:Int) (st:Store),Drw ns 0 st->∃ys st',ys.length=N/\(∀y∈ys,y∈xs)/\Onl ns 0 st st' /\
  yaW (yd T (k+3)) [none,some (.lst xs),some (.loc 0)] (.n 0) (.cst (.bl true)) someE (yD N a 1) st=.ok ys st'
 |0,a,st,h=>⟨[],st,rfl,by simp,h.refl,by rw [yD,zfz]⟩
 |N+1,a,st,h=>by
  obtain ⟨w,s1,w0,w1,o1,e1⟩:=yah k hns (m:=(xs.length:Int)) (by omega) (by omega) h
  obtain ⟨x,hx',hi⟩:=zim (st:=s1) w0 w1
  obtain ⟨ys,s3,l,t,o3,e3⟩:=ydd hns k hx hx2 N (a+1) s1 (o1.drw h)
  refine ⟨x::ys,s3,by simp [l],fun y hy=>?_,o1.trans o3,?_⟩
  ·rcases List.mem_cons.1 hy with rfl|hy
   ·exact hx'
   ·exact t y hy
  ·have one:ycc (yd T (k+3)) [none,some (.lst xs),some (.loc 0)] (.n 0) (.cst (.bl true)) someE (.int a) st=.ok (some x) s1:=by
    simp! [ycc,someE,zm8,e1,hi]
   rw [yD,zeK,one,bd_ok,e3,bd_ok]
   rfl
noncomputable def names13:List PV:=[.str "set",.str "move",.str "bare",.str "sum",.str "less",.str "both",.str "any",.str "odd",.str "twice",.str "half",.str "times",.str "mark",.str "ask"]
noncomputable def four:List PV:=[.str "move",.str "bare",.str "twice",.str "half"]
theorem zjB:∀x∈names13,∃s,x=.str s/\tam 1 10 (.str s)=true/\(s=Str.ofString "mark" \/ s=Str.ofString "ask" \/ s=Str.ofString "set" \/ s=Str.ofString "times" \/
  ((s≠Str.ofString "mark"/\s≠Str.ofString "ask"/\s≠Str.ofString "set"/\s≠Str.ofString "times")/\((s=Str.ofString "move" \/ s=Str.ofString "bare" \/ s=Str.ofString "twice" \/ s=Str.ofString "half")/\inL (.str s) four=true \/ (s=Str.ofString "sum" \/ s=Str.ofString "less" \/ s=Str.ofString "both" \/ s=Str.ofString "any" \/ s=Str.ofString "odd")/\inL (.str s) four=false))):=by
 intro x hx
 simp only [names13,List.mem_cons,List.not_mem_nil,or_false] at hx
 rcases hx with rfl|rfl|rfl|rfl|rfl|rfl|rfl|rfl|rfl|rfl|rfl|rfl|rfl <;> refine ⟨_,rfl,by decide +kernel,?_⟩
 case inl=>exact .inr (.inr (.inl rfl))
 case inr.inr.inr.inr.inr.inr.inr.inr.inr.inr.inl=>exact .inr (.inr (.inr (.inl rfl)))
 case inr.inr.inr.inr.inr.inr.inr.inr.inr.inr.inr.inl=>exact .inl rfl
 case inr.inr.inr.inr.inr.inr.inr.inr.inr.inr.inr.inr=>exact .inr (.inl rfl)
 all_goals refine .inr (.inr (.inr (.inr ⟨⟨by decide +kernel,by decide +kernel,by decide +kernel,by decide +kernel⟩,?_⟩)))
 all_goals first|exact .inl ⟨by simp,by decide +kernel⟩|exact .inr ⟨by simp,by decide +kernel⟩
inductive Rww (xs:List PV):Str->List PV->Prop
 | mark {q:Int} (q0:0<=q) (q1:q<2):Rww xs (Str.ofString "mark") [.int q]
 | ask {c:PV} (hc:c∈xs):Rww xs (Str.ofString "ask") [c]
 | set {c:PV} {q:Int} (hc:c∈xs) (q0:0<=q) (q1:q<2):Rww xs (Str.ofString "set") [c,.int q]
 | times {a b c d:PV} (ha:a∈xs) (hb:b∈xs) (hc:c∈xs) (hd:d∈xs) (hn:peq a b=false):Rww xs (Str.ofString "times") [a,b,c,d]
 | one {s:Str} {a b:PV} (hs:s=Str.ofString "move" \/ s=Str.ofString "bare" \/ s=Str.ofString "twice" \/ s=Str.ofString "half") (ha:a∈xs) (hb:b∈xs):Rww xs s [a,b]
 | two {s:Str} {a b c:PV} (hs:s=Str.ofString "sum" \/ s=Str.ofString "less" \/ s=Str.ofString "both" \/ s=Str.ofString "any" \/ s=Str.ofString "odd") (ha:a∈xs) (hb:b∈xs) (hc:c∈xs):Rww xs s [a,b,c]
theorem yaD {s:Str}{n:Nat}{ps:List PV}(hk:yM s d_ROWS=some (.tp true (List.replicate n yax)))(hl:ps.length=n)(hc:∀p∈ps,yaB p)(ht:s=yJ->unl ps=true):yae (.tp false (.str s::ps))=true:=by
 simp only [yae,hk,List.length_replicate]
 rw [decide_eq_true hl,zfW n ps hl,List.all_eq_true.2 fun p hp=>zi5 (hc p hp)]
 by_cases c:s=yJ
 ·rw [ht c];simp
 ·rw [decide_eq_false c];simp
noncomputable def srT:Css:=match yr.body with
 | .cons _ (.cons _ (.cons _ (.cons _ r)))=>r
 |_=>.nil
noncomputable def ydn:Css:=match srT with | .cons _ r=>r|x=>x
noncomputable def yde:Css:=match ydn with | .cons _ r=>r|x=>x
noncomputable def yc6:Css:=match yde with | .cons _ r=>r|x=>x
noncomputable def yej:Css:=match yc6 with | .cons _ r=>r|x=>x
theorem sS0:srT=(match yr.body with | .cons _ (.cons _ (.cons _ (.cons _ (.cons a _))))=>.cons a ydn|x=>x):=rfl
theorem sS1:ydn=(match yr.body with | .cons _ (.cons _ (.cons _ (.cons _ (.cons _ (.cons a _)))))=>.cons a yde|x=>x):=rfl
theorem sS2:yde=(match yr.body with | .cons _ (.cons _ (.cons _ (.cons _ (.cons _ (.cons _ (.cons a _))))))=>.cons a yc6|x=>x):=rfl
theorem sS3:yc6=(match yr.body with | .cons _ (.cons _ (.cons _ (.cons _ (.cons _ (.cons _ (.cons _ (.cons a _)))))))=>.cons a yej|x=>x):=rfl
theorem sS4:yej=(match yr.body with | .cons _ (.cons _ (.cons _ (.cons _ (.cons _ (.cons _ (.cons _ (.cons _ a)))))))=>a|x=>x):=rfl
noncomputable def ydY (o:Option Store)(k:Store->Fl):Fl:=match o with
 |none=>.bad
 |some st=>k st
theorem zja {st:Store}{k:Store->Fl}:ydY (some st) k=k st:=rfl
theorem zmT {call:Cl}{ρ:IC.Env}{st:Store}{o i p j e f:Ce}:ex call ρ st (.six2 o i p j e f)=(ev call ρ st e).fl ρ fun v st1=>(ev call ρ st1 f).fl ρ fun w st2=>(ev call ρ st2 o).fl ρ fun x st3=>(ev call ρ st3 i).fl ρ fun y st4=>ydY (yat st4 x y v) fun st5=>(ev call ρ st5 p).fl ρ fun x2 st6=>(ev call ρ st6 j).fl ρ fun y2 st7=>stO ρ (yat st7 x2 y2 w):=by
 rw [ex]
 refine congrArg _ (funext fun v=>funext fun st1=>congrArg _ (funext fun w=>funext fun st2=>congrArg _ (funext fun x=>funext fun st3=>congrArg _ (funext fun y=>funext fun st4=>?_))))
 cases yat st4 x y v with
 |none=>rfl
 |some st5 =>
  dsimp only [ydY]
  refine congrArg _ (funext fun x2=>funext fun st6=>congrArg _ (funext fun y2=>funext fun st7=>?_))
  cases yat st7 x2 y2 w <;> rfl
theorem zhu {xs:List PV}{s:Str}{ps:List PV}(h:Rww xs s ps)(hx:∀x∈xs,yaB x):yae (.tp false (.str s::ps))=true/\tam 4 10 (.tp false (.str s::ps))=true:=by
 have ti:∀d i,tam d 10 (.int i)=true:=fun _ _=>rfl
 have tc:∀{c:PV},c∈xs->tam 3 10 c=true:=fun hc=>zcI (by omega) (by omega) _ (ze4 (hx _ hc))
 have big:∀{s:Str} {ps:List PV},tam 3 10 (.str s)=true->ps.length<=4->(∀p∈ps,tam 3 10 p=true)->tam 4 10 (.tp false (.str s::ps))=true:=fun {s ps} a b c=>zcn.2 ⟨by omega,by simp;omega,fun x hx=>by
  rcases List.mem_cons.1 hx with rfl|hx
  ·exact a
  ·exact c x hx⟩
 have fig:∀{q:Int},0<=q->q<2->prS (.tup [.str yaX,.int q])=true:=fun {q} q0 q1=>by
  have:peq (.str yaX) (.str yaX)=true:=by rw [zbD];simp
  simp only [prS,opS,this,if_true,wh]
  rw [decide_eq_true q0,decide_eq_true (by omega)];rfl
 cases h with
 |mark q0 q1 =>
  refine ⟨?_,big (by decide +kernel) (by simp) fun p hp=>by simp at hp;rw [hp];exact ti _ _⟩
  have hk:yM (Str.ofString "mark") d_ROWS=some (.tp true [.str yaX]):=by with_unfolding_all rfl
  have ht:decide (Str.ofString "mark"=yJ)=false:=by decide +kernel
  simp [yae,hk,yS,fig q0 q1,ht]
 |ask hc =>
  refine ⟨yaD (n:=1) (by with_unfolding_all rfl) rfl (fun p hp=>by simp at hp;rw [hp];exact hx _ hc) (fun e=>absurd e (by decide +kernel)),big (by decide +kernel) (by simp) fun p hp=>by simp at hp;rw [hp];exact tc hc⟩
 | @set c q hc q0 q1 =>
  refine ⟨?_,big (by decide +kernel) (by simp) fun p hp=>by
   simp only [List.mem_cons,List.not_mem_nil,or_false] at hp
   rcases hp with rfl|rfl
   ·exact tc hc
   ·exact ti _ _⟩
  have hk:yM (Str.ofString "set") d_ROWS=some (.tp true [yax,.str yaX]):=by with_unfolding_all rfl
  have ht:decide (Str.ofString "set"=yJ)=false:=by decide +kernel
  have hp:prS (.tup [yax,c])=true:=by
   have:peq yax (.str yaX)=false:=by rw [zbD];decide +kernel
   simp only [prS,opS,this,Bool.false_eq_true,if_false]
   exact zi5 (hx _ hc)
  simp [yae,hk,yS,hp,fig q0 q1,ht]
 | @times a b c d ha hb hc hd hn =>
  have hm:∀p∈[a,b,c,d],p∈xs:=fun p hp=>by
   simp only [List.mem_cons,List.not_mem_nil,or_false] at hp
   rcases hp with rfl|rfl|rfl|rfl <;> assumption
  exact ⟨yaD (n:=4) (by with_unfolding_all rfl) rfl (fun p hp=>hx p (hm p hp)) (fun _=>by show (!peq a b)=true;rw [hn];rfl),big (by decide +kernel) (by simp) fun p hp=>tc (hm p hp)⟩
 | @one s a b hs ha hb =>
  have hm:∀p∈[a,b],p∈xs:=fun p hp=>by
   simp only [List.mem_cons,List.not_mem_nil,or_false] at hp
   rcases hp with rfl|rfl <;> assumption
  rcases hs with rfl|rfl|rfl|rfl <;> exact ⟨yaD (n:=2) (by with_unfolding_all rfl) rfl (fun p hp=>hx p (hm p hp)) (fun e=>absurd e (by decide +kernel)),big (by decide +kernel) (by simp) fun p hp=>tc (hm p hp)⟩
 | @two s a b c hs ha hb hc =>
  have hm:∀p∈[a,b,c],p∈xs:=fun p hp=>by
   simp only [List.mem_cons,List.not_mem_nil,or_false] at hp
   rcases hp with rfl|rfl|rfl <;> assumption
  rcases hs with rfl|rfl|rfl|rfl|rfl <;> exact ⟨yaD (n:=3) (by with_unfolding_all rfl) rfl (fun p hp=>hx p (hm p hp)) (fun e=>absurd e (by decide +kernel)),big (by decide +kernel) (by simp) fun p hp=>tc (hm p hp)⟩
theorem zlW (k:Nat){s:Str}{x0 x1:PV}{xs:List PV}{q:Int}{p2:Option PV}{y0 y1 y2 y3:PV}{st:Store}(hx:∀x∈x0::x1::xs,yaB x)(hx2:two (x0::x1::xs))(hy:∀y∈[y0,y1,y2,y3],y∈x0::x1::xs)(q0:0<=q)(q1:q<2)
  (ts:tam 1 10 (.str s)=true) (hk:s=Str.ofString "mark" \/ s=Str.ofString "ask" \/ s=Str.ofString "set" \/ s=Str.ofString "times" \/
  ((s≠Str.ofString "mark"/\s≠Str.ofString "ask"/\s≠Str.ofString "set"/\s≠Str.ofString "times")/\((s=Str.ofString "move" \/ s=Str.ofString "bare" \/ s=Str.ofString "twice" \/ s=Str.ofString "half")/\inL (.str s) four=true \/ (s=Str.ofString "sum" \/ s=Str.ofString "less" \/ s=Str.ofString "both" \/ s=Str.ofString "any" \/ s=Str.ofString "odd")/\inL (.str s) four=false))) :
  ∃ps zs,Rww (x0::x1::xs) s ps/\exs (yd T (k+3)) [some (.loc 0),some (.lst (x0::x1::xs)),p2,some (.str s),some (.int q),some (.loc st.length)] (st++[.lst [y0,y1,y2,y3]]) srT=.rt (.tp false (.str s::ps)) (st++[.lst zs]):=by
 have hg:∀z0 z1,(st++[Ob.lst [z0,z1,y2,y3]])[st.length]?=some (.lst [z0,z1,y2,y3]):=fun z0 z1=>by simp
 have i0:∀z0 z1,idxV (st++[Ob.lst [z0,z1,y2,y3]]) (.loc st.length) (.int 0)=some z0:=fun z0 z1=>by simp only [idxV,hg];rfl
 have i1:∀z0 z1,idxV (st++[Ob.lst [z0,z1,y2,y3]]) (.loc st.length) (.int 1)=some z1:=fun z0 z1=>by simp only [idxV,hg];rfl
 have i2:∀z0 z1,idxV (st++[Ob.lst [z0,z1,y2,y3]]) (.loc st.length) (.int 2)=some y2:=fun z0 z1=>by simp only [idxV,hg];rfl
 have i3:∀z0 z1,idxV (st++[Ob.lst [z0,z1,y2,y3]]) (.loc st.length) (.int 3)=some y3:=fun z0 z1=>by simp only [idxV,hg];rfl
 have j0:∀s,idxV s (.lst (x0::x1::xs)) (.int 0)=some x0:=fun s=>by
  have:ixI (x0::x1::xs).length 0=some 0:=by simp [ixI];omega
  simp only [idxV,idxI,at?,this];rfl
 have j1:∀s,idxV s (.lst (x0::x1::xs)) (.int 1)=some x1:=fun s=>by
  have:ixI (x0::x1::xs).length 1=some 1:=by simp [ixI];omega
  simp only [idxV,idxI,at?,this];rfl
 have em:=yco ts (by omega) (Str.ofString "mark") (by decide +kernel)
 have ea:=yco ts (by omega) (Str.ofString "ask") (by decide +kernel)
 have es:=yco ts (by omega) (Str.ofString "set") (by decide +kernel)
 have et:=yco ts (by omega) (Str.ofString "times") (by decide +kernel)
 rw [zbD] at em ea es et
 have m0:=hy y0 (by simp)
 have m1:=hy y1 (by simp)
 have m2:=hy y2 (by simp)
 have m3:=hy y3 (by simp)
 by_cases k1:s=Str.ofString "mark"
 ·refine ⟨[.int q],[y0,y1,y2,y3],k1 ▸ .mark q0 q1,?_⟩
  rw [decide_eq_true k1] at em
  rw [sS0]
  simp! [yr,em]
 rw [decide_eq_false k1] at em
 have r0:exs (yd T (k+3)) [some (.loc 0),some (.lst (x0::x1::xs)),p2,some (.str s),some (.int q),some (.loc st.length)] (st++[.lst [y0,y1,y2,y3]]) srT=exs (yd T (k+3)) [some (.loc 0),some (.lst (x0::x1::xs)),p2,some (.str s),some (.int q),some (.loc st.length)] (st++[.lst [y0,y1,y2,y3]]) ydn:=by
  rw [sS0]
  simp! [yr,em]
 rw [r0]
 by_cases k2:s=Str.ofString "ask"
 ·refine ⟨[y0],[y0,y1,y2,y3],k2 ▸ .ask m0,?_⟩
  rw [decide_eq_true k2] at ea
  rw [sS1]
  simp! [yr,ea,i0]
 rw [decide_eq_false k2] at ea
 have r1:exs (yd T (k+3)) [some (.loc 0),some (.lst (x0::x1::xs)),p2,some (.str s),some (.int q),some (.loc st.length)] (st++[.lst [y0,y1,y2,y3]]) ydn=exs (yd T (k+3)) [some (.loc 0),some (.lst (x0::x1::xs)),p2,some (.str s),some (.int q),some (.loc st.length)] (st++[.lst [y0,y1,y2,y3]]) yde:=by
  rw [sS1]
  simp! [yr,ea]
 rw [r1]
 by_cases k3:s=Str.ofString "set"
 ·refine ⟨[y0,.int q],[y0,y1,y2,y3],k3 ▸ .set m0 q0 q1,?_⟩
  rw [decide_eq_true k3] at es
  rw [sS2]
  simp! [yr,es,i0]
 rw [decide_eq_false k3] at es
 have r2:exs (yd T (k+3)) [some (.loc 0),some (.lst (x0::x1::xs)),p2,some (.str s),some (.int q),some (.loc st.length)] (st++[.lst [y0,y1,y2,y3]]) yde=exs (yd T (k+3)) [some (.loc 0),some (.lst (x0::x1::xs)),p2,some (.str s),some (.int q),some (.loc st.length)] (st++[.lst [y0,y1,y2,y3]]) yc6:=by
  rw [sS2]
  simp! [yr,es]
 rw [r2]
 by_cases k4:s=Str.ofString "times"
 ·rw [decide_eq_true k4] at et
  have hq:cmpV .eq y0 y1=some (.bl (peq y0 y1)):=by
   simp only [cmpV]
   rw [if_pos (by rw [zd5 (ze4 (hx _ m0)) (by omega),zd5 (ze4 (hx _ m1)) (by omega)];rfl)]
  cases e:peq y0 y1 with
  |false =>
   rw [e] at hq
   refine ⟨[y0,y1,y2,y3],[y0,y1,y2,y3],k4 ▸ .times m0 m1 m2 m3 e,?_⟩
   rw [sS3]
   simp! [yr,et,i0,i1,i2,i3,hq]
  |true =>
   rw [e] at hq
   refine ⟨[x0,x1,y2,y3],[x0,x1,y2,y3],k4 ▸ .times (by simp) (by simp) m2 m3 (List.rel_of_pairwise_cons hx2 (by simp)),?_⟩
   have s0:yat (st++[Ob.lst [y0,y1,y2,y3]]) (.loc st.length) (.int 0) x0=some (st++[.lst [x0,y1,y2,y3]]):=by
    simp only [yat,hg]
    rw [show ixI ([y0,y1,y2,y3]:List PV).length 0=some 0 from rfl]
    simp
   have s1:yat (st++[Ob.lst [x0,y1,y2,y3]]) (.loc st.length) (.int 1) x1=some (st++[.lst [x0,x1,y2,y3]]):=by
    simp only [yat,hg]
    rw [show ixI ([x0,y1,y2,y3]:List PV).length 1=some 1 from rfl]
    simp
   rw [sS3]
   simp! [yr,et,i0,i1,i2,i3,hq,zmT,j0,j1,s0,zja,s1,zcY]
 rw [decide_eq_false k4] at et
 have r3:exs (yd T (k+3)) [some (.loc 0),some (.lst (x0::x1::xs)),p2,some (.str s),some (.int q),some (.loc st.length)] (st++[.lst [y0,y1,y2,y3]]) yc6=exs (yd T (k+3)) [some (.loc 0),some (.lst (x0::x1::xs)),p2,some (.str s),some (.int q),some (.loc st.length)] (st++[.lst [y0,y1,y2,y3]]) yej:=by
  rw [sS3]
  simp! [yr,et]
 rw [r3,sS4]
 rcases hk with hk|hk|hk|hk|⟨_,hk⟩
 ·exact absurd hk k1
 ·exact absurd hk k2
 ·exact absurd hk k3
 ·exact absurd hk k4
 have hi:cmpV .isin (.str s) (.tp false four)=some (.bl (inL (.str s) four)):=rfl
 rcases hk with ⟨hk,e⟩|⟨hk,e⟩
 ·rw [e] at hi
  simp only [four] at hi
  refine ⟨[y0,y1],[y0,y1,y2,y3],.one hk m0 m1,?_⟩
  simp! [yr,hi,i0,i1]
 ·rw [e] at hi
  simp only [four] at hi
  refine ⟨[y0,y1,y2],[y0,y1,y2,y3],.two hk m0 m1 m2,?_⟩
  simp! [yr,hi,i0,i1,i2]
theorem zmr {ns:List Int}(hns:ns.length<=1000)(k:Nat){st:Store}(h:Drw ns 0 st){xs:List PV}(hx:∀x∈xs,yaB x)(hx2:two xs)(hl:2<=xs.length)(hl2:xs.length<=30) :
  ∃s ps s3 zs,Rww xs s ps/\Onl ns 0 st s3/\yd T (k+4) zb6 [.loc 0,.lst xs] st=.ok (.tp false (.str s::ps)) (s3++[.lst zs]):=by
 have hT:T zb6=some ⟨2,6,false,yr.body⟩:=rfl
 obtain ⟨w,s1,w0,w1,o1,e1⟩:=yah k hns (m:=13) (by omega) (by omega) h
 obtain ⟨x,hx',hi⟩:=ze1 (k:=false) (xs:=names13) w0 (show w<((13:Nat):Int) from w1)
 obtain ⟨s,rfl,ts,hk⟩:=zjB x hx'
 obtain ⟨q,s2,q0,q1,o2,e2⟩:=yah k hns (m:=2) (by omega) (by omega) (o1.drw h)
 obtain ⟨ys,s3,l3,t3,o3,e3⟩:=ydd hns k (xs:=xs) (by omega) (by omega) 4 0 s2 (o2.drw (o1.drw h))
 obtain ⟨x0,x1,xr,rfl⟩:∃x0 x1 xr,xs=x0::x1::xr:=by
  match xs,hl with
  |x0::x1::xr,_=>exact ⟨x0,x1,xr,rfl⟩
 obtain ⟨y0,y1,y2,y3,rfl⟩:∃y0 y1 y2 y3,ys=[y0,y1,y2,y3]:=by
  match ys,l3 with
  | [y0,y1,y2,y3],_=>exact ⟨y0,y1,y2,y3,rfl⟩
 obtain ⟨ps,zs,r4,e4⟩:=zlW k (st:=s3) (p2:=some (.tp false names13)) hx hx2 t3 q0 q1 ts hk
 refine ⟨s,ps,s3,zs,r4,(o1.trans o2).trans o3,?_⟩
 have hr:ycA (.int 4)=some (yD 4 0 1):=rfl
 have hlr:ybR (.ok [y0,y1,y2,y3] s3)=.ok (.lst [y0,y1,y2,y3]) s3:=zg1 _ (by simp) _
 have hth:ydA (.lst [y0,y1,y2,y3]) s3=.ok (.loc s3.length) (s3++[.lst [y0,y1,y2,y3]]):=rfl
 have hb:yr.body=(match yr.body with
  | .cons a (.cons b (.cons c (.cons (.asg t (.thw (.comp sl tg it c2 _))) _)))=>.cons a (.cons b (.cons c (.cons (.asg t (.thw (.comp sl tg it c2 someE))) srT)))
  |_=>.nil):=rfl
 rw [zJ hT rfl rfl]
 dsimp only
 rw [hb]
 simp only [names13] at hi e4
 simp! [yr,zaT,Nat.zero_le,e1,hi,e2,ev.eq_30,hr,e3,hlr,hth,e4]
structure Frm (ns:List Int)(B st:Store):Prop where
 dr:Drw ns 0 st
 len:B.length<=st.length
 get:∀m,m≠0->m<B.length->st[m]?=B[m]?
section
variable {ns:List Int}{B st st':Store}
theorem Frm.refl (h:Drw ns 0 st):Frm ns st st:=⟨h,Nat.le_refl _,fun _ _ _=>rfl⟩
theorem Frm.pos (h:Frm ns B st):0<st.length:=h.dr.pos
theorem Frm.app (h:Frm ns B st)(o:Ob):Frm ns B (st++[o]):=⟨h.dr.app o,by have:=h.len;simp;omega,fun m h0 h1=>by
 have:=h.len
 rw [List.getElem?_append_left (by omega)];exact h.get m h0 h1⟩
theorem Frm.put (h:Frm ns B st){L:Nat}(hL:L≠0)(hB:B.length<=L)(o:Ob):Frm ns B (st.set L o):=⟨h.dr.put hL o,by rw [List.length_set];exact h.len,fun m h0 h1=>by
 rw [List.getElem?_set_ne (by omega)];exact h.get m h0 h1⟩
theorem Onl.frm (h:Frm ns B st)(o:Onl ns 0 st st'):Frm ns B st':=⟨o.drw h.dr,by rw [o.len];exact h.len,fun m h0 h1=>by rw [o.get h0];exact h.get m h0 h1⟩
theorem Frm.trans {C:Store}(h:Frm ns B st)(g:Frm ns st C):Frm ns B C:=⟨g.dr,Nat.le_trans h.len g.len,fun m h0 h1=>by
 have:=h.len
 rw [g.get m h0 (by omega)];exact h.get m h0 h1⟩
theorem yaO (k:Nat)(hns:ns.length<=1000){m:Int}(hm:0<m)(hm2:m<10000000000000000000000000000000000000000000000000000000000000000000000)(h:Frm ns B st) :
  ∃d st',0<=d/\d<m/\Onl ns 0 st st'/\yd T (k+3) zaj [.loc 0,.int m] st=.ok (.int d) st':=yah k hns hm hm2 h.dr
theorem yeK (hns:ns.length<=1000)(k:Nat)(h:Frm ns B st):∃c st',97<=c/\c<=122/\Onl ns 0 st st'/\yd T (k+4) zbH [.loc 0] st=.ok (.str ⟨#[c]⟩) st':=zfI hns k h.dr
end
structure ycZ (s:Str)(ps:List PV):Prop where
 row:yae (.tp false (.str s::ps))=true
 ts:tam 1 10 (.str s)=true
 pos:0<s.cps.toList.length
 few:ps.length<=4
 one:1<=ps.length
 tim:s=yJ->2<=ps.length
 tp:∀p∈ps,tam 2 10 p=true
theorem zn9 {xs:List PV}{s:Str}{ps:List PV}(h:Rww xs s ps)(hx:∀x∈xs,yaB x):ycZ s ps:=by
 have r:=(zhu h hx).1
 have tc:∀{c:PV},c∈xs->tam 2 10 c=true:=fun hc=>ze4 (hx _ hc)
 have ti:∀i,tam 2 10 (.int i)=true:=fun _=>rfl
 cases h with
 |mark q0 q1=>exact ⟨r,by decide +kernel,by decide +kernel,by simp,by simp,fun e=>absurd e (by decide +kernel),fun p hp=>by simp at hp;rw [hp];exact ti _⟩
 |ask hc=>exact ⟨r,by decide +kernel,by decide +kernel,by simp,by simp,fun e=>absurd e (by decide +kernel),fun p hp=>by simp at hp;rw [hp];exact tc hc⟩
 | @set c q hc q0 q1=>exact ⟨r,by decide +kernel,by decide +kernel,by simp,by simp,fun e=>absurd e (by decide +kernel),fun p hp=>by
   simp only [List.mem_cons,List.not_mem_nil,or_false] at hp
   rcases hp with rfl|rfl
   ·exact tc hc
   ·exact ti _⟩
 | @times a b c d ha hb hc hd hn=>exact ⟨r,by decide +kernel,by decide +kernel,by simp,by simp,fun e=>by simp,fun p hp=>by
   simp only [List.mem_cons,List.not_mem_nil,or_false] at hp
   rcases hp with rfl|rfl|rfl|rfl <;> exact tc (by assumption)⟩
 | @one s a b hs ha hb =>
  have:∀p∈[a,b],tam 2 10 p=true:=fun p hp=>by
   simp only [List.mem_cons,List.not_mem_nil,or_false] at hp
   rcases hp with rfl|rfl <;> exact tc (by assumption)
  rcases hs with rfl|rfl|rfl|rfl <;> exact ⟨r,by decide +kernel,by decide +kernel,by simp,by simp,fun e=>by simp,this⟩
 | @two s a b c hs ha hb hc =>
  have:∀p∈[a,b,c],tam 2 10 p=true:=fun p hp=>by
   simp only [List.mem_cons,List.not_mem_nil,or_false] at hp
   rcases hp with rfl|rfl|rfl <;> exact tc (by assumption)
  rcases hs with rfl|rfl|rfl|rfl|rfl <;> exact ⟨r,by decide +kernel,by decide +kernel,by simp,by simp,fun e=>by simp,this⟩
noncomputable def str0 (c:Nat)(g:Int):List PV:=[.non,.bl true,.bl false,.int (-1),.int g,.str "",.str ⟨#[c]⟩,.str ((⟨#[c]⟩:Str)++(⟨#[c]⟩:Str)),.str "A",.str "?",.tp false [],.tp false [.str ⟨#[c]⟩]]
noncomputable def str1 (c:Nat)(g:Int):List PV:=[.tp false [.str ⟨#[c]⟩,.int 0,.int 0],.tp false [.str ⟨#[c]⟩,.int (-1)],.tp false [.str ⟨#[c]⟩,.int g],.tp false [.str "A",.int 0],.tp false [.str ((⟨#[c]⟩:Str)++Str.ofString "b"),.int 0]]
noncomputable def yby (c:Nat):List PV:=[.tp false [.str "",.int 0],.tp false [.str ⟨#[c]⟩,.bl true],.tp false [.str ⟨#[c]⟩,.str "0"],.lst [.str ⟨#[c]⟩,.int 0],.tp false [.str ⟨#[c]⟩,.tp false [.int 0,.int 0,.int 0,.int 0]]]
noncomputable def yb6 (c:Nat):List PV:=[.int 0,.int 1,.int 2,.tp false [.str ⟨#[c]⟩,.int 0],.str "sum",.str "marks",.tp false [.str "mark",.int 0],.tp false [.tp false [.str ⟨#[c]⟩,.int 0],.int 1]]
theorem zix (a b:Str):(a++b).cps.toList=a.cps.toList++b.cps.toList:=by
 show (a.cps++b.cps).toList=_
 simp
theorem zns {c:Nat}(h:c<128)(g:Int):∀x∈str0 c g++str1 c g++yby c++yb6 c,tam 3 10 x=true:=by
 have hc:∀d m,1<=m->tam d m (.str ⟨#[c]⟩)=true:=fun d m hm=>zkT h hm
 have h2:∀d,tam d 10 (.str ((⟨#[c]⟩:Str)++(⟨#[c]⟩:Str)))=true:=fun d=>by simp [tam,zix,h]
 have h3:∀d,tam d 10 (.str ((⟨#[c]⟩:Str)++Str.ofString "b"))=true:=fun d=>by
  simp only [tam,zix]
  rw [show (Str.ofString "b").cps.toList=[98] by decide +kernel]
  simp [h]
 have hs:∀d,tam d 10 (.str "")=true/\tam d 10 (.str "A")=true/\tam d 10 (.str "?")=true/\tam d 10 (.str "0")=true/\tam d 10 (.str "sum")=true/\tam d 10 (.str "marks")=true/\tam d 10 (.str "mark")=true:=fun d=>by
  simp only [tam]
  exact ⟨by decide +kernel,by decide +kernel,by decide +kernel,by decide +kernel,by decide +kernel,by decide +kernel,by decide +kernel⟩
 have hi:∀d m i,tam d m (.int i)=true:=fun _ _ _=>rfl
 have hb:∀d m i,tam d m (.bl i)=true:=fun _ _ _=>rfl
 have hn:∀d m,tam d m .non=true:=fun _ _=>rfl
 have ht:∀d m k xs,tam (d+1) m (.tp k xs)=(decide (xs.length<=m) && ybf d m xs):=fun d m k xs=>by simp [tam]
 have hl:∀d m xs,tam (d+1) m (.lst xs)=(decide (xs.length<=m) && ybf d m xs):=fun d m xs=>by simp [tam]
 rw [<- zer]
 simp only [str0,str1,yby,yb6,List.cons_append,List.nil_append,ybf,ht 2 10,hl 2 10,ht 1 10,hi,hb,hn,hc _ 10 (by omega),h2,h3,(hs _).1,(hs _).2.1,(hs _).2.2.1,(hs _).2.2.2.1,(hs _).2.2.2.2.1,(hs _).2.2.2.2.2.1,(hs _).2.2.2.2.2.2,Bool.and_true,Bool.true_and,List.length_cons,List.length_nil]
 rfl
theorem zlq {st:Store}{L:Nat}{xs ys:List PV}(h:st[L]?=some (.lst xs))(hl:xs.length+ys.length<=1000):yV .extend st (.loc L)=some true/\yaI .extend st (.loc L) [.lst ys]=.ok .non (st.set L (.lst (xs++ys))):=by
 constructor
 ·simp [yV,yG,h]
 ·simp only [yaI,yeD,h]
  rw [if_pos (by omega)]
theorem znm {a b:Nat}:binV .add (.str ⟨#[a]⟩) (.str ⟨#[b]⟩)=some (.str ((⟨#[a]⟩:Str)++(⟨#[b]⟩:Str))):=rfl
theorem zpF {a:Nat}:binV .add (.str ⟨#[a]⟩) (.str "b")=some (.str ((⟨#[a]⟩:Str)++Str.ofString "b")):=by
 simp only [binV]
 rw [if_pos]
 show _<=16777216
 have:(Str.ofString "b").length=1:=by decide +kernel
 rw [this]
 show 1+1<=_
 omega
theorem yeF {call:Cl}{ρ:IC.Env}{st:Store}:ev call ρ st (.neg (.cst (.int 1)))=.ok (.int (-1)) st:=by simp only [ev,R.bind]
noncomputable def tgS:Css:=match yx.body with
 | .cons _ (.cons _ r)=>r
 |_=>.nil
noncomputable def ydm:Css:=match tgS with | .cons _ r=>r|x=>x
noncomputable def yc8:Css:=match ydm with | .cons _ r=>r|x=>x
noncomputable def ydc:Css:=match yc8 with | .cons _ r=>r|x=>x
noncomputable def ydR:Css:=match ydc with | .cons _ r=>r|x=>x
theorem gS0:tgS=(match yx.body with | .cons _ (.cons _ (.cons a _))=>.cons a ydm|x=>x):=rfl
theorem gS1:ydm=(match yx.body with | .cons _ (.cons _ (.cons _ (.cons a _)))=>.cons a yc8|x=>x):=rfl
theorem gS2:yc8=(match yx.body with | .cons _ (.cons _ (.cons _ (.cons _ (.cons a _))))=>.cons a ydc|x=>x):=rfl
theorem gS3:ydc=(match yx.body with | .cons _ (.cons _ (.cons _ (.cons _ (.cons _ (.cons a _)))))=>.cons a ydR|x=>x):=rfl
theorem gS4:ydR=(match yx.body with | .cons _ (.cons _ (.cons _ (.cons _ (.cons _ (.cons _ r)))))=>r|x=>x):=rfl
theorem strange {B:Store}{ns:List Int}(hns:ns.length<=1000)(k:Nat){st:Store}(h:Frm ns B st):∃v st',tam 3 10 v=true/\Frm ns B st'/\yd T (k+5) zcM [.loc 0] st=.ok v st':=by
 have hT:T zcM=some ⟨1,4,false,yx.body⟩:=rfl
 obtain ⟨c,s1,c0,c1,o1,e1⟩:=yeK hns k h
 obtain ⟨a,s2,a0,a1,o2,e2⟩:=yaO (k+1) hns (m:=3) (by omega) (by omega) (o1.frm h)
 obtain ⟨b,s3,b0,b1,o3,e3⟩:=yaO (k+1) hns (m:=1000000000) (by omega) (by omega) (o2.frm (o1.frm h))
 have e2:yd T (k+4) zaj [.loc 0,.int 3] s1=_:=e2
 have e3:yd T (k+4) zaj [.loc 0,.int 1000000000] s2=_:=e3
 have g3:=o3.frm (o2.frm (o1.frm h))
 have hL:s3.length≠0:=by have:=g3.pos;omega
 have hpw:binV .pow (.int 10) (.int 9)=some (.int 1000000000):=by with_unfolding_all rfl
 have hml:binV .mul (.int a) (.int b)=some (.int (a*b)):=zol (by omega)
 generalize hg:100+a*b=g
 have hb:yx.body=(match yx.body with
  | .cons a (.cons b _)=>.cons a (.cons b tgS)
  |_=>.nil):=rfl
 have q0:(s3++[Ob.lst (str0 c g)])[s3.length]?=some (.lst (str0 c g)):=by simp
 obtain ⟨m1,n1⟩:=zlq (ys:=str1 c g) q0 (by simp [str0,str1])
 obtain ⟨t1,ht1⟩:∃t,t=(s3++[Ob.lst (str0 c g)]).set s3.length (.lst (str0 c g++str1 c g)):=⟨_,rfl⟩
 have q1:t1[s3.length]?=some (.lst (str0 c g++str1 c g)):=by rw [ht1];exact rdS q0
 have d1:Frm ns B t1:=by rw [ht1];exact (g3.app _).put hL g3.len _
 rw [<- ht1] at n1
 obtain ⟨m2,n2⟩:=zlq (ys:=yby c) q1 (by simp [str0,str1,yby])
 obtain ⟨t2,ht2⟩:∃t,t=t1.set s3.length (.lst (str0 c g++str1 c g++yby c)):=⟨_,rfl⟩
 have q2:t2[s3.length]?=some (.lst (str0 c g++str1 c g++yby c)):=by rw [ht2];exact rdS q1
 have d2:Frm ns B t2:=by rw [ht2];exact d1.put hL g3.len _
 rw [<- ht2] at n2
 obtain ⟨m3,n3⟩:=zlq (ys:=yb6 c) q2 (by simp [str0,str1,yby,yb6])
 obtain ⟨t3,ht3⟩:∃t,t=t2.set s3.length (.lst (str0 c g++str1 c g++yby c++yb6 c)):=⟨_,rfl⟩
 have q3:t3[s3.length]?=some (.lst (str0 c g++str1 c g++yby c++yb6 c)):=by rw [ht3];exact rdS q2
 have d3:Frm ns B t3:=by rw [ht3];exact d2.put hL g3.len _
 rw [<- ht3] at n3
 have hlen:yaf .len t3 [.loc s3.length]=some (.int 30):=by simp [yaf,lenV,yay,q3,str0,str1,yby,yb6]
 obtain ⟨w,s4,w0,w1,o4,e4⟩:=yaO (k+1) hns (m:=30) (by omega) (by omega) d3
 have e4:yd T (k+4) zaj [.loc 0,.int 30] t3=_:=e4
 have q4:s4[s3.length]?=some (.lst (str0 c g++str1 c g++yby c++yb6 c)):=by rw [o4.get hL];exact q3
 obtain ⟨x,hx,hi⟩:=zim (st:=s4) (xs:=str0 c g++str1 c g++yby c++yb6 c) w0 (by simp [str0,str1,yby,yb6];omega)
 have hi':idxV s4 (.loc s3.length) (.int w)=some x:=by
  simp only [idxV,q4]
  simp only [idxV] at hi
  exact hi
 refine ⟨x,s4,zns (by omega) g x hx,o4.frm d3,?_⟩
 rw [zJ hT rfl rfl]
 dsimp only
 rw [hb]
 have f0:exs (yd T (k+4)) [some (.loc 0),some (.str ⟨#[c]⟩),some (.int g),none] s3 tgS=exs (yd T (k+4)) [some (.loc 0),some (.str ⟨#[c]⟩),some (.int g),some (.loc s3.length)] (s3++[.lst (str0 c g)]) ydm:=by
  rw [gS0]
  simp! [yx,yeF,znm,Nat.zero_le,str0]
 have f1:exs (yd T (k+4)) [some (.loc 0),some (.str ⟨#[c]⟩),some (.int g),some (.loc s3.length)] (s3++[.lst (str0 c g)]) ydm=exs (yd T (k+4)) [some (.loc 0),some (.str ⟨#[c]⟩),some (.int g),some (.loc s3.length)] t1 yc8:=by
  rw [gS1]
  simp only [str1] at n1
  simp! [yx,yeF,zpF,m1,n1]
 have f2:exs (yd T (k+4)) [some (.loc 0),some (.str ⟨#[c]⟩),some (.int g),some (.loc s3.length)] t1 yc8=exs (yd T (k+4)) [some (.loc 0),some (.str ⟨#[c]⟩),some (.int g),some (.loc s3.length)] t2 ydc:=by
  rw [gS2]
  simp only [yby] at n2
  simp! [yx,m2,n2]
 have f3:exs (yd T (k+4)) [some (.loc 0),some (.str ⟨#[c]⟩),some (.int g),some (.loc s3.length)] t2 ydc=exs (yd T (k+4)) [some (.loc 0),some (.str ⟨#[c]⟩),some (.int g),some (.loc s3.length)] t3 ydR:=by
  rw [gS3]
  simp only [yb6] at n3
  simp! [yx,m3,n3]
 have f4:exs (yd T (k+4)) [some (.loc 0),some (.str ⟨#[c]⟩),some (.int g),some (.loc s3.length)] t3 ydR=.rt x s4:=by
  rw [gS4]
  simp! [yx,hlen,e4,hi']
 simp! [yx,e1,e2,hpw,e3,hml,hg]
 rw [f0,f1,f2,f3,f4]
 rfl
theorem yc7 {b:Bool}{xs:List PV}{v:PV}{o1 o2 p1 p2:Option Int}(hl:xs.length<=400):∃a c u j ys,yaZ (.tp b xs) o1 o2=some a/\yaZ (.tp b xs) p1 p2=some c/\binV .add a (.tp false [v])=some u/\binV .add u c=some (.tp j ys)/\ys.length<=2*xs.length+1/\∀y∈ys,y∈xs \/ y=v:=by
 obtain ⟨j1,y1,e1,l1,m1⟩:=zhT (k:=b) (xs:=xs) o1 o2
 obtain ⟨j2,y2,e2,l2,m2⟩:=zhT (k:=b) (xs:=xs) p1 p2
 obtain ⟨j3,y3,e3,l3,m3⟩:=ziT (k:=j1) (j:=false) (a:=y1) (b:=[v]) (by simp [sizeMax];omega)
 obtain ⟨j4,y4,e4,l4,m4⟩:=ziT (k:=j3) (j:=j2) (a:=y3) (b:=y2) (by simp [sizeMax,l3];omega)
 refine ⟨_,_,_,j4,y4,e1,e2,e3,e4,by simp only [List.length_singleton] at l3;omega,fun y hy=>?_⟩
 rcases m4 y hy with h|h
 ·rcases m3 y h with h|h
  ·exact .inl (m1 y h)
  ·exact .inr (by simpa using h)
 ·exact .inl (m2 y h)
theorem yfH {b:Bool}{xs:List PV}{o1 o2 p1 p2:Option Int}(hl:xs.length<=400):∃a c j ys,yaZ (.tp b xs) o1 o2=some a/\yaZ (.tp b xs) p1 p2=some c/\binV .add a c=some (.tp j ys)/\ys.length<=2*xs.length+1/\∀y∈ys,y∈xs:=by
 obtain ⟨j1,y1,e1,l1,m1⟩:=zhT (k:=b) (xs:=xs) o1 o2
 obtain ⟨j2,y2,e2,l2,m2⟩:=zhT (k:=b) (xs:=xs) p1 p2
 obtain ⟨j4,y4,e4,l4,m4⟩:=ziT (k:=j1) (j:=j2) (a:=y1) (b:=y2) (by simp [sizeMax];omega)
 refine ⟨_,_,j4,y4,e1,e2,e4,by omega,fun y hy=>?_⟩
 rcases m4 y hy with h|h
 ·exact m1 y h
 ·exact m2 y h
noncomputable def tpS:Css:=match yg.body with
 | .cons _ (.cons _ (.cons _ (.cons _ r)))=>r
 |_=>.nil
noncomputable def yc3:Css:=match tpS with | .cons _ r=>r|x=>x
noncomputable def ydl:Css:=match yc3 with | .cons _ r=>r|x=>x
noncomputable def ydx:Css:=match ydl with | .cons _ r=>r|x=>x
noncomputable def yev:Css:=match ydx with | .cons _ r=>r|x=>x
theorem pS0:tpS=(match yg.body with | .cons _ (.cons _ (.cons _ (.cons _ (.cons a _))))=>.cons a yc3|x=>x):=rfl
theorem pS1:yc3=(match yg.body with | .cons _ (.cons _ (.cons _ (.cons _ (.cons _ (.cons a _)))))=>.cons a ydl|x=>x):=rfl
theorem pS2:ydl=(match yg.body with | .cons _ (.cons _ (.cons _ (.cons _ (.cons _ (.cons _ (.cons a _))))))=>.cons a ydx|x=>x):=rfl
theorem pS3:ydx=(match yg.body with | .cons _ (.cons _ (.cons _ (.cons _ (.cons _ (.cons _ (.cons _ (.cons a _)))))))=>.cons a yev|x=>x):=rfl
theorem pS4:yev=(match yg.body with | .cons _ (.cons _ (.cons _ (.cons _ (.cons _ (.cons _ (.cons _ (.cons _ r)))))))=>r|x=>x):=rfl
theorem zmS {st:Store}{L:Nat}{xs:List PV}{i:Int}{v:PV}(h:st[L]?=some (.lst xs))(i0:0<=i)(i1:i<xs.length):yat st (.loc L) (.int i) v=some (st.set L (.lst (xs.set i.toNat v))):=by
 simp only [yat,h,zkR i0 i1]
theorem zmQ {st:Store}{L:Nat}{xs:List PV}{i:Int}(h:st[L]?=some (.lst xs))(i0:0<=i)(i1:i<xs.length):∃x,x∈xs/\idxV st (.loc L) (.int i)=some x:=by
 obtain ⟨x,hx,e⟩:=zim (st:=st) i0 i1
 refine ⟨x,hx,?_⟩
 simp only [idxV,h]
 simp only [idxV] at e
 exact e
theorem zj0 {xs:List PV}{i:Nat}{v y:PV}(h:y∈xs.set i v):y∈xs \/ y=v:=List.mem_or_eq_of_mem_set h
theorem ze3 {B:Store}{ns:List Int}(hns:ns.length<=1000)(k:Nat){b:Bool}{xs:List PV}{D M:Nat}(hx:∀x∈xs,tam D M x=true)(hD:3<=D)(hM:10<=M)(hl:xs.length<=400){st:Store}(h:Frm ns B st) :
  ∃j ys st',(∀y∈ys,tam D M y=true)/\ys.length<=2*xs.length+1/\Frm ns B st'/\yd T (k+6) zds [.loc 0,.tp b xs] st=.ok (.tp j ys) st':=by
 have hT:T zds=some ⟨2,8,false,yg.body⟩:=rfl
 obtain ⟨a,s1,a0,a1,o1,e1⟩:=yaO (k+2) hns (m:=6) (by omega) (by omega) h
 have g1:=o1.frm h
 obtain ⟨w,s2,w0,w1,o2,e2⟩:=yaO (k+2) hns (m:=(xs.length:Int)+1) (by omega) (by omega) g1
 have g2:=o2.frm g1
 obtain ⟨v,s3,tv,g3,e3⟩:=strange hns k g2
 have tv:tam D M v=true:=zcI hD hM v tv
 have e1:yd T (k+5) zaj [.loc 0,.int 6] st=_:=e1
 have e2:yd T (k+5) zaj [.loc 0,.int ((xs.length:Int)+1)] s1=_:=e2
 obtain ⟨hr,hr1,hmin⟩:∃hr:Int,(0<xs.length->0<=hr/\hr<xs.length)/\∀s,yaf .min s [.int w,.int ((xs.length:Int) - 1)]=some (.int hr):=by
  refine ⟨if (xs.length:Int) - 1<w then (xs.length:Int) - 1 else w,fun hp=>?_,fun s=>rfl⟩
  split <;> omega
 have hb:yg.body=(match yg.body with
  | .cons a (.cons b (.cons c (.cons d _)))=>.cons a (.cons b (.cons c (.cons d tpS)))
  |_=>.nil):=rfl
 have key:∃j ys st',(∀y∈ys,tam D M y=true)/\ys.length<=2*xs.length+1/\Frm ns B st'/\exs (yd T (k+5)) [some (.loc 0),some (.tp b xs),some (.int a),some (.int w),some v,some (.int hr),none,none] s3 tpS=.rt (.tp j ys) st':=by
  by_cases c0:xs.length=0 \/ a=0
  ·obtain ⟨u1,u2,u3,j,ys,q1,q2,q3,q4,l,m⟩:=yc7 (b:=b) (xs:=xs) (v:=v) (o1:=none) (o2:=some w) (p1:=some w) (p2:=none) hl
   refine ⟨j,ys,s3,fun y hy=>(m y hy).elim (hx y) (fun e=>e ▸ tv),l,g3,?_⟩
   rw [pS0]
   by_cases c1:xs.length=0
   ·have hz:((xs.length:Int) == 0)=true:=by simp [c1]
    simp! [yg,zW,hz,zbs,zcW,zef,zeB,q1,q2,q3,q4]
   ·have hz:((xs.length:Int) == 0)=false:=beq_eq_false_iff_ne.2 (by omega)
    have ha:(a == 0)=true:=by simp;omega
    simp! [yg,zW,hz,ha,zbs,zcW,zef,zeB,q1,q2,q3,q4]
  have c1:xs.length≠0:=fun e=>c0 (.inl e)
  have ca:a≠0:=fun e=>c0 (.inr e)
  have hz:((xs.length:Int) == 0)=false:=beq_eq_false_iff_ne.2 (by omega)
  have ha:(a == 0)=false:=by simp;omega
  obtain ⟨h0,h1⟩:=hr1 (by omega)
  have r0:exs (yd T (k+5)) [some (.loc 0),some (.tp b xs),some (.int a),some (.int w),some v,some (.int hr),none,none] s3 tpS=exs (yd T (k+5)) [some (.loc 0),some (.tp b xs),some (.int a),some (.int w),some v,some (.int hr),none,none] s3 yc3:=by
   rw [pS0]
   simp! [yg,zW,hz,ha]
  rw [r0]
  by_cases k1:a=1
  ·obtain ⟨u1,u2,j,ys,q1,q2,q3,l,m⟩:=yfH (b:=b) (xs:=xs) (o1:=none) (o2:=some hr) (p1:=some (hr+1)) (p2:=none) hl
   refine ⟨j,ys,s3,fun y hy=>hx y (m y hy),l,g3,?_⟩
   have hb1:(a == 1)=true:=by simp [k1]
   rw [pS1]
   simp! [yg,hb1,zbs,zcW,zef,zeB,q1,q2,q3]
  have hb1:(a == 1)=false:=by simp;omega
  have r1:exs (yd T (k+5)) [some (.loc 0),some (.tp b xs),some (.int a),some (.int w),some v,some (.int hr),none,none] s3 yc3=exs (yd T (k+5)) [some (.loc 0),some (.tp b xs),some (.int a),some (.int w),some v,some (.int hr),none,none] s3 ydl:=by
   rw [pS1]
   simp! [yg,hb1]
  rw [r1]
  by_cases k2:a=2
  ·obtain ⟨x,xm,xi⟩:=ze1 (k:=b) (xs:=xs) h0 h1
   obtain ⟨u1,u2,u3,j,ys,q1,q2,q3,q4,l,m⟩:=yc7 (b:=b) (xs:=xs) (v:=x) (o1:=none) (o2:=some hr) (p1:=some hr) (p2:=none) hl
   refine ⟨j,ys,s3,fun y hy=>(m y hy).elim (hx y) (fun e=>e ▸ hx x xm),l,g3,?_⟩
   have hb2:(a == 2)=true:=by simp [k2]
   rw [pS2]
   simp! [yg,hb2,zbs,zcW,zef,zeB,xi,q1,q2,q3,q4]
  have hb2:(a == 2)=false:=by simp;omega
  have r2:exs (yd T (k+5)) [some (.loc 0),some (.tp b xs),some (.int a),some (.int w),some v,some (.int hr),none,none] s3 ydl=exs (yd T (k+5)) [some (.loc 0),some (.tp b xs),some (.int a),some (.int w),some v,some (.int hr),none,none] s3 ydx:=by
   rw [pS2]
   simp! [yg,hb2]
  rw [r2]
  by_cases k3:a=3
  ·obtain ⟨o,s4,p0,p1,o4,e4⟩:=yaO (k+2) hns (m:=(xs.length:Int)) (by omega) (by omega) g3
   have e4:yd T (k+5) zaj [.loc 0,.int (xs.length:Int)] s3=_:=e4
   have g4:=o4.frm g3
   have hL:s4.length≠0:=by have:=g4.pos;omega
   have t0:(s4++[Ob.lst xs])[s4.length]?=some (.lst xs):=by simp
   obtain ⟨x,xm,xi⟩:=zmQ t0 p0 p1
   obtain ⟨y,ym,yi⟩:=zmQ t0 h0 h1
   have z1:=zmS (v:=x) t0 h0 h1
   obtain ⟨s5,hs5⟩:∃s5,s5=(s4++[Ob.lst xs]).set s4.length (.lst (xs.set hr.toNat x)):=⟨_,rfl⟩
   have t5:s5[s4.length]?=some (.lst (xs.set hr.toNat x)):=by rw [hs5];exact rdS t0
   have z2:=zmS (v:=y) t5 p0 (by rw [List.length_set];exact p1)
   obtain ⟨s6,hs6⟩:∃s6,s6=s5.set s4.length (.lst ((xs.set hr.toNat x).set o.toNat y)):=⟨_,rfl⟩
   have t6:s6[s4.length]?=some (.lst ((xs.set hr.toNat x).set o.toNat y)):=by rw [hs6];exact rdS t5
   rw [<- hs5] at z1
   rw [<- hs6] at z2
   have g6:Frm ns B s6:=by rw [hs6,hs5];exact ((g4.app _).put hL g4.len _).put hL g4.len _
   have htu:yaf .tuple s6 [.loc s4.length]=some (.tp false ((xs.set hr.toNat x).set o.toNat y)):=by simp [yaf,yep,yG,t6]
   have hli:∀s,yaf .list s [.tp b xs]=some (.lst xs):=fun s=>rfl
   have hth:ydA (.lst xs) s4=.ok (.loc s4.length) (s4++[.lst xs]):=rfl
   refine ⟨false,(xs.set hr.toNat x).set o.toNat y,s6,fun u hu=>?_,by rw [List.length_set,List.length_set];omega,g6,?_⟩
   ·rcases zj0 hu with hu|rfl
    ·rcases zj0 hu with hu|rfl
     ·exact hx u hu
     ·exact hx _ xm
    ·exact hx _ ym
   ·have hb3:(a == 3)=true:=by simp [k3]
    rw [pS3]
    simp! [yg,hb3,zW,e4,ev.eq_30,hli,hth,zmT,xi,yi,z1,zja,z2,zcY,htu]
  have hb3:(a == 3)=false:=by simp;omega
  have r3:exs (yd T (k+5)) [some (.loc 0),some (.tp b xs),some (.int a),some (.int w),some v,some (.int hr),none,none] s3 ydx=exs (yd T (k+5)) [some (.loc 0),some (.tp b xs),some (.int a),some (.int w),some v,some (.int hr),none,none] s3 yev:=by
   rw [pS3]
   simp! [yg,hb3]
  rw [r3]
  obtain ⟨u1,u2,u3,j,ys,q1,q2,q3,q4,l,m⟩:=yc7 (b:=b) (xs:=xs) (v:=v) (o1:=none) (o2:=some hr) (p1:=some (hr+1)) (p2:=none) hl
  refine ⟨j,ys,s3,fun y hy=>(m y hy).elim (hx y) (fun e=>e ▸ tv),l,g3,?_⟩
  rw [pS4]
  simp! [yg,zbs,zcW,zef,zeB,q1,q2,q3,q4]
 obtain ⟨j,ys,s4,m,l,g4,e4⟩:=key
 refine ⟨j,ys,s4,m,l,g4,?_⟩
 rw [zJ hT rfl rfl]
 dsimp only
 rw [hb]
 simp! [yg,zW,e1,e2,e3,hmin]
 rw [e4]
 rfl
theorem zlm {d m n:Nat}{a b:Str}(ha:tam d m (.str a)=true)(hb:tam d n (.str b)=true):tam d (m+n) (.str (a++b))=true:=by
 simp only [tam,Bool.and_eq_true,decide_eq_true_eq] at ha hb ⊢
 rw [zix,List.all_append,ha.1,hb.1,List.length_append]
 exact ⟨rfl,by omega⟩
theorem add_str {d m n:Nat}{a b:Str}(ha:tam d m (.str a)=true)(hb:tam d n (.str b)=true)(hm:m+n<=1000):binV .add (.str a) (.str b)=some (.str (a++b)):=by
 simp only [tam,Bool.and_eq_true,decide_eq_true_eq] at ha hb
 simp only [binV]
 rw [if_pos]
 show a.cps.size+b.cps.size<=16777216
 have h1:a.cps.size=a.cps.toList.length:=by simp
 have h2:b.cps.size=b.cps.toList.length:=by simp
 omega
theorem zkG {d m:Nat}{s:Str}{o p:Option Int}(h:tam d m (.str s)=true)(hm:m<=1000):∃r,yaZ (.str s) o p=some (.str r)/\tam d m (.str r)=true:=by
 refine ⟨⟨(cut s.cps.toList o p).toArray⟩,?_,znG h⟩
 simp only [tam,Bool.and_eq_true,decide_eq_true_eq] at h
 simp only [yaZ]
 rw [if_pos]
 show s.cps.size<=16777216
 have h1:s.cps.size=s.cps.toList.length:=by simp
 omega
noncomputable def spT:Css:=match yp.body with
 | .cons _ (.cons _ r)=>r
 |_=>.nil
noncomputable def ydF:Css:=match spT with | .cons _ r=>r|x=>x
noncomputable def ydI:Css:=match ydF with | .cons _ r=>r|x=>x
noncomputable def yd6:Css:=match ydI with | .cons _ r=>r|x=>x
theorem rS0:spT=(match yp.body with | .cons _ (.cons _ (.cons a _))=>.cons a ydF|x=>x):=rfl
theorem rS1:ydF=(match yp.body with | .cons _ (.cons _ (.cons _ (.cons a _)))=>.cons a ydI|x=>x):=rfl
theorem rS2:ydI=(match yp.body with | .cons _ (.cons _ (.cons _ (.cons _ (.cons a _))))=>.cons a yd6|x=>x):=rfl
theorem rS3:yd6=(match yp.body with | .cons _ (.cons _ (.cons _ (.cons _ (.cons _ r))))=>r|x=>x):=rfl
theorem zoe {d m:Nat}{v:PV}(h:tam d m v=true):(∃b xs,v=.tp b xs/\yU v [.tuple]=some (.bl true)) \/ yU v [.tuple]=some (.bl false):=by
 cases v with
 |tp b xs=>exact .inl ⟨b,xs,rfl,rfl⟩
 |loc _=>simp [tam] at h
 |exn _=>simp [tam] at h
 |scr _=>simp [tam] at h
 |_=>exact .inr rfl
theorem zjH {B:Store}{ns:List Int}(hns:ns.length<=1000)(k:Nat){s:Str}{ps:List PV}(H:ycZ s ps){st:Store}(h:Frm ns B st) :
  ∃v st',tam 6 50 v=true/\Frm ns B st'/\yd T (k+7) zex [.loc 0,.tp false (.str s::ps)] st=.ok v st':=by
 have hT:T zex=some ⟨2,6,false,yp.body⟩:=rfl
 have hx:∀x∈PV.str s::ps,tam 3 10 x=true:=fun x hx=>by
  rcases List.mem_cons.1 hx with rfl|hx
  ·exact zcI (by omega) (by omega) _ H.ts
  ·exact zcI (by omega) (by omega) _ (H.tp x hx)
 have few:=H.few
 have one:=H.one
 have hlen:(PV.str s::ps).length=ps.length+1:=rfl
 obtain ⟨a,s1,a0,a1,o1,e1⟩:=yaO (k+3) hns (m:=4) (by omega) (by omega) h
 have g1:=o1.frm h
 obtain ⟨w,s2,w0,w1,o2,e2⟩:=yaO (k+3) hns (m:=((ps.length+1:Nat):Int)) (by omega) (by omega) g1
 have g2:=o2.frm g1
 have e1:yd T (k+6) zaj [.loc 0,.int 4] st=_:=e1
 have e2:yd T (k+6) zaj [.loc 0,.int ((ps.length+1:Nat):Int)] s1=_:=e2
 have big:∀{j ys},(∀y∈ys,tam 5 50 y=true)->ys.length<=50->tam 6 50 (.tp j ys)=true:=fun {j ys} m l=>zcn.2 ⟨by omega,l,m⟩
 have up:∀{v:PV} {d m:Nat},d<=5->m<=50->tam d m v=true->tam 5 50 v=true:=fun {v d m} hd hm e=>zcI hd hm v e
 have hb:yp.body=(match yp.body with
  | .cons a (.cons b _)=>.cons a (.cons b spT)
  |_=>.nil):=rfl
 have key:∃v st',tam 6 50 v=true/\Frm ns B st'/\exs (yd T (k+6)) [some (.loc 0),some (.tp false (.str s::ps)),some (.int a),some (.int w),none,none] s2 spT=.rt v st':=by
  by_cases k0:a=0
  ·have sl:(s.cps.toList.length:Int)<1000/\s.cps.toList.length<=10:=by
    have:=H.ts
    simp only [tam,Bool.and_eq_true,decide_eq_true_eq] at this
    omega
   have pos:=H.pos
   obtain ⟨p,s3,p0,p1,o3,e3⟩:=yaO (k+3) hns (m:=(s.cps.toList.length:Int)) (by omega) (by omega) g2
   have g3:=o3.frm g2
   obtain ⟨c,s4,c0,c1,o4,e4⟩:=yeK hns (k+2) g3
   have g4:=o4.frm g3
   obtain ⟨q,s5,q0,q1,o5,e5⟩:=yaO (k+3) hns (m:=2) (by omega) (by omega) g4
   have e3:yd T (k+6) zaj [.loc 0,.int (s.cps.toList.length:Int)] s2=_:=e3
   have e4:yd T (k+6) zbH [.loc 0] s3=_:=e4
   have e5:yd T (k+6) zaj [.loc 0,.int 2] s4=_:=e5
   obtain ⟨x,xm,xi⟩:=ze1 (k:=false) (xs:=[.int 1,.int 0]) q0 (show q<((2:Nat):Int) from q1)
   obtain ⟨i,rfl⟩:∃i,x=.int i:=by
    simp only [List.mem_cons,List.not_mem_nil,or_false] at xm
    rcases xm with rfl|rfl
    ·exact ⟨1,rfl⟩
    ·exact ⟨0,rfl⟩
   obtain ⟨r1,f1,t1⟩:=zkG (o:=none) (p:=some p) H.ts (by omega)
   obtain ⟨r2,f2,t2⟩:=zkG (o:=some (p+i)) (p:=none) H.ts (by omega)
   have tc:tam 1 1 (.str ⟨#[c]⟩)=true:=zkT (by omega) (by omega)
   have b1:=add_str t1 tc (by omega)
   have t3:=zlm t1 tc
   have b2:=add_str t3 t2 (by omega)
   have t4:=zlm t3 t2
   obtain ⟨j1,y1,z1,l1,m1⟩:=zhT (k:=false) (xs:=.str s::ps) (some 1) none
   obtain ⟨j2,y2,z2,l2,m2⟩:=ziT (k:=false) (j:=j1) (a:=[.str (r1++(⟨#[c]⟩:Str)++r2)]) (b:=y1) (by simp [sizeMax];rw [hlen] at l1;omega)
   refine ⟨.tp j2 y2,s5,big (fun y hy=>?_) (by rw [l2];simp only [List.length_singleton];rw [hlen] at l1;omega),o5.frm g4,?_⟩
   ·rcases m2 y hy with hy|hy
    ·simp only [List.mem_cons,List.not_mem_nil,or_false] at hy
     rw [hy]
     exact up (by omega) (by omega) t4
    ·exact up (by omega) (by omega) (hx y (m1 y hy))
   ·have hb1:(a == 0)=true:=by simp [k0]
    have hls:=zjP (s:=s) (st:=s2) (by omega)
    rw [rS0]
    simp! [yp,hb1,ix0,hls,e3,e4,e5,xi,zbs,zcW,zef,zeB,f1,f2,b1,b2,z1,z2]
  have hb0:(a == 0)=false:=beq_eq_false_iff_ne.2 k0
  have r0:exs (yd T (k+6)) [some (.loc 0),some (.tp false (.str s::ps)),some (.int a),some (.int w),none,none] s2 spT=exs (yd T (k+6)) [some (.loc 0),some (.tp false (.str s::ps)),some (.int a),some (.int w),none,none] s2 ydF:=by
   rw [rS0]
   simp! [yp,hb0]
  rw [r0]
  have last:∃v st',tam 6 50 v=true/\Frm ns B st'/\exs (yd T (k+6)) [some (.loc 0),some (.tp false (.str s::ps)),some (.int a),some (.int w),none,none] s2 yd6=.rt v st':=by
   obtain ⟨j,ys,s3,m,l,g3,e3⟩:=ze3 hns k (b:=false) (xs:=.str s::ps) hx (by omega) (by omega) (by rw [hlen];omega) g2
   rw [hlen] at l
   refine ⟨.tp j ys,s3,big (fun y hy=>up (by omega) (by omega) (m y hy)) (by omega),g3,?_⟩
   rw [rS3]
   simp! [yp,e3]
  have sec:∃v st',tam 6 50 v=true/\Frm ns B st'/\exs (yd T (k+6)) [some (.loc 0),some (.tp false (.str s::ps)),some (.int a),some (.int w),none,none] s2 ydI=.rt v st':=by
   have et:=yco H.ts (by omega) yJ zgE
   rw [zbD] at et
   by_cases k2:a=2
   ·have hb2:(a == 2)=true:=by simp [k2]
    by_cases k3:s=yJ
    ·rw [decide_eq_true k3] at et
     have tim:=H.tim k3
     obtain ⟨p0,p1,pr,rfl⟩:∃p0 p1 pr,ps=p0::p1::pr:=by
      match ps,tim with
      |p0::p1::pr,_=>exact ⟨p0,p1,pr,rfl⟩
     obtain ⟨u1,u2,u3,j,ys,q1,q2,q3,q4,l,m⟩:=yc7 (b:=false) (xs:=.str s::p0::p1::pr) (v:=p1) (o1:=none) (o2:=some 1) (p1:=some 2) (p2:=none) (by rw [hlen];omega)
     rw [hlen] at l
     refine ⟨.tp j ys,s2,big (fun y hy=>up (by omega) (by omega) ((m y hy).elim (hx y) fun e=>e ▸ hx p1 (by simp))) (by omega),g2,?_⟩
     rw [rS2]
     simp! [yp,hb2,ix0,ix2,et,zbs,zcW,zef,zeB,q1,q2,q3,q4]
    ·rw [decide_eq_false k3] at et
     obtain ⟨v,st',t,g,e⟩:=last
     refine ⟨v,st',t,g,?_⟩
     rw [rS2]
     simp! [yp,hb2,ix0,et]
     exact e
   ·have hb2:(a == 2)=false:=beq_eq_false_iff_ne.2 k2
    obtain ⟨v,st',t,g,e⟩:=last
    refine ⟨v,st',t,g,?_⟩
    rw [rS2]
    simp! [yp,hb2]
    exact e
  obtain ⟨x,xm,xi⟩:=ze1 (k:=false) (xs:=.str s::ps) w0 w1
  by_cases k1:a=1
  ·have hb1:(a == 1)=true:=by simp [k1]
   rcases zoe (hx x xm) with ⟨b,xs,rfl,hi⟩|hi
   ·obtain ⟨d0,d1,d2⟩:=zcn.1 (hx _ xm)
    obtain ⟨j3,y3,s3,m3,l3,g3,e3⟩:=ze3 hns k (b:=b) (xs:=xs) (D:=3) (M:=10) (fun y hy=>zcI (by omega) (by omega) _ (d2 y hy)) (by omega) (by omega) (by omega) g2
    obtain ⟨u1,u2,u3,j,ys,q1,q2,q3,q4,l,m⟩:=yc7 (b:=false) (xs:=.str s::ps) (v:=.tp j3 y3) (o1:=none) (o2:=some w) (p1:=some (w+1)) (p2:=none) (by rw [hlen];omega)
    rw [hlen] at l
    refine ⟨.tp j ys,s3,big (fun y hy=>(m y hy).elim (fun e=>up (by omega) (by omega) (hx y e)) fun e=>e ▸ zcn.2 ⟨by omega,by omega,fun z hz=>zcI (by omega) (by omega) _ (m3 z hz)⟩) (by omega),g3,?_⟩
    rw [rS1]
    simp! [yp,hb1,xi,hi,e3,zbs,zcW,zef,zeB,q1,q2,q3,q4]
   ·obtain ⟨v,st',t,g,e⟩:=sec
    refine ⟨v,st',t,g,?_⟩
    rw [rS1]
    simp! [yp,hb1,xi,hi]
    exact e
  ·have hb1:(a == 1)=false:=beq_eq_false_iff_ne.2 k1
   obtain ⟨v,st',t,g,e⟩:=sec
   refine ⟨v,st',t,g,?_⟩
   rw [rS1]
   simp! [yp,hb1]
   exact e
 obtain ⟨v,s3,t,g3,e3⟩:=key
 refine ⟨v,s3,t,g3,?_⟩
 rw [zJ hT rfl rfl]
 dsimp only
 rw [hb]
 simp! [yp,zW,e1]
 rw [e2]
 simp! [e3]
 rfl
end WK
namespace WK
open IC PySem
theorem zmu {c:Cl}{N acc lo:Int}{st:Store}:exs c [some (.int N),some (.int acc),some (.int lo)] st (.cons (.asg (.n 1) (.bin .mul (.cst (.int 2)) (.var 1))) .nil)=.nx [some (.int N),some (.int (2*acc)),some (.int lo)] st:=by
 simp only [xs_nil,xs_cons,x_asg,thenF,nxO,ev.eq_1,ev.eq_2,ev.eq_3,R.bind,R.fl,yL,binV,binI,CMulB,toR,List.set_cons_zero,List.set_cons_succ,List.getElem?_cons_zero,List.getElem?_cons_succ]
 simp
theorem zoD (k n:Nat)(hn:n<1000)(st:Store):yd T (k+1) zfM [.int n] st=.ok (.int (2 ^ n)) st:=by
 obtain ⟨ρ',st',h,u,e1,e2⟩:=zgS (call:=yd T k) (t:=.n 2) (b:=.cons (.asg (.n 1) (.bin .mul (.cst (.int 2)) (.var 1))) .nil) (fun i ρ st=>∃u,ρ=[some (.int n),some (.int (2 ^ i)),u]/\st=[]) (yD n 0 1) 0 [some (.int n),some (.int 1),none] [] ⟨_,rfl,rfl⟩ (by
  rintro j x ρ st hx ⟨u,rfl,rfl⟩
  have hx:∃i,x=.int i:=by
   have:∀(n:Nat) (a d:Int) (j:Nat) x,(yD n a d)[j]?=some x->∃i,x=.int i:=by
    intro n
    induction n with
    |zero=>intro a d j x h;simp [yD] at h
    |succ n ih =>
     intro a d j x h
     cases j with
     |zero=>simp [yD] at h;exact ⟨a,h.symm⟩
     |succ j=>simp [yD] at h;exact ih _ _ _ _ h
   exact this _ _ _ _ _ hx
  obtain ⟨i,rfl⟩:=hx
  exact ⟨_,_,_,rfl,zmu,_,by rw [Int.pow_succ,Int.mul_comm],rfl⟩)
 have hl:(yD n 0 1).length=n:=by
  have:∀(n:Nat) (a d:Int),(yD n a d).length=n:=by
   intro n
   induction n with
   |zero=>intro a d;rfl
   |succ n ih=>intro a d;simp [yD,ih]
  exact this _ _ _
 rw [hl,Nat.zero_add] at e1
 subst e1 e2
 rw [yd,show T zfM=some zem from rfl]
 simp_all! [zem,noLocs,noLoc,Bool.and_self,x_asg,x_for,nxO,ev.eq_1,ev.eq_2,yL,List.set_cons_zero,List.set_cons_succ,evi,R.bind,ycA,toL]
 simp only [show (n:Int).natAbs<1000000000 by omega,if_true,Int.toNat_natCast,h]
 simp [noLoc]
local macro_rules | `(tactic| simp! [$xs,*])=>`(tactic| simp only [IC.xs_cons,IC.xs_nil,IC.x_asg,IC.x_ite,IC.x_ret,IC.x_expr,IC.x_for,IC.x_six,IC.x_try,IC.x_raise,IC.evs,IC.evi,IC.ev.eq_1,IC.ev.eq_2,IC.ev.eq_3,IC.ev.eq_4,IC.ev.eq_5,IC.ev.eq_6,IC.ev.eq_7,IC.ev.eq_8,IC.ev.eq_9,IC.ev.eq_10,IC.ev.eq_11,IC.ev.eq_12,IC.ev.eq_13,IC.ev.eq_14,IC.ev.eq_15,IC.ev.eq_16,IC.ev.eq_17,IC.ev.eq_18,IC.ev.eq_19,IC.ev.eq_20,IC.ev.eq_21,IC.ev.eq_22,IC.ev.eq_24,IC.ev.eq_25,IC.ev.eq_26,IC.ev.eq_28, IC.v_comp,List.getElem?_cons_zero,List.getElem?_cons_succ,WK.bd_ok,WK.fl_ok,WK.bd_exc,WK.fl_exc,WK.toR_some,IC.toL,WK.bT_n,WK.nxO_some,WK.th_nx,WK.th_rt,WK.th_exc,List.set_cons_zero,List.set_cons_succ,WK.on_t,WK.t_bl,WK.ono,IC.onBl,cond_true,cond_false,List.length_cons,List.length_nil,Nat.zero_add,Nat.reduceAdd,Nat.reduceSub,Nat.reduceLeDiff,if_true,IC.noLoc,IC.noLocs,WK.noLocs_ints,Bool.and_self,Bool.not_true,Bool.not_false,List.map_cons,List.map_nil,List.replicate,List.cons_append,List.nil_append,List.append_nil,Option.bind_none,Option.bind_some,Option.join_some,WK.b_add,WK.b_sub,WK.b_mul2,WK.b_div2,WK.c_lt,WK.c_le,WK.c_gt,WK.c_ge,WK.c_eq,WK.c_ne,IC.PV.tup,IC.sizeMax,$xs,*])
noncomputable def gv (D:List (PV×PV))(c:PV):Int:=match look c D with
 |some (.int i)=>i
 |_=>0
def Dk (xs:List PV)(W:Int)(D:List (PV×PV)):Prop:=∀p∈D,p.1∈xs/\∃i,p.2=.int i/\0<=i/\i<W
def Has (D:List (PV×PV))(c:PV):Prop:=(D.any fun p=>peq p.1 c)=true
theorem zhW {c v:PV}:∀{D:List (PV×PV)},look c D=some v->∃p∈D,p.2=v/\peq p.1 c=true
 | [],h=>by cases h
 | (a,b)::r,h=>by
  simp only [look] at h
  split at h
  ·rename_i e
   cases h
   exact ⟨(a,v),by simp,rfl,e⟩
  ·obtain ⟨p,hp,e1,e2⟩:=zhW h
   exact ⟨p,List.mem_cons_of_mem _ hp,e1,e2⟩
theorem ziC {c:PV}:∀{D:List (PV×PV)},Has D c->∃v,look c D=some v
 | [],h=>by cases h
 | (a,b)::r,h=>by
  simp only [look]
  by_cases e:peq a c=true
  ·rw [if_pos e];exact ⟨b,rfl⟩
  ·rw [if_neg e]
   refine ziC ?_
   simp only [Has,List.any_cons,Bool.or_eq_true] at h
   rcases h with h|h
   ·exact absurd h e
   ·exact h
theorem zpI {xs:List PV}{W:Int}{D:List (PV×PV)}(H:Dk xs W D)(hW:0<W)(c:PV):(look c D).getD (.int 0)=.int (gv D c)/\0<=gv D c/\gv D c<W:=by
 unfold gv
 cases e:look c D with
 |none=>exact ⟨rfl,by simp,by simpa using hW⟩
 |some v =>
  obtain ⟨p,hp,e1,_⟩:=zhW e
  obtain ⟨_,i,e2,i0,i1⟩:=H p hp
  rw [<- e1,e2]
  exact ⟨rfl,i0,i1⟩
theorem Dk.put {xs:List PV}{W:Int}{D:List (PV×PV)}(H:Dk xs W D){c:PV}(hc:c∈xs){v:Int}(v0:0<=v)(v1:v<W):Dk xs W (put c (.int v) D):=by
 intro p hp
 unfold IC.put at hp
 split at hp
 ·obtain ⟨q,hq,rfl⟩:=List.mem_map.1 hp
  obtain ⟨h1,h2⟩:=H q hq
  split
  ·exact ⟨h1,v,rfl,v0,v1⟩
  ·exact ⟨h1,h2⟩
 ·rcases List.mem_append.1 hp with hp|hp
  ·exact H p hp
  ·simp only [List.mem_cons,List.not_mem_nil,or_false] at hp
   subst hp
   exact ⟨hc,v,rfl,v0,v1⟩
theorem znL {D:List (PV×PV)}{c d v:PV}(h:Has D d):Has (IC.put c v D) d:=by
 unfold Has IC.put at *
 split
 ·rw [List.any_map]
  rw [List.any_eq_true] at h ⊢
  obtain ⟨p,hp,e⟩:=h
  refine ⟨p,hp,?_⟩
  simp only [Function.comp]
  split
  ·exact e
  ·exact e
 ·rw [List.any_append,h,Bool.true_or]
theorem zl3 {D:List (PV×PV)}{c v:PV}(h:peq c c=true):Has (IC.put c v D) c:=by
 unfold Has IC.put
 split
 ·rename_i e
  rw [List.any_map]
  rw [List.any_eq_true] at e ⊢
  obtain ⟨p,hp,e⟩:=e
  refine ⟨p,hp,?_⟩
  simp only [Function.comp,e,if_true]
 ·rw [List.any_append]
  simp [h]
theorem znz {D:List (PV×PV)}{c v:PV}:(put c v D).length<=D.length+1:=by
 unfold IC.put
 split
 ·rw [List.length_map];omega
 ·simp
theorem znB {c:PV}(h:yaB c):peq c c=true:=by
 obtain ⟨a,b,_,_,_,_,rfl⟩:=h
 simp [peq,ybi]
theorem zgy {c:PV}(h:yaB c):isKey true c=true:=by
 obtain ⟨a,b,_,_,_,_,rfl⟩:=h
 rfl
noncomputable abbrev sw:Str:=Str.ofString "w"
noncomputable abbrev sws:Str:=Str.ofString "words"
noncomputable abbrev smk:Str:=Str.ofString "marked"
noncomputable def mob (w:Int)(L:Nat)(mk:Int):Ob:=.ins 20 [(sw,.int w),(sws,.loc L),(smk,.int mk)]
structure MS (st:Store)(M L:Nat)(w:Int)(D:List (PV×PV))(mk:Int):Prop where
 m:st[M]?=some (mob w L mk)
 d:st[L]?=some (.dct true D)
 ne:M≠L
theorem yfx {w mk:Int}{L:Nat}:([(sw,PV.int w),(sws,.loc L),(smk,.int mk)]:List (Str×PV)).lookup sw=some (.int w):=by with_unfolding_all rfl
theorem ye7 {w mk:Int}{L:Nat}:([(sw,PV.int w),(sws,.loc L),(smk,.int mk)]:List (Str×PV)).lookup sws=some (.loc L):=by with_unfolding_all rfl
theorem yfp {w mk:Int}{L:Nat}:([(sw,PV.int w),(sws,.loc L),(smk,.int mk)]:List (Str×PV)).lookup smk=some (.int mk):=by with_unfolding_all rfl
section
variable {st:Store}{M L:Nat}{w mk:Int}{D:List (PV×PV)}{xs:List PV}{W:Int}
theorem MS.fw (h:MS st M L w D mk):ycg 20 st (.loc M) sw=some (.int w):=by simp only [ycg,h.m,mob,if_true];exact yfx
theorem MS.fd (h:MS st M L w D mk):ycg 20 st (.loc M) sws=some (.loc L):=by simp only [ycg,h.m,mob,if_true];exact ye7
theorem MS.fm (h:MS st M L w D mk):ycg 20 st (.loc M) smk=some (.int mk):=by simp only [ycg,h.m,mob,if_true];exact yfp
theorem MS.ins (h:MS st M L w D mk)(m:Str)(hm:(([(sw,PV.non),(sws,.non),(smk,.non)]:List (Str×PV)).lookup m).isNone=true:=by decide +kernel):ycF 20 m st (.loc M)=some true:=by
 have e:([(sw,PV.int w),(sws,.loc L),(smk,.int mk)]:List (Str×PV)).lookup m=none:=by
  simp only [List.lookup] at hm ⊢
  cases h1:m == sw with
  |true=>rw [h1] at hm;cases hm
  |false =>
   rw [h1] at hm
   cases h2:m == sws with
   |true=>rw [h2] at hm;cases hm
   |false =>
    rw [h2] at hm
    cases h3:m == smk with
    |true=>rw [h3] at hm;cases hm
    |false=>rfl
 simp only [ycF,h.m,mob]
 rw [if_pos ⟨trivial,e⟩]
theorem zpq {v:Int}:ycb smk (.int v) [(sw,PV.int w),(sws,.loc L),(smk,.int mk)]=[(sw,.int w),(sws,.loc L),(smk,.int v)]:=by with_unfolding_all rfl
theorem MS.sm (h:MS st M L w D mk)(v:Int):ybx 20 st (.loc M) smk (.int v)=some (st.set M (mob w L v))/\MS (st.set M (mob w L v)) M L w D v:=by
 refine ⟨?_,⟨rdS h.m,by rw [List.getElem?_set_ne h.ne];exact h.d,h.ne⟩⟩
 simp only [ybx,h.m,mob]
 rw [if_pos ⟨trivial,by simp⟩,zpq]
theorem MS.sd (h:MS st M L w D mk){c:PV}(hc:yaB c)(v:Int)(hl:D.length<1000):yaP st (.loc L) c (.int v)=some (st.set L (.dct true (put c (.int v) D)))/\MS (st.set L (.dct true (put c (.int v) D))) M L w (put c (.int v) D) mk:=by
 refine ⟨?_,⟨by rw [List.getElem?_set_ne (Ne.symm h.ne)];exact h.m,rdS h.d,h.ne⟩⟩
 simp only [yaP,h.d]
 rw [if_pos ⟨zgy hc,by omega⟩]
theorem zn4 (h:st[L]?=some (.dct true D))(H:Dk xs W D)(hW:0<W){c:PV}(hc:yaB c):yV .get st (.loc L)=some true/\yaI .get st (.loc L) [c,.int 0]=.ok (.int (gv D c)) st:=by
 constructor
 ·simp [yV,yar,h]
 ·simp only [yaI,ycN,yar,h]
  rw [if_pos (zgy hc),(zpI H hW c).1]
theorem znE (k:Nat)(h:MS st M L w D mk)(H:Dk xs W D)(hW:0<W){c:PV}(hc:yaB c):yd T (k+1) zaN [.loc M,c] st=.ok (.int (gv D c)) st:=by
 have hT:T zaN=some zaw:=rfl
 obtain ⟨m1,m2⟩:=zn4 h.d H hW hc
 rw [zJ hT rfl rfl]
 simp! [zaw,zaT,ev.eq_32,h.fd,m1,m2]
theorem highest (k n:Nat)(hn:n<=100)(s:Store):yd T (k+1) zeq [.int n] s=.ok (.int (2 ^ n - 1)) s:=by
 have hT:T zeq=some zeu:=rfl
 have hs:binV .shl (.int 1) (.int (n:Int))=some (.int (2 ^ n)):=by
  simp only [binV,binI]
  rw [if_pos ⟨by omega,by omega,by decide⟩]
  simp
 rw [zaf hT rfl rfl rfl]
 simp! [zeu,znr,hs]
end
end WK
namespace WK
open IC PySem
local macro_rules | `(tactic| simp! [$xs,*])=>`(tactic| simp only [IC.xs_cons,IC.xs_nil,IC.x_asg,IC.x_ite,IC.x_ret,IC.x_expr,IC.x_for,IC.x_six,IC.x_try,IC.x_raise,IC.evs,IC.evi,IC.ev.eq_1,IC.ev.eq_2,IC.ev.eq_3,IC.ev.eq_4,IC.ev.eq_5,IC.ev.eq_6,IC.ev.eq_7,IC.ev.eq_8,IC.ev.eq_9,IC.ev.eq_10,IC.ev.eq_11,IC.ev.eq_12,IC.ev.eq_13,IC.ev.eq_14,IC.ev.eq_15,IC.ev.eq_16,IC.ev.eq_17,IC.ev.eq_18,IC.ev.eq_19,IC.ev.eq_20,IC.ev.eq_21,IC.ev.eq_22,IC.ev.eq_24,IC.ev.eq_25,IC.ev.eq_26,IC.ev.eq_28, IC.v_comp,List.getElem?_cons_zero,List.getElem?_cons_succ,WK.bd_ok,WK.fl_ok,WK.bd_exc,WK.fl_exc,WK.toR_some,IC.toL,WK.bT_n,WK.nxO_some,WK.th_nx,WK.th_rt,WK.th_exc,List.set_cons_zero,List.set_cons_succ,WK.on_t,WK.t_bl,WK.ono,IC.onBl,cond_true,cond_false,List.length_cons,List.length_nil,Nat.zero_add,Nat.reduceAdd,Nat.reduceSub,Nat.reduceLeDiff,if_true,IC.noLoc,IC.noLocs,WK.noLocs_ints,Bool.and_self,Bool.not_true,Bool.not_false,List.map_cons,List.map_nil,List.replicate,List.cons_append,List.nil_append,List.append_nil,Option.bind_none,Option.bind_some,Option.join_some,WK.b_add,WK.b_sub,WK.b_mul2,WK.b_div2,WK.c_lt,WK.c_le,WK.c_gt,WK.c_ge,WK.c_eq,WK.c_ne,IC.PV.tup,IC.sizeMax,$xs,*])
theorem yeS (n:Nat):(0:Int)<2 ^ n:=Int.pow_pos (by decide)
theorem yd7 {n:Nat}(hn:n<=16):(2:Int) ^ n<=65536:=by
 have h:(2:Int) ^ n<=2 ^ 16:=by
  have:=Nat.pow_le_pow_right (n:=2) (by omega) hn
  exact_mod_cast this
 exact h
theorem zpc {st:Store}{Q:Nat}{D:List (PV×PV)}{xs:List PV}(h:st[Q]?=some (.dct true D))(hx:∀x∈xs,yaB x)(hl:D.length<900){c:PV}(hc:c∈xs)(v:Int):yaP st (.loc Q) c (.int v)=some (st.set Q (.dct true (put c (.int v) D))):=by
 simp only [yaP,h]
 rw [if_pos ⟨zgy (hx c hc),by omega⟩]
theorem zn2 {c v:PV}(hc:peq c c=true)(D:List (PV×PV)):look c (put c v D)=some v:=by
 have h1:∀(D:List (PV×PV)),(D.any fun p=>peq p.1 c)=true->look c (D.map fun p=>if peq p.1 c=true then (p.1,v) else p)=some v:=by
  intro D
  induction D with
  |nil=>intro h;cases h
  |cons p r ih =>
   intro h
   obtain ⟨a,b⟩:=p
   simp only [List.map_cons]
   by_cases e:peq a c=true
   ·rw [if_pos e];simp only [look];rw [if_pos e]
   ·rw [if_neg e]
    simp only [look]
    rw [if_neg e]
    simp only [List.any_cons,Bool.or_eq_true] at h
    exact ih (h.resolve_left e)
 have h2:∀(D:List (PV×PV)),¬(D.any fun p=>peq p.1 c)=true->look c (D++[(c,v)])=some v:=by
  intro D
  induction D with
  |nil=>intro h;simp only [List.nil_append,look];rw [if_pos hc]
  |cons p r ih =>
   intro h
   obtain ⟨a,b⟩:=p
   simp only [List.any_cons,Bool.or_eq_true,not_or] at h
   simp only [List.cons_append,look]
   rw [if_neg h.1]
   exact ih h.2
 unfold IC.put
 split
 ·rename_i h;exact h1 D h
 ·rename_i h;exact h2 D h
theorem zpe {xs:List PV}{W:Int}{D:List (PV×PV)}(H:Dk xs W D){c:PV}(h:Has D c):look c D=some (.int (gv D c)):=by
 obtain ⟨v,e⟩:=ziC h
 obtain ⟨p,hp,e1,_⟩:=zhW e
 obtain ⟨_,i,e2,_,_⟩:=H p hp
 unfold gv
 rw [e]
 rw [<- e1,e2]
theorem znI {v:PV}(h:ltr v=true):∃c,97<=c/\c<=122/\v=.str ⟨#[c]⟩:=by
 unfold ltr at h
 split at h
 ·rename_i s
  split at h
  ·rename_i c e
   simp only [Bool.and_eq_true,decide_eq_true_eq] at h
   exact ⟨c,h.1,h.2,by rw [zk0 s e]⟩
  ·cases h
 ·cases h
theorem zmO {lo hi:Int}{v:PV}(h:wh lo hi v=true):∃i,lo<=i/\i<=hi/\v=.int i:=by
 unfold wh at h
 split at h
 ·rename_i i
  simp only [Bool.and_eq_true,decide_eq_true_eq] at h
  exact ⟨i,h.1,h.2,rfl⟩
 ·cases h
theorem zj5 {u v:PV}(h:yag (.tp false [u,v])=true):yaB (.tp false [u,v]):=by
 simp only [yag,Bool.and_eq_true] at h
 obtain ⟨c,c0,c1,rfl⟩:=znI h.1
 obtain ⟨a,a0,a1,rfl⟩:=zmO h.2
 exact ⟨c,a,c0,c1,a0,a1,rfl⟩
theorem zgF {d m:Nat}{u v:PV}(hm:2<=m)(hu:tam d m u=true)(hv:tam d m v=true):tam (d+1) m (.tp false [u,v])=true:=zcn.2 ⟨by omega,by simp;omega,fun x hx=>by
 simp only [List.mem_cons,List.not_mem_nil,or_false] at hx
 rcases hx with rfl|rfl
 ·exact hu
 ·exact hv⟩
section
variable {st:Store}{M L:Nat}{mk:Int}{D:List (PV×PV)}{xs:List PV}{n:Nat}{u v:PV}
theorem zeF (k:Nat){d m:Nat}(t:tam d m (.tp false [u,v])=true)(hm:m<=1000)(hc:yag (.tp false [u,v])=true)(s:Store):yd T (k+4) zct [u,v] s=.ok (.tp false [u,v]) s:=by
 have hT:T zct=some zbi:=rfl
 have e:=zeV k t hm []
 rw [hc] at e
 have hn:=zaa _ _ _ t
 have ho:∀s2,ycD s (.rt (.tp false [u,v]) s2)=.ok (.tp false [u,v]) s:=fun s2=>by simp only [ycD,hn,if_true]
 rw [zaf hT rfl rfl (by simpa only [noLoc] using hn)]
 simp! [zbi,e,ho,Nat.zero_le]
theorem ziZ (k:Nat){d m:Nat}(t:tam d m (.tp false [u,v])=true)(hm:m<=1000)(hc:yag (.tp false [u,v])=false)(s:Store):yd T (k+4) zct [u,v] s=.exc 2 s:=by
 have hT:T zct=some zbi:=rfl
 have e:=zeV k t hm []
 rw [hc] at e
 have hn:=zaa _ _ _ t
 have ho:∀ρ s2,ycD s (.exc 2 ρ s2)=.exc 2 s:=fun ρ s2=>rfl
 rw [zaf hT rfl rfl (by simpa only [noLoc] using hn)]
 simp! [zbi,e,ho,Nat.zero_le]
theorem znp (k:Nat)(h:MS st M L n D mk){d m:Nat}(t:tam d m (.tp false [u,v])=true)(hm:m<=1000)(hc:yag (.tp false [u,v])=false):yd T (k+5) zau [.loc M,u,v] st=.exc 2 st:=by
 have hT:T zau=some zav:=rfl
 have e1:=ziZ k t hm hc st
 have ih:=h.ins (Str.ofString "held_in")
 rw [zJ hT rfl rfl]
 simp! [zav,ih,e1,ev.eq_37]
 rfl
theorem ziG (k:Nat)(h:MS st M L n D mk){d m:Nat}(t:tam d m (.tp false [u,v])=true)(hm:m<=1000)(hc:yag (.tp false [u,v])=true):∃r,yd T (k+5) zau [.loc M,u,v] st=.ok r st:=by
 have hT:T zau=some zav:=rfl
 have hT2:T zaN=some zaw:=rfl
 have e1:=zeF k t hm hc st
 have m1:yV .get st (.loc L)=some true:=by simp [yV,yar,h.d]
 have m2:yaI .get st (.loc L) [.tp false [u,v],.int 0]=.ok ((look (.tp false [u,v]) D).getD (.int 0)) st:=by
  simp only [yaI,ycN,yar,h.d]
  rw [if_pos (zgy (zj5 hc))]
 have e2:yd T (k+4) zaN [.loc M,.tp false [u,v]] st=.ok ((look (.tp false [u,v]) D).getD (.int 0)) st:=by
  rw [zJ hT2 rfl rfl]
  simp! [zaw,zaT,ev.eq_32,h.fd,m1,m2]
 have ih:=h.ins (Str.ofString "held_in")
 refine ⟨(look (.tp false [u,v]) D).getD (.int 0),?_⟩
 rw [zJ hT rfl rfl]
 simp! [zav,zaT,ih,e1,e2,ev.eq_37]
theorem word (k:Nat)(h:MS st M L n D mk)(H:Dk xs (2 ^ n) D)(hc:yaB (.tp false [u,v])):yd T (k+5) zau [.loc M,u,v] st=.ok (.int (gv D (.tp false [u,v]))) st:=by
 have hT:T zau=some zav:=rfl
 have e1:=zeF k (ze4 hc) (by omega) (zi5 hc) st
 have e2:yd T (k+4) zaN [.loc M,.tp false [u,v]] st=_:=znE (k+3) h H (yeS n) hc
 have ih:=h.ins (Str.ofString "held_in")
 rw [zJ hT rfl rfl]
 simp! [zav,zaT,ih,e1,e2,ev.eq_37]
theorem zoh (k:Nat){d m:Nat}(t:tam d m (.tp false [u,v])=true)(hm:m<=1000)(hc:yag (.tp false [u,v])=false)(x:PV):yd T (k+5) zat [.loc M,u,v,x] st=.exc 2 st:=by
 have hT:T zat=some zaB:=rfl
 have e1:=ziZ k t hm hc st
 rw [zJ hT rfl rfl]
 simp! [zaB,e1]
 rfl
theorem znk (k:Nat)(hn:n<=16)(h:MS st M L n D mk){d m:Nat}(t:tam d m (.tp false [u,v])=true)(hm:m<=1000)(hc:yag (.tp false [u,v])=true){d' m':Nat}{x:PV}(tx:tam d' m' x=true)(hw:wh 0 (2 ^ n - 1) x=false) :
  yd T (k+5) zat [.loc M,u,v,x] st=.exc 3 st:=by
 have hT:T zat=some zaB:=rfl
 have e1:=zeF k t hm hc st
 have e2:yd T (k+4) zeq [.int n] st=.ok (.int (2 ^ n - 1)) st:=highest (k+3) n (by omega) st
 have e3:yd T (k+4) zdN [x,.int 0,.int (2 ^ n - 1)] st=.ok (.bl (wh 0 (2 ^ n - 1) x)) st:=zcS (k+3) tx 0 (2 ^ n - 1) st
 rw [hw] at e3
 obtain ⟨z,hz⟩:=znd (vs:=[.str "this is no word of width ",.int (n:Int)]) st (fun y hy=>by
  simp only [List.mem_cons,List.not_mem_nil,or_false] at hy
  rcases hy with rfl|rfl
  ·exact znl (by decide +kernel)
  ·exact zne (by
    have:(n:Int).natAbs=n:=by simp
    rw [this]
    exact Nat.lt_of_le_of_lt hn (Nat.lt_of_lt_of_le (show 16<2 ^ 5 by decide) (Nat.pow_le_pow_right (by omega) (by omega))))) (by simp)
 rw [zJ hT rfl rfl]
 simp! [zaB,e1,h.fw,e2,e3,ev.eq_32,hz]
 rfl
theorem yeU (k:Nat)(hn:n<=16)(h:MS st M L n D mk)(hl:D.length<900){d m:Nat}(t:tam d m (.tp false [u,v])=true)(hm:m<=1000)(hc:yag (.tp false [u,v])=true){x:Int}(v0:0<=x)(v1:x<2 ^ n) :
  yd T (k+5) zat [.loc M,u,v,.int x] st=.ok .non (st.set L (.dct true (put (.tp false [u,v]) (.int x) D))):=by
 have hT:T zat=some zaB:=rfl
 have e1:=zeF k t hm hc st
 have e2:yd T (k+4) zeq [.int n] st=.ok (.int (2 ^ n - 1)) st:=highest (k+3) n (by omega) st
 have e3:yd T (k+4) zdN [.int x,.int 0,.int (2 ^ n - 1)] st=.ok (.bl (wh 0 (2 ^ n - 1) (.int x))) st:=zcS (k+3) (d:=0) (m:=0) rfl 0 (2 ^ n - 1) st
 have hw:wh 0 (2 ^ n - 1) (.int x)=true:=by
  simp only [wh]
  rw [decide_eq_true v0,decide_eq_true (by omega)];rfl
 rw [hw] at e3
 obtain ⟨d1,h1⟩:=h.sd (zj5 hc) x (by omega)
 rw [zJ hT rfl rfl]
 simp! [zaB,e1,h.fw,e2,e3,h.fd,zko,d1,zcY,ev.eq_32]
 rfl
theorem yeB (k:Nat)(h:MS st M L n D mk):yd T (k+1) zcy [.loc M] st=.ok (.int mk) st:=by
 have hT:T zcy=some zbJ:=rfl
 rw [zJ hT rfl rfl]
 simp! [zbJ,zaT,h.fm,ev.eq_32]
theorem zgt (k:Nat){x:PV}{d m:Nat}(t:tam d m x=true)(hd:d<=60)(hm:m<=1000)(r:yae x=true)(s2:Store):yd T (k+7) zcr [x] s2=.ok .non s2:=by
 have hT:T zcr=some zbm:=rfl
 have e:=zhS k t hd hm []
 rw [r] at e
 have hnl:=zaa _ _ _ t
 rw [zaf hT rfl rfl (by simp only [noLocs,hnl,Bool.and_self])]
 simp! [zbm,e]
 rfl
theorem zhe (k:Nat){x:PV}{d m:Nat}(t:tam d m x=true)(hd:d<=60)(hm:m<=1000)(r:yae x=false)(s2:Store):yd T (k+7) zcr [x] s2=.exc 4 s2:=by
 have hT:T zcr=some zbm:=rfl
 have e:=zhS k t hd hm []
 rw [r] at e
 have hnl:=zaa _ _ _ t
 rw [zaf hT rfl rfl (by simp only [noLocs,hnl,Bool.and_self])]
 simp! [zbm,e]
 rfl
theorem zpw (k:Nat){x:PV}{d m:Nat}(t:tam d m x=true)(hd:d<=60)(hm:m<=1000)(r:yae x=false):yd T (k+8) zbl [.loc M,x] st=.exc 4 st:=by
 have hT:T zbl=some zbk:=rfl
 have e1:=zhe k t hd hm r st
 rw [zJ hT rfl rfl]
 simp! [zbk,e1]
 rfl
theorem zm2 (k:Nat)(h:MS st M L n D mk){q:Int}(q0:0<=q)(q1:q<2):yd T (k+8) zbl [.loc M,.tp false [.str "mark",.int q]] st=.ok .non (st.set M (mob n L q)):=by
 have hT:T zbl=some zbk:=rfl
 have hT2:T zc8=some zbf:=rfl
 obtain ⟨r,t⟩:=zhu (xs:=[]) (.mark q0 q1) (by simp)
 have e1:=zgt k t (by omega) (by omega) r st
 have ih:=h.ins (Str.ofString "go_row")
 have em:cmpV .eq (.str "mark") (.str "mark")=some (.bl true):=by with_unfolding_all rfl
 have e2:yd T (k+7) zc8 [.loc M,.tp false [.str "mark",.int q]] st=.ok .non (st.set M (mob n L q)):=by
  rw [zJ hT2 rfl rfl]
  simp! [zbf,ix0,ix1,em,zoA,(h.sm q).1,zcY]
  rfl
 rw [zJ hT rfl rfl]
 simp! [zbk,e1,ih,e2,ev.eq_37]
 rfl
noncomputable def ycR:Css:=match yC.body with
 | .cons (.for _ _ b) _=>b
 |_=>.nil
theorem ziI (k:Nat){d m:Nat}(hd:d<=60)(hm:m<=1000){p0 p1:Option PV}:∀(ys:List PV) (p2:Option PV),(∀y∈ys,tam d m y=true)->(∃y∈ys,yae y=false)->∃ρ,ybw (yd T (k+7)) (.n 2) ycR ys [p0,p1,p2] st=.exc 4 ρ st
 | [],p2,h1,h2=>by
  obtain ⟨y,hy,_⟩:=h2
  cases hy
 |y::ys,p2,h1,h2=>by
  cases r:yae y with
  |false =>
   have e:=zhe k (h1 y (by simp)) hd hm r st
   refine ⟨[p0,p1,some y],?_⟩
   have hb:exs (yd T (k+7)) [p0,p1,some y] st ycR=.exc 4 [p0,p1,some y] st:=by
    simp! [ycR,yC,e]
   rw [zbt (ρ1:=[p0,p1,some y]) rfl,hb]
   rfl
  |true =>
   have e:=zgt k (h1 y (by simp)) hd hm r st
   obtain ⟨z,hz,rz⟩:=h2
   have hz':z∈ys:=by
    rcases List.mem_cons.1 hz with rfl|hz
    ·rw [r] at rz;cases rz
    ·exact hz
   obtain ⟨ρ,e2⟩:=ziI k hd hm (p0:=p0) (p1:=p1) ys (some y) (fun x hx=>h1 x (List.mem_cons_of_mem _ hx)) ⟨z,hz',rz⟩
   refine ⟨ρ,?_⟩
   have hb:exs (yd T (k+7)) [p0,p1,some y] st ycR=.nx [p0,p1,some y] st:=by
    simp! [ycR,yC,e]
   rw [zbt (ρ1:=[p0,p1,some y]) rfl,hb]
   exact e2
def seqs (ys:List PV)(x:PV):Prop:=(∃b,x=.tp b ys) \/ x=.lst ys
theorem zmW (k:Nat){d m:Nat}(hd:d<=60)(hm:m<=1000){ys:List PV}{x:PV}(hx:seqs ys x)(h1:∀y∈ys,tam d m y=true)(h2:∃y∈ys,yae y=false):yd T (k+8) zcQ [.loc M,x] st=.exc 4 st:=by
 have hT:T zcQ=some ⟨2,3,false,yC.body⟩:=rfl
 obtain ⟨ρ,e⟩:=ziI k hd hm (st:=st) (p0:=some (.loc M)) (p1:=some x) ys none h1 h2
 have hb:yC.body=(match yC.body with
  | .cons (.for t i _) r=>.cons (.for t i ycR) r
  |_=>.nil):=rfl
 rw [zJ hT rfl rfl]
 dsimp only
 rw [hb]
 rcases hx with ⟨b,rfl⟩|rfl
 ·simp! [yC,e]
  rfl
 ·simp! [yC,e]
  rfl
end
theorem zkp {ns:List Int}(hns:ns.length<=1000)(k:Nat){W:Int}(hW:2<=W)(hW2:W<=65536){st:Store}(h:Drw ns 0 st):∃v st',0<=v/\v<W/\Onl ns 0 st st'/\yd T (k+4) zdt [.loc 0,.int W] st=.ok (.int v) st':=by
 have hT:T zdt=some zcq:=rfl
 obtain ⟨a,s1,a0,a1,o1,e1⟩:=yah k hns (m:=W) (by omega) (by omega) h
 obtain ⟨w,s2,w0,w1,o2,e2⟩:=yah k hns (m:=6) (by omega) (by omega) (o1.drw h)
 obtain ⟨x,hx,hi⟩:=ze1 (k:=false) (xs:=[.int 0,.int 1,.int (W - 1),.int (W / 2),.int a,.int a]) w0 (show w<((6:Nat):Int) from w1)
 obtain ⟨v,v0,v1,rfl⟩:∃v,0<=v/\v<W/\x=.int v:=by
  simp only [List.mem_cons,List.not_mem_nil,or_false] at hx
  rcases hx with rfl|rfl|rfl|rfl|rfl|rfl
  ·exact ⟨0,by omega,by omega,rfl⟩
  ·exact ⟨1,by omega,by omega,rfl⟩
  ·exact ⟨W - 1,by omega,by omega,rfl⟩
  ·exact ⟨W / 2,by omega,by omega,rfl⟩
  ·exact ⟨a,by omega,by omega,rfl⟩
  ·exact ⟨a,by omega,by omega,rfl⟩
 refine ⟨v,s2,v0,v1,o1.trans o2,?_⟩
 rw [zJ hT rfl rfl]
 simp! [zcq,zaT,e1,e2,hi]
theorem yeE {v:PV}:ycb sw v []=[(sw,v)]:=rfl
theorem yei {a v:PV}:ycb sws v [(sw,a)]=[(sw,a),(sws,v)]:=by with_unfolding_all rfl
theorem yen {a b v:PV}:ycb smk v [(sw,a),(sws,b)]=[(sw,a),(sws,b),(smk,v)]:=by with_unfolding_all rfl
theorem yd2 (k:Nat)(w:Int)(st:Store):yd T (k+1) zbn [.loc st.length,.int w] (st++[.ins 20 []])=.ok .non (st++[mob w (st.length+1) 0]++[.dct true []]):=by
 have hT:T zbn=some za1:=rfl
 have g0:(st++[Ob.ins 20 []])[st.length]?=some (.ins 20 []):=by simp
 have s1:ybx 20 (st++[Ob.ins 20 []]) (.loc st.length) sw (.int w)=some (st++[.ins 20 [(sw,.int w)]]):=by
  simp only [ybx,g0]
  rw [if_pos ⟨trivial,by simp⟩,yeE]
  simp
 have g1:(st++[Ob.ins 20 [(sw,.int w)]]++[Ob.dct true []])[st.length]?=some (.ins 20 [(sw,.int w)]):=by simp
 have s2:ybx 20 (st++[Ob.ins 20 [(sw,.int w)]]++[Ob.dct true []]) (.loc st.length) sws (.loc (st.length+1))=some (st++[.ins 20 [(sw,.int w),(sws,.loc (st.length+1))]]++[.dct true []]):=by
  simp only [ybx,g1]
  rw [if_pos ⟨trivial,by simp⟩,yei]
  simp
 have g2:(st++[Ob.ins 20 [(sw,.int w),(sws,.loc (st.length+1))]]++[Ob.dct true []])[st.length]?=some (.ins 20 [(sw,.int w),(sws,.loc (st.length+1))]):=by simp
 have s3:ybx 20 (st++[Ob.ins 20 [(sw,.int w),(sws,.loc (st.length+1))]]++[Ob.dct true []]) (.loc st.length) smk (.int 0)=some (st++[mob w (st.length+1) 0]++[.dct true []]):=by
  simp only [ybx,g2]
  rw [if_pos ⟨trivial,by simp⟩,yen]
  simp [mob]
 have hd:∀(ρ:IC.Env),ev (yd T k) ρ (st++[Ob.ins 20 [(sw,.int w)]]) (.dict0 true)=.ok (.loc (st.length+1)) (st++[Ob.ins 20 [(sw,.int w)]]++[.dct true []]):=fun ρ=>by
  simp only [ev,List.length_append,List.length_singleton]
 rw [zJ hT rfl rfl]
 simp only [za1,xs_cons,zoA,hd]
 have hlen:(st++[Ob.ins 20 [(sw,.int w)]]).length=st.length+1:=by simp
 simp! [s1,zcY,hlen,s2,s3]
 rfl
noncomputable def kds (c:Nat):List PV:=[.bl (c == 4),.bl (c == 2),.bl (c == 3),.bl false]
noncomputable def knm (c:Nat):Str:=if c=4 then Str.ofString "row" else if c=2 then Str.ofString "cell" else Str.ofString "word"
theorem kind (k:Nat){c:Nat}(hc:c=2 \/ c=3 \/ c=4)(st:Store):yd T (k+1) zk8 [.exn c] st=.ok (.str (knm c)) (st++[.lst (kds c)]):=by
 have hT:T zk8=some zdZ:=rfl
 have hin:[2,3,4].contains c=true:=by rcases hc with rfl|rfl|rfl <;> rfl
 have h1:yb5 [2,3,4] (.exn c) [.cls 4]=some (.bl (c == 4)):=by rcases hc with rfl|rfl|rfl <;> rfl
 have h2:yb5 [2,3,4] (.exn c) [.cls 2]=some (.bl (c == 2)):=by rcases hc with rfl|rfl|rfl <;> rfl
 have h3:yb5 [2,3,4] (.exn c) [.cls 3]=some (.bl (c == 3)):=by rcases hc with rfl|rfl|rfl <;> rfl
 have h4:yb5 [2,3,4] (.exn c) [.cls 0,.cls 5,.cls 1,.cls 6,.cls 7,.cls 8]=some (.bl false):=by rcases hc with rfl|rfl|rfl <;> rfl
 have h5:yb5 [2,3,4] (.exn c) [.cls 9,.cls 10,.cls 11,.cls 12,.cls 13]=some (.bl false):=by rcases hc with rfl|rfl|rfl <;> rfl
 have h6:yb5 [2,3,4] (.exn c) [.val]=some (.bl true):=by rcases hc with rfl|rfl|rfl <;> rfl
 have q0:(st++[Ob.lst [.bl (c == 4),.bl (c == 2),.bl (c == 3)]])[st.length]?=some (.lst [.bl (c == 4),.bl (c == 2),.bl (c == 3)]):=by simp
 obtain ⟨a1,a2⟩:=zkr (v:=.bl false) q0 (by simp)
 have s1:(st++[Ob.lst [.bl (c == 4),.bl (c == 2),.bl (c == 3)]]).set st.length (.lst ([.bl (c == 4),.bl (c == 2),.bl (c == 3)]++[.bl false]))=st++[.lst (kds c)]:=by simp [kds]
 rw [s1] at a2
 have q1:(st++[Ob.lst (kds c)])[st.length]?=some (.lst (kds c)):=by simp
 have m1:yV .count (st++[Ob.lst (kds c)]) (.loc st.length)=some true:=by simp [yV,yG,q1]
 have m2:yV .index (st++[Ob.lst (kds c)]) (.loc st.length)=some true:=by simp [yV,yG,q1]
 have m3:yaI .count (st++[Ob.lst (kds c)]) (.loc st.length) [.bl true]=.ok (.int 1) (st++[.lst (kds c)]):=by
  simp only [yaI,yew,yG,q1]
  rcases hc with rfl|rfl|rfl <;> rfl
 have h0:((1:Int) == 1)=true:=rfl
 rcases hc with rfl|rfl|rfl
 ·have m4:yaI .index (st++[Ob.lst (kds 2)]) (.loc st.length) [.bl true]=.ok (.int 1) (st++[.lst (kds 2)]):=by
   simp only [yaI,yda,yG,q1]
   rfl
  rw [zJ hT rfl rfl]
  simp! [zdZ,zaT,Nat.zero_le,h1,h2,h3,h4,a1,a2,h5,m1,m3,h0,h6,m2,m4,ix1]
  rfl
 ·have m4:yaI .index (st++[Ob.lst (kds 3)]) (.loc st.length) [.bl true]=.ok (.int 2) (st++[.lst (kds 3)]):=by
   simp only [yaI,yda,yG,q1]
   rfl
  rw [zJ hT rfl rfl]
  simp! [zdZ,zaT,Nat.zero_le,h1,h2,h3,h4,a1,a2,h5,m1,m3,h0,h6,m2,m4,ix2]
  rfl
 ·have m4:yaI .index (st++[Ob.lst (kds 4)]) (.loc st.length) [.bl true]=.ok (.int 0) (st++[.lst (kds 4)]):=by
   simp only [yaI,yda,yG,q1]
   rfl
  rw [zJ hT rfl rfl]
  simp! [zdZ,zaT,Nat.zero_le,h1,h2,h3,h4,a1,a2,h5,m1,m3,h0,h6,m2,m4,ix0]
  rfl
theorem zmP {cs:List Nat}{i:Nat}{ρ:IC.Env}{st:Store}{k:IC.Env->Store->Nat->Fl}:ydT cs i (.nx ρ st) k=.nx ρ st:=rfl
theorem zgT {cs:List Nat}{i c:Nat}{ρ:IC.Env}{st:Store}{k:IC.Env->Store->Nat->Fl}(h:cs.contains c=true):ydT cs i (.exc c ρ st) k=yd0 i (k ρ st c):=by simp only [ydT,h,if_true]
theorem ziW {i:Nat}{ρ:IC.Env}{st:Store}:yd0 i (.nx ρ st)=.nx (ρ.set i none) st:=rfl
theorem zi7 {v:PV}{st:Store}:ybI (.ok v st)=.ok v st:=rfl
theorem z10:((1:Int) == 0)=false:=rfl
theorem z20:((2:Int) == 0)=false:=rfl
theorem z30:((3:Int) == 0)=false:=rfl
theorem z21:((2:Int) == 1)=false:=rfl
theorem z31:((3:Int) == 1)=false:=rfl
theorem z32:((3:Int) == 2)=false:=rfl
theorem z23:((2:Int) == 3)=false:=rfl
noncomputable abbrev ybg:Str:=Str.ofString "told"
section
variable {st st':Store}{M L n:Nat}{D:List (PV×PV)}{mk:Int}{x u v:PV}{c:Nat}
theorem yee (k:Nat)(hc:c=2 \/ c=3 \/ c=4)(h:MS st M L n D mk)(e:yd T (k+1) zbl [.loc M,x] st=.exc c st):yd T (k+2) zam [.loc M,.int 0,x] st=.ok (.str (knm c)) (st++[.lst (kds c)]):=by
 have hT:T zam=some za3:=rfl
 have hin:[2,3,4].contains c=true:=by rcases hc with rfl|rfl|rfl <;> rfl
 have ih:=h.ins (Str.ofString "do")
 have ek:=kind k hc st
 rw [zJ hT rfl rfl]
 simp! [za3,zaT,beq_self_eq_true,ih,e,ev.eq_37,ev.eq_35,zgT hin,ek,zi7,ziW]
theorem ydr (k:Nat)(hc:c=2 \/ c=3 \/ c=4)(h:MS st M L n D mk)(e:yd T (k+1) zcQ [.loc M,x] st=.exc c st):yd T (k+2) zam [.loc M,.int 1,x] st=.ok (.str (knm c)) (st++[.lst (kds c)]):=by
 have hT:T zam=some za3:=rfl
 have hin:[2,3,4].contains c=true:=by rcases hc with rfl|rfl|rfl <;> rfl
 have ih:=h.ins (Str.ofString "run")
 have ek:=kind k hc st
 rw [zJ hT rfl rfl]
 simp! [za3,zaT,beq_self_eq_true,z10,ih,e,ev.eq_37,ev.eq_35,zgT hin,ek,zi7,ziW]
theorem ydv (k:Nat)(hc:c=2 \/ c=3 \/ c=4)(h:MS st M L n D mk)(e:yd T (k+1) zat [.loc M,u,v,x] st=.exc c st):yd T (k+2) zam [.loc M,.int 2,.tp false [u,v,x]] st=.ok (.str (knm c)) (st++[.lst (kds c)]):=by
 have hT:T zam=some za3:=rfl
 have hin:[2,3,4].contains c=true:=by rcases hc with rfl|rfl|rfl <;> rfl
 have ih:=h.ins (Str.ofString "put")
 have ek:=kind k hc st
 rw [zJ hT rfl rfl]
 simp! [za3,zaT,beq_self_eq_true,z20,z21,ix0,ix1,ix2,ih,e,ev.eq_37,ev.eq_35,zgT hin,ek,zi7,ziW]
theorem yex (k:Nat)(hc:c=2 \/ c=3 \/ c=4)(h:MS st M L n D mk)(e:yd T (k+1) zau [.loc M,u,v] st=.exc c st):yd T (k+2) zam [.loc M,.int 3,.tp false [u,v]] st=.ok (.str (knm c)) (st++[.lst (kds c)]):=by
 have hT:T zam=some za3:=rfl
 have hin:[2,3,4].contains c=true:=by rcases hc with rfl|rfl|rfl <;> rfl
 have ih:=h.ins (Str.ofString "word")
 have ek:=kind k hc st
 rw [zJ hT rfl rfl]
 simp! [za3,zaT,beq_self_eq_true,z30,z31,z32,ix0,ix1,ih,e,ev.eq_37,ev.eq_35,zgT hin,ek,zi7,ziW]
theorem yey (k:Nat)(h:MS st M L n D mk){r:PV}(e:yd T (k+1) zat [.loc M,u,v,x] st=.ok r st'):yd T (k+2) zam [.loc M,.int 2,.tp false [u,v,x]] st=.ok (.str ybg) st':=by
 have hT:T zam=some za3:=rfl
 have ih:=h.ins (Str.ofString "put")
 rw [zJ hT rfl rfl]
 simp! [za3,zaT,beq_self_eq_true,z20,z21,z23,ix0,ix1,ix2,ih,e,ev.eq_37,zmP]
theorem ydu (k:Nat)(h:MS st M L n D mk){r:PV}(e:yd T (k+1) zau [.loc M,u,v] st=.ok r st'):yd T (k+2) zam [.loc M,.int 3,.tp false [u,v]] st=.ok (.str ybg) st':=by
 have hT:T zam=some za3:=rfl
 have ih:=h.ins (Str.ofString "word")
 rw [zJ hT rfl rfl]
 simp! [za3,zaT,beq_self_eq_true,z30,z31,z32,ix0,ix1,ih,e,ev.eq_37,zmP]
end
structure AS (ns:List Int)(st:Store)(M L Q n:Nat)(D:List (PV×PV))(mk:Int):Prop where
 dr:Drw ns 0 st
 ms:MS st M L n D mk
 q:st[Q]?=some (.dct true D)
 m0:M≠0
 l0:L≠0
 q0:Q≠0
 qm:Q≠M
 ql:Q≠L
theorem znJ {st:Store}{m:Nat}{o:Ob}(h:st[m]?=some o):m<st.length:=(List.getElem?_eq_some_iff.1 h).1
section
variable {ns:List Int}{st st':Store}{M L Q n:Nat}{D:List (PV×PV)}{mk:Int}
theorem AS.frm (h:AS ns st M L Q n D mk)(o:Frm ns st st'):AS ns st' M L Q n D mk :=
 ⟨o.dr,⟨by rw [o.get M h.m0 (znJ h.ms.m)];exact h.ms.m,by rw [o.get L h.l0 (znJ h.ms.d)];exact h.ms.d,h.ms.ne⟩,by rw [o.get Q h.q0 (znJ h.q)];exact h.q,h.m0,h.l0,h.q0,h.qm,h.ql⟩
theorem AS.onl (h:AS ns st M L Q n D mk)(o:Onl ns 0 st st'):AS ns st' M L Q n D mk:=h.frm (o.frm (.refl h.dr))
theorem AS.app (h:AS ns st M L Q n D mk)(x:Ob):AS ns (st++[x]) M L Q n D mk:=h.frm ((Frm.refl h.dr).app x)
noncomputable def stE:Ce:=match yW.body with
 | .cons _ (.cons (.ret (.blt _ (.cons (.comp _ _ _ _ e) _))) _)=>e
 |_=>.nope
theorem stays (k:Nat){xs:List PV}(hx:∀x∈xs,yaB x)(hl:xs.length<=30)(A:AS ns st M L Q n D mk)(H:Dk xs (2 ^ n) D)(hh:∀c∈xs,Has D c):yd T (k+6) zdE [.loc M,.lst xs,.loc Q,.int mk] st=.ok (.bl true) st:=by
 have hT:T zdE=some ⟨4,4,false,yW.body⟩:=rfl
 have e1:yd T (k+5) zcy [.loc M] st=.ok (.int mk) st:=yeB (k+4) A.ms
 have i1:=A.ms.ins (Str.ofString "mark")
 have i2:=A.ms.ins (Str.ofString "word")
 have one:∀y∈xs,ycc (yd T (k+5)) [none,some (.loc Q),some (.loc M)] (.n 0) (.cst (.bl true)) stE y st=.ok (some (.bl true)) st:=fun y hy=>by
  have hC:=hx y hy
  have g2:ycW st (.loc Q) y=some (.int (gv D y)):=by
   simp only [ycW,yar,A.q]
   rw [if_pos (zgy hC),zpe H (hh y hy)]
  obtain ⟨c,a,c0,c1,a0,a1,rfl⟩:=hC
  have e0:=word k A.ms H (hx _ hy)
  simp! [ycc,stE,yW,i2,ix0,ix1,e0,g2,beq_self_eq_true,ev.eq_37,ev.eq_34]
 have e2:=zfF xs one
 have e3:yaf .all st [.lst (xs.map fun _=>.bl true)]=some (.bl true):=by
  rw [zj7 (fun _=>true) xs st]
  congr 2
  exact List.all_eq_true.2 fun _ _=>rfl
 have e4:=zg1 (xs.map fun _=>PV.bl true) (by rw [List.length_map];omega) st
 have hb:yW.body=(match yW.body with
  | .cons a (.cons (.ret (.blt b (.cons (.comp s t i c _) r))) r2)=>.cons a (.cons (.ret (.blt b (.cons (.comp s t i c stE) r))) r2)
  |_=>.nil):=rfl
 rw [zJ hT rfl rfl]
 dsimp only
 rw [hb]
 simp! [yW,zaT,i1,e1,beq_self_eq_true,ev.eq_37,e2,e4,e3]
end
noncomputable def due (u v x:PV)(W:Int):Str:=if yag (.tp false [u,v])=true then (if wh 0 (W - 1) x=true then ybg else Str.ofString "word") else Str.ofString "cell"
theorem znj (k:Nat){d m:Nat}{u v x:PV}(t:tam d m (.tp false [u,v])=true)(hm:m<=1000){d' m':Nat}(tx:tam d' m' x=true)(W:Int)(st:Store):yd T (k+3) zeY [u,v,x,.int W] st=.ok (.str (due u v x W)) st:=by
 have hT:T zeY=some zbj:=rfl
 have hn:=zaa _ _ _ t
 have hn2:=zaa _ _ _ tx
 have hn1:noLoc u=true/\noLoc v=true:=by simpa only [noLoc,noLocs,Bool.and_true,Bool.and_eq_true] using hn
 have e1:=zcU k t hm []
 have e2:yd T (k+2) zfg [x] []=_:=zck (k+1) tx []
 have ho:∀(s:Str) s2,ycD st (.rt (.str s) s2)=.ok (.str s) st:=fun s s2=>rfl
 rw [zaf hT rfl rfl (by simp only [noLocs,noLoc,hn1.1,hn1.2,hn2,Bool.and_self])]
 unfold due
 cases hc:yag (.tp false [u,v]) with
 |false =>
  rw [hc] at e1
  simp! [zbj,Nat.zero_le,e1,ho]
  rfl
 |true =>
  rw [hc] at e1
  cases x with
  |int i =>
   have e2:yd T (k+2) zfg [.int i] []=.ok (.bl true) []:=e2
   have b1:∀b:Bool,blO (some (.bl b))=some b:=fun _=>rfl
   have hw:wh 0 (W - 1) (.int i)=(decide (0<=i) && decide (i<W)):=by
    simp only [wh]
    congr 1
    exact decide_eq_decide.2 (by omega)
   rw [hw]
   cases h1:decide (0<=i) with
   |false =>
    simp! [zbj,Nat.zero_le,e1,e2,h1,b1,ho]
    rfl
   |true =>
    cases h2:decide (i<W) with
    |false =>
     simp! [zbj,Nat.zero_le,e1,e2,h1,b1,h2,ho]
     rfl
    |true =>
     simp! [zbj,Nat.zero_le,e1,e2,h1,b1,h2,ho]
  |loc _=>simp [tam] at tx
  |exn _=>simp [tam] at tx
  |scr _=>simp [tam] at tx
  |_ =>
   simp only [isI] at e2
   simp! [zbj,Nat.zero_le,e1,e2,ho,wh]
   rfl
theorem zhF {ns:List Int}(hns:ns.length<=1000)(k:Nat){B st:Store}(h:Frm ns B st){xs:List PV}(hx:∀x∈xs,yaB x)(hx2:two xs)(l1:2<=xs.length)(l2:xs.length<=30) :
  ∃s ps st',Rww xs s ps/\Frm ns B st'/\yd T (k+4) zb6 [.loc 0,.lst xs] st=.ok (.tp false (.str s::ps)) st':=by
 obtain ⟨s,ps,s3,zs,hR,o3,e3⟩:=zmr hns k h.dr hx hx2 l1 l2
 exact ⟨s,ps,_,hR,(o3.frm h).app _,e3⟩
theorem bad {ns:List Int}(hns:ns.length<=1000)(k:Nat){B st:Store}(h:Frm ns B st){xs:List PV}(hx:∀x∈xs,yaB x)(hx2:two xs)(l1:2<=xs.length)(l2:xs.length<=30) :
  ∃v st',tam 6 50 v=true/\Frm ns B st'/\yd T (k+8) zj2 [.loc 0,.lst xs] st=.ok v st':=by
 have hT:T zj2=some zgo:=rfl
 obtain ⟨w,s1,w0,w1,o1,e1⟩:=yaO (k+4) hns (m:=6) (by omega) (by omega) h
 have g1:=o1.frm h
 obtain ⟨s,ps,s2,hR,g2,e2⟩:=zhF hns (k+3) g1 hx hx2 l1 l2
 have e1:yd T (k+7) zaj [.loc 0,.int 6] st=_:=e1
 have e2:yd T (k+7) zb6 [.loc 0,.lst xs] s1=_:=e2
 by_cases k0:w=0
 ·have hb:(w == 0)=true:=by simp [k0]
  have hli:yaf .list s2 [.tp false (.str s::ps)]=some (.lst (.str s::ps)):=rfl
  refine ⟨.lst (.str s::ps),s2,zcI (by omega) (by omega) _ (zn5.2 (zcn.1 (zhu hR hx).2)),g2,?_⟩
  rw [zJ hT rfl rfl]
  simp! [zgo,zaT,e1,e2,hb,hli]
 have hb0:(w == 0)=false:=beq_eq_false_iff_ne.2 k0
 by_cases k1:w=1
 ·have hb:(w == 1)=true:=by simp [k1]
  obtain ⟨v,s3,t3,g3,e3⟩:=strange hns (k+2) g2
  have e3:yd T (k+7) zcM [.loc 0] s2=_:=e3
  refine ⟨v,s3,zcI (by omega) (by omega) _ t3,g3,?_⟩
  rw [zJ hT rfl rfl]
  simp! [zgo,zaT,e1,e2,hb0,hb,e3]
 ·have hb:(w == 1)=false:=beq_eq_false_iff_ne.2 k1
  obtain ⟨v,s3,t3,g3,e3⟩:=zjH hns k (zn9 hR hx) g2
  refine ⟨v,s3,t3,g3,?_⟩
  rw [zJ hT rfl rfl]
  simp! [zgo,zaT,e1,e2,hb0,hb,e3]
noncomputable def lB1:Css:=match yN.body with
 | .cons _ (.cons _ (.cons _ (.cons _ (.cons _ (.cons _ (.cons (.for _ _ b) _))))))=>b
 |_=>.nil
noncomputable def tA:Css:=match yN.body with
 | .cons _ (.cons _ (.cons _ (.cons _ (.cons _ (.cons _ (.cons _ (r)))))))=>r
 |_=>.nil
noncomputable def tB:Css:=match yN.body with
 | .cons _ (.cons _ (.cons _ (.cons _ (.cons _ (.cons _ (.cons _ (.cons _ (.cons _ (.cons _ (.cons _ (.cons _ (r))))))))))))=>r
 |_=>.nil
noncomputable def tC:Css:=match yN.body with
 | .cons _ (.cons _ (.cons _ (.cons _ (.cons _ (.cons _ (.cons _ (.cons _ (.cons _ (.cons _ (.cons _ (.cons _ (.cons _ (r)))))))))))))=>r
 |_=>.nil
noncomputable def tD:Css:=match yN.body with
 | .cons _ (.cons _ (.cons _ (.cons _ (.cons _ (.cons _ (.cons _ (.cons _ (.cons _ (.cons _ (.cons _ (.cons _ (.cons _ (.cons _ (.cons _ (.cons _ (.cons _ (r)))))))))))))))))=>r
 |_=>.nil
noncomputable def tE1:Css:=match yN.body with
 | .cons _ (.cons _ (.cons _ (.cons _ (.cons _ (.cons _ (.cons _ (.cons _ (.cons _ (.cons _ (.cons _ (.cons _ (.cons (.ite _ b _) _))))))))))))=>b
 |_=>.nil
noncomputable def lB2:Css:=match tE1 with
 | .cons _ (.cons (.for _ _ b) _)=>b
 |_=>.nil
noncomputable def riE:Ce:=match yN.body with
 | .cons _ (.cons _ (.cons _ (.cons _ (.cons _ (.cons _ (.cons _ (.cons _ (.cons _ (.cons _ (.cons (.asg _ (.comp _ _ _ _ e)) _))))))))))=>e
 |_=>.nope
theorem eA:yN.body=(match yN.body with
 | .cons a0 (.cons a1 (.cons a2 (.cons a3 (.cons a4 (.cons a5 (.cons (.for t i _) _))))))=>.cons a0 (.cons a1 (.cons a2 (.cons a3 (.cons a4 (.cons a5 (.cons (.for t i lB1) tA))))))
 |x=>x):=rfl
theorem eB:tA=(match yN.body with
 | .cons _ (.cons _ (.cons _ (.cons _ (.cons _ (.cons _ (.cons _ (.cons a1 (.cons a2 (.cons a3 (.cons (.asg t (.comp s g i c _)) (.cons a5 _)))))))))))=>.cons a1 (.cons a2 (.cons a3 (.cons (.asg t (.comp s g i c riE)) (.cons a5 tB))))
 |x=>x):=rfl
theorem eC:tB=(match yN.body with
 | .cons _ (.cons _ (.cons _ (.cons _ (.cons _ (.cons _ (.cons _ (.cons _ (.cons _ (.cons _ (.cons _ (.cons _ (.cons (.ite c _ d) _))))))))))))=>.cons (.ite c tE1 d) tC
 |x=>x):=rfl
theorem eE:tE1=(match tE1 with
 | .cons a (.cons (.for t i _) r)=>.cons a (.cons (.for t i lB2) r)
 |x=>x):=rfl
theorem eD:tC=(match yN.body with
 | .cons _ (.cons _ (.cons _ (.cons _ (.cons _ (.cons _ (.cons _ (.cons _ (.cons _ (.cons _ (.cons _ (.cons _ (.cons _ (.cons a1 (.cons a2 (.cons a3 (.cons a4 _))))))))))))))))=>.cons a1 (.cons a2 (.cons a3 (.cons a4 tD)))
 |x=>x):=rfl
theorem yfJ {n:Nat}(hn4:4<=n):(2:Int)<=2 ^ n:=by
 obtain ⟨n',rfl⟩:∃n',n=n'+1:=⟨n - 1,by omega⟩
 have:=yeS n'
 rw [Int.pow_succ]
 omega
section
variable {ns:List Int}(hns:ns.length<=1000){xs:List PV}(hx:∀x∈xs,yaB x)(hx2:two xs){M L Q n:Nat}(hn:n<=16)(hn4:4<=n)
include hns hx hn hn4 in
theorem ydw {p0 p2:Option PV}{r:List (Option PV)}:∀(ys done:List PV) (D:List (PV×PV)) (st:Store) (p7:Option PV),xs=done++ys->Dk xs (2 ^ n) D->(∀c∈done,Has D c)->D.length<=done.length->xs.length<=30->AS ns st M L Q n D 0 ->
  ∃D' st' q7,Dk xs (2 ^ n) D'/\(∀c∈xs,Has D' c)/\D'.length<=xs.length/\AS ns st' M L Q n D' 0 /\
   ybw (yd T 11) (.n 7) lB1 ys (p0::some (.loc 0)::p2::some (.int (2 ^ n))::some (.lst xs)::some (.loc M)::some (.loc Q)::p7::r) st=.nx (p0::some (.loc 0)::p2::some (.int (2 ^ n))::some (.lst xs)::some (.loc M)::some (.loc Q)::q7::r) st'
 | [],done,D,st,p7,hs,H,hh,hl,hl2,A=>by
  rw [List.append_nil] at hs
  subst hs
  exact ⟨D,st,p7,H,hh,hl,A,by rw [zdM]⟩
 |y::ys,done,D,st,p7,hs,H,hh,hl,hl2,A=>by
  have hy:y∈xs:=by rw [hs];simp
  have hlen:done.length+1<=xs.length:=by rw [hs];simp
  have hC:=hx y hy
  obtain ⟨v,s1,v0,v1,o1,e1⟩:=zkp hns 7 (yfJ hn4) (yd7 hn) A.dr
  have A1:=A.onl o1
  have d1:=zpc A1.q hx (by omega) hy v
  have cc:=znB hC
  obtain ⟨s2,hs2⟩:∃s2,s2=s1.set Q (.dct true (put y (.int v) D)):=⟨_,rfl⟩
  rw [<- hs2] at d1
  have M2:MS s2 M L n D 0:=⟨by rw [hs2,List.getElem?_set_ne A.qm];exact A1.ms.m,by rw [hs2,List.getElem?_set_ne A.ql];exact A1.ms.d,A.ms.ne⟩
  have Q2:s2[Q]?=some (.dct true (put y (.int v) D)):=by rw [hs2];exact rdS A1.q
  have g2:ycW s2 (.loc Q) y=some (.int v):=by
   simp only [ycW,yar,Q2]
   rw [if_pos (zgy hC),zn2 cc]
  obtain ⟨d3,M3⟩:=M2.sd hC v (by omega)
  obtain ⟨s3,hs3⟩:∃s3,s3=s2.set L (.dct true (put y (.int v) D)):=⟨_,rfl⟩
  rw [<- hs3] at M3
  have A3:AS ns s3 M L Q n (put y (.int v) D) 0:=⟨by rw [hs3,hs2];exact (A1.dr.put A.q0 _).put A.l0 _,M3,by rw [hs3,List.getElem?_set_ne (Ne.symm A.ql)];exact Q2,A.m0,A.l0,A.q0,A.qm,A.ql⟩
  obtain ⟨D',st',q7,r1,r2,r3,r4,r5⟩:=ydw (r:=r) ys (done++[y]) (put y (.int v) D) s3 (some y) (by rw [hs];simp) (H.put hy v0 v1) (fun c hc=>by
    rcases List.mem_append.1 hc with hc|hc
    ·exact znL (hh c hc)
    ·simp only [List.mem_cons,List.not_mem_nil,or_false] at hc
     subst hc
     exact zl3 cc) (by have:=znz (D:=D) (c:=y) (v:=.int v);simp;omega) hl2 A3
  refine ⟨D',st',q7,r1,r2,r3,r4,?_⟩
  obtain ⟨c,a,c0,c1,a0,a1,rfl⟩:=hC
  have e1:yd T 11 zdt [.loc 0,.int (2 ^ n)] st=.ok (.int v) s1:=e1
  have e3:yd T 11 zat [.loc M,.str ⟨#[c]⟩,.int a,.int v] s2=.ok .non s3:=by
   rw [hs3]
   exact yeU 6 hn M2 (by omega) (ze4 (hx _ hy)) (by omega) (zi5 (hx _ hy)) v0 v1
  have i2:=M2.ins (Str.ofString "put")
  have hb:exs (yd T 11) (p0::some (.loc 0)::p2::some (.int (2 ^ n))::some (.lst xs)::some (.loc M)::some (.loc Q)::some (.tp false [.str ⟨#[c]⟩,.int a])::r) st lB1=.nx (p0::some (.loc 0)::p2::some (.int (2 ^ n))::some (.lst xs)::some (.loc M)::some (.loc Q)::some (.tp false [.str ⟨#[c]⟩,.int a])::r) s3:=by
   simp! [lB1,yN,ix0,ix1,e1,zko,d1,zcY,i2,g2,e3,ev.eq_37,ev.eq_34]
  rw [zbt (ρ1:=p0::some (.loc 0)::p2::some (.int (2 ^ n))::some (.lst xs)::some (.loc M)::some (.loc Q)::some (.tp false [.str ⟨#[c]⟩,.int a])::r) rfl,hb]
  exact r5
def rgt (x:PV):Prop:=∃s ps,x=.tp false (.str s::ps)/\yae x=true/\tam 4 10 x=true
include hns hx hx2 in
theorem rights (l1:2<=xs.length)(l2:xs.length<=30){B:Store}:∀(N:Nat) (a:Int) (st:Store),Frm ns B st->∃rs st',rs.length=N/\(∀x∈rs,rgt x)/\Frm ns B st' /\
  yaW (yd T 11) [none,some (.loc 0),some (.lst xs)] (.n 0) (.cst (.bl true)) riE (yD N a 1) st=.ok rs st'
 |0,a,st,h=>⟨[],st,rfl,by simp,h,by rw [yD,zfz]⟩
 |N+1,a,st,h=>by
  obtain ⟨s,ps,s1,hR,g1,e1⟩:=zhF hns 7 h hx hx2 l1 l2
  have e1:yd T 11 zb6 [.loc 0,.lst xs] st=_:=e1
  obtain ⟨rs,s2,l,t,g2,e2⟩:=rights l1 l2 N (a+1) s1 g1
  refine ⟨.tp false (.str s::ps)::rs,s2,by simp [l],fun y hy=>?_,g2,?_⟩
  ·rcases List.mem_cons.1 hy with rfl|hy
   ·exact ⟨s,ps,rfl,(zhu hR hx).1,(zhu hR hx).2⟩
   ·exact t y hy
  ·have one:ycc (yd T 11) [none,some (.loc 0),some (.lst xs)] (.n 0) (.cst (.bl true)) riE (.int a) st=.ok (some (.tp false (.str s::ps))) s1:=by
    simp! [ycc,riE,yN,e1]
   rw [yD,zeK,one,bd_ok,e2,bd_ok]
   rfl
end
theorem zmI:cmpV .ne (.str (knm 4)) (.str "row")=some (.bl false):=by with_unfolding_all rfl
section
variable {ns:List Int}{xs:List PV}(hx:∀x∈xs,yaB x)(l2:xs.length<=30){M L Q n:Nat}{D:List (PV×PV)}{mk:Int}(H:Dk xs (2 ^ n) D)(hh:∀c∈xs,Has D c)
include hx l2 H hh
theorem turn {v:PV}(tv:tam 6 50 v=true)(rv:yae v=false){rs am:List PV}(hr:∀x∈rs,rgt x)(hm:∀x∈am,tam 6 50 x=true)(hv:v∈am){t:Int}{z:PV}(hz:seqs am z)(hi:∀s,idxV s (.tp false [.lst am,.tp false am]) (.int t)=some z)
  {p0 p1 p2 p3 p7 p11:Option PV} {r:List (Option PV)} {st:Store} (A:AS ns st M L Q n D mk) :
  ∃st',AS ns st' M L Q n D mk/\exs (yd T 11) (p0::p1::p2::p3::some (.lst xs)::some (.loc M)::some (.loc Q)::p7::some (.int mk)::some v::some (.lst rs)::p11::some (.lst am)::some (.int t)::r) st lB2=.nx (p0::p1::p2::p3::some (.lst xs)::some (.loc M)::some (.loc Q)::p7::some (.int mk)::some v::some (.lst rs)::p11::some (.lst am)::some (.int t)::r) st':=by
 have e0:yd T 11 zam [.loc M,.int 0,v] st=_:=yee 9 (.inr (.inr rfl)) A.ms (zpw 2 tv (by omega) (by omega) rv)
 have A1:=A.app (.lst (kds 4))
 obtain ⟨s1,hs1⟩:∃s,s=st++[Ob.lst (kds 4)]:=⟨_,rfl⟩
 rw [<- hs1] at A1 e0
 have e1:yd T 11 zam [.loc M,.int 1,z] s1=_:=ydr 9 (.inr (.inr rfl)) A1.ms (zmW 2 (by omega) (by omega) hz hm ⟨v,hv,rv⟩)
 have A2:=A1.app (.lst (kds 4))
 obtain ⟨s2,hs2⟩:∃s,s=s1++[Ob.lst (kds 4)]:=⟨_,rfl⟩
 rw [<- hs2] at A2 e1
 have htu:∀s,yaf .tuple s [.lst am]=some (.tp false am):=fun s=>rfl
 have hle:∀s,yaf .len s [.lst rs]=some (.int rs.length):=fun s=>rfl
 cases rs with
 |nil =>
  have e3:yd T 11 zdE [.loc M,.lst xs,.loc Q,.int mk] s2=_:=stays 5 hx l2 A2 H hh
  have h0:decide ((0:Int)<(([]:List PV).length:Int))=false:=rfl
  refine ⟨s2,A2,?_⟩
  simp only [List.length_nil] at h0
  simp! [lB2,tE1,yN,e0,zmI,Nat.zero_le,htu,hi,e1,hle,h0,e3]
 |cons a rs =>
  obtain ⟨s,ps,rfl,ra,ta⟩:=hr a (by simp)
  have e2:yd T 11 zam [.loc M,.int 1,.tp false (.str s::ps)] s2=_:=ydr 9 (.inr (.inr rfl)) A2.ms (zmW 2 (d:=3) (m:=10) (by omega) (by omega) (.inl ⟨false,rfl⟩) (zcn.1 ta).2.2 ⟨.str s,by simp,rfl⟩)
  have A3:=A2.app (.lst (kds 4))
  obtain ⟨s3,hs3⟩:∃s,s=s2++[Ob.lst (kds 4)]:=⟨_,rfl⟩
  rw [<- hs3] at A3 e2
  have e3:yd T 11 zdE [.loc M,.lst xs,.loc Q,.int mk] s3=_:=stays 5 hx l2 A3 H hh
  have hl0:∀st,idxV st (.lst (.tp false (.str s::ps)::rs)) (.int 0)=some (.tp false (.str s::ps)):=fun st=>by simp [idxV,idxI,at?,ixI]
  obtain ⟨N,hN⟩:∃N:Int,N=((PV.tp false (.str s::ps)::rs).length:Int):=⟨_,rfl⟩
  have h0:decide ((0:Int)<N)=true:=by rw [hN];simp
  rw [<- hN] at hle
  refine ⟨s3,A3,?_⟩
  simp! [lB2,tE1,yN,e0,zmI,Nat.zero_le,htu,hi,e1,hle,h0,hl0,e2,e3]
theorem ends {u v x:PV}(hn:n<=16)(hl:D.length<900)(t:tam 9 50 (.tp false [u,v])=true)(tx:tam 9 50 x=true){p0 p1 p2 p7 p9 p10 p11 p12 p13 p14:Option PV}{st:Store}(A:AS ns st M L Q n D mk) :
  ∃st',exs (yd T 11) [p0,p1,p2,some (.int (2 ^ n)),some (.lst xs),some (.loc M),some (.loc Q),p7,some (.int mk),p9,p10,p11,p12,p13,p14,some u,some v,some x,some (.str (due u v x (2 ^ n)))] st tD=.rt (.bl true) st':=by
 have ec:∀s,yd T 11 zdG [.tp false [u,v]] s=.ok (.bl (yag (.tp false [u,v]))) s:=fun s=>zcU 9 t (by omega) s
 cases hc:yag (.tp false [u,v]) with
 |false =>
  have hd:due u v x (2 ^ n)=knm 2:=by unfold due;rw [hc];rfl
  rw [hd]
  have e1:yd T 11 zam [.loc M,.int 2,.tp false [u,v,x]] st=_:=ydv 9 (.inl rfl) A.ms (zoh 5 t (by omega) hc x)
  have A1:=A.app (.lst (kds 2))
  have e2:yd T 11 zdE [.loc M,.lst xs,.loc Q,.int mk] (st++[.lst (kds 2)])=_:=stays 5 hx l2 A1 H hh
  have e3:yd T 11 zam [.loc M,.int 3,.tp false [u,v]] (st++[.lst (kds 2)])=_:=yex 9 (.inl rfl) A1.ms (znp 5 A1.ms t (by omega) hc)
  have h1:cmpV .ne (.str (knm 2)) (.str (knm 2))=some (.bl false):=by with_unfolding_all rfl
  have h2:cmpV .ne (.str (knm 2)) (.str "told")=some (.bl true):=by with_unfolding_all rfl
  have h3:cmpV .eq (.str (knm 2)) (.str "cell")=some (.bl true):=by with_unfolding_all rfl
  have h4:∀s,yaf .int s [.bl true]=some (.int 1):=fun s=>rfl
  refine ⟨st++[.lst (kds 2)]++[.lst (kds 2)],?_⟩
  simp! [tD,yN,Nat.zero_le,e1,h1,h2,e2,e3,ec,hc,h4,ix1,h3]
 |true =>
  have h4:∀s,yaf .int s [.bl false]=some (.int 0):=fun s=>rfl
  have h5:cmpV .eq (.str ybg) (.str ybg)=some (.bl true):=by with_unfolding_all rfl
  cases hw:wh 0 (2 ^ n - 1) x with
  |false =>
   have hd:due u v x (2 ^ n)=knm 3:=by unfold due;rw [hc,hw];rfl
   rw [hd]
   have e1:yd T 11 zam [.loc M,.int 2,.tp false [u,v,x]] st=_:=ydv 9 (.inr (.inl rfl)) A.ms (znk 5 hn A.ms t (by omega) hc tx hw)
   have A1:=A.app (.lst (kds 3))
   have e2:yd T 11 zdE [.loc M,.lst xs,.loc Q,.int mk] (st++[.lst (kds 3)])=_:=stays 5 hx l2 A1 H hh
   obtain ⟨rr,er⟩:=ziG 5 A1.ms t (by omega) hc
   have e3:yd T 11 zam [.loc M,.int 3,.tp false [u,v]] (st++[.lst (kds 3)])=_:=ydu 9 A1.ms er
   have h1:cmpV .ne (.str (knm 3)) (.str (knm 3))=some (.bl false):=by with_unfolding_all rfl
   have h2:cmpV .ne (.str (knm 3)) (.str "told")=some (.bl true):=by with_unfolding_all rfl
   refine ⟨st++[.lst (kds 3)],?_⟩
   simp! [tD,yN,Nat.zero_le,e1,h1,h2,e2,e3,ec,hc,h4,ix0,h5]
  |true =>
   have hd:due u v x (2 ^ n)=ybg:=by unfold due;rw [hc,hw];rfl
   rw [hd]
   obtain ⟨i,i0,i1,rfl⟩:=zmO hw
   have e1:yd T 11 zam [.loc M,.int 2,.tp false [u,v,.int i]] st=_:=yey 9 A.ms (yeU 5 hn A.ms hl t (by omega) hc i0 (by omega))
   obtain ⟨d1,M1⟩:=A.ms.sd (zj5 hc) i (by omega)
   obtain ⟨rr,er⟩:=ziG 5 M1 t (by omega) hc
   have e3:yd T 11 zam [.loc M,.int 3,.tp false [u,v]] (st.set L (.dct true (put (.tp false [u,v]) (.int i) D)))=_:=ydu 9 M1 er
   have h1:cmpV .ne (.str ybg) (.str ybg)=some (.bl false):=by with_unfolding_all rfl
   refine ⟨st.set L (.dct true (put (.tp false [u,v]) (.int i) D)),?_⟩
   simp! [tD,yN,Nat.zero_le,e1,h1,e3,ec,hc,h4,ix0,h5]
end
theorem yfM {b:Bool}{u v:PV}{p0 p1 p2 p3 p4 p5 p6 p7 p8 p9 p10 p11 p12 p13 p14 p15 p16 p17 p18:Option PV}:yL (.t [15,16]) (.tp b [u,v]) [p0,p1,p2,p3,p4,p5,p6,p7,p8,p9,p10,p11,p12,p13,p14,p15,p16,p17,p18]=some [p0,p1,p2,p3,p4,p5,p6,p7,p8,p9,p10,p11,p12,p13,p14,some u,some v,p17,p18]:=rfl
theorem yea {call:Cl}{ρ:IC.Env}{st:Store}:ev call ρ st (.neg (.cst (.int 1)))=.ok (.int (-1)) st:=yeF
section
variable {ns:List Int}(hns:ns.length<=1000){xs:List PV}(hx:∀x∈xs,yaB x)(l1:2<=xs.length)(l2:xs.length<=30){M L Q n:Nat}{D:List (PV×PV)}{mk:Int}(H:Dk xs (2 ^ n) D)(hh:∀c∈xs,Has D c)
include hns hx l1 l2 H hh
theorem last (hn:n<=16)(hl:D.length<900){p0 p2 p7 p9 p10 p11 p12 p13:Option PV}{st:Store}(A:AS ns st M L Q n D mk) :
  ∃st',exs (yd T 11) [p0,some (.loc 0),p2,some (.int (2 ^ n)),some (.lst xs),some (.loc M),some (.loc Q),p7,some (.int mk),p9,p10,p11,p12,p13,none,none,none,none,none] st tC=.rt (.bl true) st':=by
 obtain ⟨x0,xr,rfl⟩:∃x0 xr,xs=x0::xr:=by
  match xs,l1 with
  |x0::xr,_=>exact ⟨x0,xr,rfl⟩
 obtain ⟨c,a,c0,c1,a0,a1,rfl⟩:=hx x0 (by simp)
 obtain ⟨sv,s1,t1,g1,e1⟩:=strange hns 6 (Frm.refl A.dr)
 have A1:=A.frm g1
 obtain ⟨w,s2,w0,w1,o2,e2⟩:=yah 8 hns (m:=3) (by omega) (by omega) A1.dr
 have A2:=A1.onl o2
 obtain ⟨sx,s3,t3,g3,e3⟩:=strange hns 6 (Frm.refl A2.dr)
 have A3:=A2.frm g3
 obtain ⟨d,s4,d0,d1,o4,e4⟩:=yah 8 hns (m:=100000000000000000000) (by omega) (by omega) A3.dr
 have A4:=A3.onl o4
 obtain ⟨y,s5,y0,y1,o5,e5⟩:=yah 8 hns (m:=4) (by omega) (by omega) A4.dr
 have A5:=A4.onl o5
 have e1:yd T 11 zcM [.loc 0] st=_:=e1
 have e2:yd T 11 zaj [.loc 0,.int 3] s1=_:=e2
 have e3:yd T 11 zcM [.loc 0] s2=_:=e3
 have e4:yd T 11 zaj [.loc 0,.int 100000000000000000000] s3=_:=e4
 have e5:yd T 11 zaj [.loc 0,.int 4] s4=_:=e5
 have hpw:binV .pow (.int 10) (.int 20)=some (.int 100000000000000000000):=by with_unfolding_all rfl
 have hl0:∀s,idxV s (.lst (.tp false [.str ⟨#[c]⟩,.int a]::xr)) (.int 0)=some (.tp false [.str ⟨#[c]⟩,.int a]):=fun st=>by simp [idxV,idxI,at?,ixI]
 have tc:∀k,tam k 50 (.str ⟨#[c]⟩)=true:=fun k=>zkT (by omega) (by omega)
 have ti:∀k (i:Int),tam k 50 (.int i)=true:=fun _ _=>rfl
 obtain ⟨u,v,tuv,hi⟩:∃u v,tam 9 50 (.tp false [u,v])=true/\∀s,idxV s (.tp false [.tp false [.str ⟨#[c]⟩,.int a],.tp false [sv,.int a],.tp false [.str ⟨#[c]⟩,sv]]) (.int w)=some (.tp false [u,v]):=by
  obtain ⟨z,zm,zi⟩:=ze1 (k:=false) (xs:=[.tp false [.str ⟨#[c]⟩,.int a],.tp false [sv,.int a],.tp false [.str ⟨#[c]⟩,sv]]) w0 (show w<((3:Nat):Int) from w1)
  have t1':=zcI (show 3<=8 by omega) (show 10<=50 by omega) sv t1
  simp only [List.mem_cons,List.not_mem_nil,or_false] at zm
  rcases zm with rfl|rfl|rfl
  ·exact ⟨_,_,zgF (d:=8) (by omega) (tc 8) (ti 8 a),zi⟩
  ·exact ⟨_,_,zgF (d:=8) (by omega) t1' (ti 8 a),zi⟩
  ·exact ⟨_,_,zgF (d:=8) (by omega) (tc 8) t1',zi⟩
 obtain ⟨x,tx,hj⟩:∃x,tam 9 50 x=true/\∀s,idxV s (.tp false [.int (2 ^ n),.int (-1),sx,.int (2 ^ n+d)]) (.int y)=some x:=by
  obtain ⟨z,zm,zi⟩:=ze1 (k:=false) (xs:=[.int (2 ^ n),.int (-1),sx,.int (2 ^ n+d)]) y0 (show y<((4:Nat):Int) from y1)
  refine ⟨z,?_,zi⟩
  simp only [List.mem_cons,List.not_mem_nil,or_false] at zm
  rcases zm with rfl|rfl|rfl|rfl
  ·rfl
  ·rfl
  ·exact zcI (by omega) (by omega) _ t3
  ·rfl
 have e6:yd T 11 zeY [u,v,x,.int (2 ^ n)] s5=_:=znj 8 tuv (by omega) tx (2 ^ n) s5
 obtain ⟨st',e7⟩:=ends hx l2 H hh (u:=u) (v:=v) (x:=x) (p0:=p0) (p1:=some (.loc 0)) (p2:=p2) (p7:=p7) (p9:=p9) (p10:=p10) (p11:=p11) (p12:=p12) (p13:=p13) (p14:=some sv) hn hl tuv tx A5
 refine ⟨st',?_⟩
 rw [eD]
 simp! [yN,e1,hl0,ix0,ix1,Nat.zero_le,e2,hi,yfM,yea,e3,hpw,e4,e5,hj,e6,e7]
theorem mid (hn:n<=16)(hl:D.length<900){v:PV}(tv:tam 6 50 v=true){rs:List PV}(hr:∀x∈rs,rgt x)(hr2:rs.length<=6){w:Int}{p0 p2 p7:Option PV}{st:Store}(A:AS ns st M L Q n D mk) :
  ∃st',exs (yd T 11) [p0,some (.loc 0),p2,some (.int (2 ^ n)),some (.lst xs),some (.loc M),some (.loc Q),p7,some (.int mk),some v,some (.lst rs),some (.int w),none,none,none,none,none,none,none] st tB=.rt (.bl true) st':=by
 have e1:∀s,yd T 11 zf1 [v] s=.ok (.bl (yae v)) s:=fun s=>zju 8 tv (by omega) (by omega) s
 cases rv:yae v with
 |true =>
  obtain ⟨st',e2⟩:=last hns hx l1 l2 H hh (p0:=p0) (p2:=p2) (p7:=p7) (p9:=some v) (p10:=some (.lst rs)) (p11:=some (.int w)) (p12:=none) (p13:=none) hn hl A
  refine ⟨st',?_⟩
  rw [eC]
  simp! [yN,e1,rv]
  exact e2
 |false =>
  obtain ⟨am,ham⟩:∃am,am=cut rs none (some w)++[v]++cut rs (some w) none:=⟨_,rfl⟩
  have l3:=zgK rs none (some w)
  have l4:=zgK rs (some w) none
  have b1:binV .add (.lst (cut rs none (some w))) (.lst [v])=some (.lst (cut rs none (some w)++[v])):=by
   simp only [binV]
   rw [if_pos (by simp [sizeMax];omega)]
  have b2:binV .add (.lst (cut rs none (some w)++[v])) (.lst (cut rs (some w) none))=some (.lst am):=by
   simp only [binV]
   rw [if_pos (by simp [sizeMax];omega),ham]
  have c1:yaZ (.lst rs) none (some w)=some (.lst (cut rs none (some w))):=rfl
  have c2:yaZ (.lst rs) (some w) none=some (.lst (cut rs (some w) none)):=rfl
  have hm:∀x∈am,tam 6 50 x=true:=fun x hx=>by
   have hg:∀x∈rs,tam 6 50 x=true:=fun x hx=>by
    obtain ⟨_,_,_,_,t⟩:=hr x hx
    exact zcI (by omega) (by omega) x t
   rw [ham] at hx
   rcases List.mem_append.1 hx with hx|hx
   ·rcases List.mem_append.1 hx with hx|hx
    ·exact hg x (zgO hx)
    ·simp only [List.mem_cons,List.not_mem_nil,or_false] at hx
     rw [hx];exact tv
   ·exact hg x (zgO hx)
  have hv:v∈am:=by rw [ham];simp
  obtain ⟨s1,A1,f1⟩:=turn hx l2 H hh tv rv hr hm hv (t:=0) (.inr rfl) (fun s=>ix0) (p0:=p0) (p1:=some (.loc 0)) (p2:=p2) (p3:=some (.int (2 ^ n))) (p7:=p7) (p11:=some (.int w)) (r:=[none,none,none,none,none]) A
  obtain ⟨s2,A2,f2⟩:=turn hx l2 H hh tv rv hr hm hv (t:=1) (.inl ⟨false,rfl⟩) (fun s=>ix1) (p0:=p0) (p1:=some (.loc 0)) (p2:=p2) (p3:=some (.int (2 ^ n))) (p7:=p7) (p11:=some (.int w)) (r:=[none,none,none,none,none]) A1
  obtain ⟨st',e2⟩:=last hns hx l1 l2 H hh (p0:=p0) (p2:=p2) (p7:=p7) (p9:=some v) (p10:=some (.lst rs)) (p11:=some (.int w)) (p12:=some (.lst am)) (p13:=some (.int 1)) hn hl A2
  refine ⟨st',?_⟩
  have hrg:ycA (.int 2)=some [.int 0,.int 1]:=rfl
  have hf:ybw (yd T 11) (.n 13) lB2 [.int 0,.int 1] [p0,some (.loc 0),p2,some (.int (2 ^ n)),some (.lst xs),some (.loc M),some (.loc Q),p7,some (.int mk),some v,some (.lst rs),some (.int w),some (.lst am),none,none,none,none,none,none] st=.nx [p0,some (.loc 0),p2,some (.int (2 ^ n)),some (.lst xs),some (.loc M),some (.loc Q),p7,some (.int mk),some v,some (.lst rs),some (.int w),some (.lst am),some (.int 1),none,none,none,none,none] s2:=by
   rw [zbt (ρ1:=[p0,some (.loc 0),p2,some (.int (2 ^ n)),some (.lst xs),some (.loc M),some (.loc Q),p7,some (.int mk),some v,some (.lst rs),some (.int w),some (.lst am),some (.int 0),none,none,none,none,none]) rfl,f1]
   show ybw _ _ _ _ _ _=_
   rw [zbt (ρ1:=[p0,some (.loc 0),p2,some (.int (2 ^ n)),some (.lst xs),some (.loc M),some (.loc Q),p7,some (.int mk),some v,some (.lst rs),some (.int w),some (.lst am),some (.int 1),none,none,none,none,none]) rfl,f2]
   show ybw _ _ _ _ _ _=_
   rw [zdM]
  have he:exs (yd T 11) [p0,some (.loc 0),p2,some (.int (2 ^ n)),some (.lst xs),some (.loc M),some (.loc Q),p7,some (.int mk),some v,some (.lst rs),some (.int w),none,none,none,none,none,none,none] st tE1=.nx [p0,some (.loc 0),p2,some (.int (2 ^ n)),some (.lst xs),some (.loc M),some (.loc Q),p7,some (.int mk),some v,some (.lst rs),some (.int w),some (.lst am),some (.int 1),none,none,none,none,none] s2:=by
   rw [eE]
   simp! [tE1,yN,zbs,zcW,zef,zeB,c1,c2,b1,b2,Nat.zero_le,hrg,hf]
  rw [eC]
  simp! [yN,e1,rv,he]
  exact e2
end
theorem zmp (ns:List Int)(hnl:ns.length<=63):yd T 12 zjU [.scr (ns.map .int)] []=.ok (.bl true) []:=by
 obtain ⟨o,e1,ho⟩:=fresh 10 ns hnl []
 have h0:Drw ns 0 [o]:=⟨0,0,false,by omega,by rw [ho];rfl⟩
 have hns:ns.length<=1000:=by omega
 have hT:T zjU=some ⟨1,19,true,yN.body⟩:=rfl
 have e1:yd T 11 zgY [.scr (ns.map .int)] []=.ok (.loc 0) [o]:=e1
 obtain ⟨d,s2,d0,d1,o2,e2⟩:=yah 8 hns (m:=13) (by omega) (by omega) h0
 have e2:yd T 11 zaj [.loc 0,.int 13] [o]=_:=e2
 obtain ⟨dn,rfl⟩:=zg2 d0
 obtain ⟨n,hn⟩:∃n:Nat,n=4+dn:=⟨_,rfl⟩
 have hw:(4:Int)+(dn:Int)=(n:Int):=by omega
 have e3:yd T 11 zfM [.int (n:Int)] s2=.ok (.int (2 ^ n)) s2:=zoD 10 n (by omega) s2
 obtain ⟨m,s4,m0,m1,o4,e4⟩:=yah 8 hns (m:=5) (by omega) (by omega) (o2.drw h0)
 have e4:yd T 11 zaj [.loc 0,.int 5] s2=_:=e4
 obtain ⟨many,rfl⟩:=zg2 m0
 obtain ⟨xs,s5,hx,hx2,l1,l2,g5,e5⟩:=zjK hns 5 (o4.drw (o2.drw h0)) many (by omega)
 have e5:yd T 11 zcP [.loc 0,.int many] s4=_:=e5
 have e6:yd T 11 zbn [.loc s5.length,.int n] (s5++[.ins 20 []])=_:=yd2 10 n s5
 have p5:=g5.pos
 obtain ⟨s7,hs7⟩:∃s7,s7=s5++[mob n (s5.length+1) 0]++[.dct true []]++[.dct true []]:=⟨_,rfl⟩
 have A7:AS ns s7 s5.length (s5.length+1) (s5.length+2) n [] 0:=by
  rw [hs7]
  refine ⟨((g5.app _).app _).app _,⟨?_,?_,by omega⟩,?_,by omega,by omega,by omega,by omega,by omega⟩
  ·simp
  ·simp
  ·simp
 obtain ⟨D8,s8,q7,H8,hh8,hl8,A8,e8⟩:=ydw hns hx (by omega) (by omega) (p0:=some (.scr (ns.map .int))) (p2:=some (.int n)) (r:=[none,none,none,none,none,none,none,none,none,none,none]) xs [] [] s7 none (by simp) (fun p hp=>by cases hp) (by simp) (by simp) l2 A7
 obtain ⟨q,s9,q0,q1,o9,e9⟩:=yah 8 hns (m:=2) (by omega) (by omega) A8.dr
 have e9:yd T 11 zaj [.loc 0,.int 2] s8=_:=e9
 have A9:=A8.onl o9
 have e10:yd T 11 zbl [.loc s5.length,.tp false [.str "mark",.int q]] s9=_:=zm2 3 A9.ms q0 q1
 obtain ⟨s10,hs10⟩:∃s,s=s9.set s5.length (mob n (s5.length+1) q):=⟨_,rfl⟩
 rw [<- hs10] at e10
 have A10:AS ns s10 s5.length (s5.length+1) (s5.length+2) n D8 q:=by
  rw [hs10]
  exact ⟨A9.dr.put A9.m0 _,(A9.ms.sm q).2,by rw [List.getElem?_set_ne (Ne.symm A9.qm)];exact A9.q,A9.m0,A9.l0,A9.q0,A9.qm,A9.ql⟩
 obtain ⟨v,s11,tv,g11,e11⟩:=bad hns 3 (Frm.refl A10.dr) hx hx2 l1 l2
 have e11:yd T 11 zj2 [.loc 0,.lst xs] s10=_:=e11
 have A11:=A10.frm g11
 obtain ⟨N,s12,N0,N1,o12,e12⟩:=yah 8 hns (m:=7) (by omega) (by omega) A11.dr
 have e12:yd T 11 zaj [.loc 0,.int 7] s11=_:=e12
 have A12:=A11.onl o12
 obtain ⟨N,rfl⟩:=zg2 N0
 obtain ⟨rs,s13,lr,hr,g13,e13⟩:=rights hns hx hx2 l1 l2 N 0 s12 (Frm.refl A12.dr)
 have A13:=A12.frm g13
 obtain ⟨w,s14,w0,w1,o14,e14⟩:=yah 8 hns (m:=(rs.length:Int)+1) (by omega) (by omega) A13.dr
 have e14:yd T 11 zaj [.loc 0,.int ((rs.length:Int)+1)] s13=_:=e14
 have A14:=A13.onl o14
 obtain ⟨st',e15⟩:=mid hns hx l1 l2 H8 hh8 (by omega) (by omega) tv hr (by omega) (w:=w) (p0:=some (.scr (ns.map .int))) (p2:=some (.int n)) (p7:=q7) A14
 have hrg:=zje N (by omega)
 have hlr:=zg1 rs (by omega) s13
 have hle:yaf .len s13 [.lst rs]=some (.int rs.length):=rfl
 have i1:=A9.ms.ins (Str.ofString "do")
 have hlen:(s5++[mob n (s5.length+1) 0]++[Ob.dct true []]).length=s5.length+2:=by simp
 have fB:exs (yd T 11) [some (.scr (ns.map .int)),some (.loc 0),some (.int n),some (.int (2 ^ n)),some (.lst xs),some (.loc s5.length),some (.loc (s5.length+2)),q7,none,none,none,none,none,none,none,none,none,none,none] s8 tA=.rt (.bl true) st':=by
  rw [eB]
  simp! [yN,e9,i1,Nat.zero_le,e10,e11,e12,hrg,e13,hlr,hle,e14,ev.eq_37]
  exact e15
 rw [zaf hT rfl rfl (zjg ns)]
 dsimp only
 rw [eA]
 simp! [yN,zI,Nat.zero_le,e1,e2,hw,e3,e4,e5,e6,ybI,newV,hlen,hs7.symm,e8,ev.eq_33,fB]
end WK
namespace WK
open PySem L2 IC
section
variable {P:Program}{w:World}{K:PySem.W.Frag}{mg:Str->Option Value}{base:Heap}{cl:Nat->Addr}{fa:Nat->Addr}{fdd:Nat->FuncData}
theorem zL (Z:Facts w K mg cl fa fdd):∀k,Fns P w K mg base cl fa fdd k
 |0=>fun i ps _=>zms
 |k+1=>fun i ps h=>match i,h with
  |0,h=>by cases h;exact zjL Z (zL Z k)
  |1,h=>by cases h;exact zh8 Z (zL Z k)
  |2,h=>by cases h;exact zhA Z (zL Z k)
  |3,h=>by cases h;exact zj8 Z (zL Z k)
  |4,h=>by cases h;exact zid Z (zL Z k)
  |5,h=>by cases h;exact zij Z (zL Z k)
  |6,h=>by cases h;exact zhc Z (zL Z k)
  |7,h=>by cases h;exact zjM Z (zL Z k)
  |8,h=>by cases h;exact zge Z (zL Z k)
  |9,h=>by cases h;exact zeb Z (zL Z k)
  |10,h=>by cases h;exact zgi Z (zL Z k)
  |11,h=>by cases h;exact zfZ Z (zL Z k)
  |12,h=>by cases h;exact zfq Z (zL Z k)
  |13,h=>by cases h;exact zg9 Z (zL Z k)
  |14,h=>by cases h;exact zgj Z (zL Z k)
  |15,h=>by cases h;exact zei Z (zL Z k)
  |16,h=>by cases h;exact zeX Z (zL Z k)
  |17,h=>by cases h;exact zgV Z (zL Z k)
  |18,h=>by cases h;exact zg3 Z (zL Z k)
  |19,h=>by cases h;exact zkX Z (zL Z k)
  |20,h=>by cases h;exact zkB Z (zL Z k)
  |21,h=>by cases h;exact zl7 Z (zL Z k)
  |22,h=>by cases h;exact zmf Z (zL Z k)
  |23,h=>by cases h;exact zjz Z (zL Z k)
  |24,h=>by cases h;exact zj4 Z (zL Z k)
  |25,h=>by cases h;exact zjj Z (zL Z k)
  |26,h=>by cases h;exact zf5 Z (zL Z k)
  |27,h=>by cases h;exact zgZ Z (zL Z k)
  |28,h=>by cases h;exact zgG Z (zL Z k)
  |29,h=>by cases h;exact zhm Z (zL Z k)
  |30,h=>by cases h;exact zgd Z (zL Z k)
  |31,h=>by cases h;exact ziy Z (zL Z k)
  |32,h=>by cases h;exact zjN Z (zL Z k)
  |33,h=>by cases h;exact ziv Z (zL Z k)
  |34,h=>by cases h;exact zfc Z (zL Z k)
  |35,h=>by cases h;exact zgk Z (zL Z k)
  |36,h=>by cases h;exact zma Z (zL Z k)
  |37,h=>by cases h;exact zkW Z (zL Z k)
  |38,h=>by cases h;exact zlj Z (zL Z k)
  |39,h=>by cases h;exact zh9 Z (zL Z k)
  |40,h=>by cases h;exact znu Z (zL Z k)
  |41,h=>by cases h;exact zoS Z (zL Z k)
  |i+42,h=>by cases h
end
set_option maxHeartbeats 0 in
noncomputable abbrev FN (x:Str)(s:Stmt)(d kV dc pm:Value)(an:Option Addr)(cd ct:Value):=PySem.W.fnOf x x (yaa s) (yK s) (yc s) d kV dc pm an cd ct
noncomputable abbrev lN (K:PySem.W.Frag)(f:Addr)(x:Str)(s:Stmt)(d oc:Value)(od:Option Addr)(kV dc pm:Value)(an:Option Addr)(cd ct:Value)(sl:Array (Option Value)) := K.lookup f=some ⟨oc,od,.func (FN x s d kV dc pm an cd ct),sl⟩
noncomputable abbrev aN (K:PySem.W.Frag)(x:Str)(f:Addr):=PySem.W.nsIn K mainGlobals x=some (some (.ref f))
noncomputable abbrev cN (K:PySem.W.Frag)(c:Value)(x:Str):=PySem.W.codeIn K c x=true
noncomputable abbrev pN (K:PySem.W.Frag)(f:Addr):=PySem.W.keepIn K (.ref f)=true
abbrev kO (K:PySem.W.Frag)(p q:Addr)(b:Bool):=PySem.W.kitOne K (.ref p) (.ref q)=some b
abbrev kT (K:PySem.W.Frag)(p q:String)(b:Bool):=PySem.W.kitOne K (.type p) (.type q)=some b
abbrev fI (K:PySem.W.Frag)(q:Addr)(x:Str)(f:Addr):=PySem.W.findIn K (.ref q) x=some (some (.ref f))
abbrev iF (K:PySem.W.Frag)(f:Addr):=PySem.W.isFn K (.ref f)=true
abbrev lM (K:PySem.W.Frag)(f:Addr)(oc:Value)(od:Option Addr)(x y:Str)(s:Stmt)(kV dc pm:Value)(an:Option Addr)(cd ct:Value)(sl:Array (Option Value)):=K.lookup f=some ⟨oc,od,.func (PySem.W.fnOf x y (yaa s) (yK s) (yc s) .none kV dc pm an cd ct),sl⟩
abbrev FM (x y:Str)(s:Stmt):=PySem.W.fnOf x y (yaa s) (yK s) (yc s)
local macro_rules|`(tactic|nofun)=>`(tactic|exact fun _ _ _ _ _ _ us hl=>match us,hl with | [_],_=>rfl)
local macro_rules|`(tactic|trivial)=>`(tactic|exact fun _ _ _ _ _ _ us hl=>match us,hl with | [_,_],_=>rfl)
theorem all_mk {l:PySem.W.OpenLaw}{w:World}{K:PySem.W.Frag}{h:Heap}{mg:Str->Option Value}{fx:Addr}(X:K.In h)(G:h.Ns mainGlobals mg)(hfa:mg "law"=some (.ref fx))(n_20:aN K "Machine" q20)(pg_20:PySem.W.plainGet K q20 Str.empty=true)(hd_20:PySem.W.hasDictIn K q20=true)(po_20:PySem.W.plainOver K q20=true)(sa_20:PySem.W.findIn K (.ref q20) "__setattr__"=some (some (.builtin "object.__setattr__")))(mk_20:PySem.W.makesIn K q20=true)(kc_20:pN K q20)(nf_20_marked:PySem.W.findIn K (.ref q20) "marked"=some none)(nf_20_w:PySem.W.findIn K (.ref q20) "w"=some none)(nf_20_words:PySem.W.findIn K (.ref q20) "words"=some none)(a0:aN K "highest" f0)(l0:lN K f0 "highest" zcF .none oc0 od0 kV0 dc0 pm0 an0 cd0 ct0 sl0)(c0:cN K cd0 "highest")(p0:pN K f0)(a1:aN K "is_whole" f1)(l1:lN K f1 "is_whole" zbc .none oc1 od1 kV1 dc1 pm1 an1 cd1 ct1 sl1)(c1:cN K cd1 "is_whole")(p1:pN K f1)(a2:aN K "is_letter" f2)(l2:lN K f2 "is_letter" zaW .none oc2 od2 kV2 dc2 pm2 an2 cd2 ct2 sl2)(c2:cN K cd2 "is_letter")(p2:pN K f2)(a3:aN K "is_row" f3)(l3:lN K f3 "is_row" zc3 .none oc3 od3 kV3 dc3 pm3 an3 cd3 ct3 sl3)(c3:cN K cd3 "is_row")(p3:pN K f3)(a4:aN K "has_form" f4)(l4:lN K f4 "has_form" zaI .none oc4 od4 kV4 dc4 pm4 an4 cd4 ct4 sl4)(c4:cN K cd4 "has_form")(p4:pN K f4)(a5:aN K "is_named" f5)(l5:lN K f5 "is_named" zaM .none oc5 od5 kV5 dc5 pm5 an5 cd5 ct5 sl5)(c5:cN K cd5 "is_named")(p5:pN K f5)(a6:aN K "is_operand" f6)(l6:lN K f6 "is_operand" zaQ .none oc6 od6 kV6 dc6 pm6 an6 cd6 ct6 sl6)(c6:cN K cd6 "is_operand")(p6:pN K f6)(a7:aN K "is_cell" f7)(l7:lN K f7 "is_cell" zbK .none oc7 od7 kV7 dc7 pm7 an7 cd7 ct7 sl7)(c7:cN K cd7 "is_cell")(p7:pN K f7)(a8:aN K "is_lettered" f8)(l8:lN K f8 "is_lettered" zan .none oc8 od8 kV8 dc8 pm8 an8 cd8 ct8 sl8)(c8:cN K cd8 "is_lettered")(p8:pN K f8)(a9:fI K q20 "__init__" f9)(i9:iF K f9)(l9:lM K f9 oc9 od9 "__init__" "Machine.__init__" zK kV9 dc9 pm9 an9 cd9 ct9 sl9)(c9:cN K cd9 "Machine.__init__")(p9:pN K f9)(a10:fI K q20 "put" f10)(i10:iF K f10)(l10:lM K f10 oc10 od10 "put" "Machine.put" zR kV10 dc10 pm10 an10 cd10 ct10 sl10)(c10:cN K cd10 "Machine.put")(p10:pN K f10)(a11:fI K q20 "word" f11)(i11:iF K f11)(l11:lM K f11 oc11 od11 "word" "Machine.word" zZ kV11 dc11 pm11 an11 cd11 ct11 sl11)(c11:cN K cd11 "Machine.word")(p11:pN K f11)(a12:fI K q20 "mark" f12)(i12:iF K f12)(l12:lM K f12 oc12 od12 "mark" "Machine.mark" z6 kV12 dc12 pm12 an12 cd12 ct12 sl12)(c12:cN K cd12 "Machine.mark")(p12:pN K f12)(a13:fI K q20 "do" f13)(i13:iF K f13)(l13:lM K f13 oc13 od13 "do" "Machine.do" zag kV13 dc13 pm13 an13 cd13 ct13 sl13)(c13:cN K cd13 "Machine.do")(p13:pN K f13)(a14:fI K q20 "run" f14)(i14:iF K f14)(l14:lM K f14 oc14 od14 "run" "Machine.run" z8 kV14 dc14 pm14 an14 cd14 ct14 sl14)(c14:cN K cd14 "Machine.run")(p14:pN K f14)(a15:fI K q20 "held_in" f15)(i15:iF K f15)(l15:lM K f15 oc15 od15 "held_in" "Machine.held_in" zN kV15 dc15 pm15 an15 cd15 ct15 sl15)(c15:cN K cd15 "Machine.held_in")(p15:pN K f15)(a16:fI K q20 "go_row" f16)(i16:iF K f16)(l16:lM K f16 oc16 od16 "go_row" "Machine.go_row" zS kV16 dc16 pm16 an16 cd16 ct16 sl16)(c16:cN K cd16 "Machine.go_row")(p16:pN K f16)(a17:aN K "known_cell" f17)(l17:lN K f17 "known_cell" zaS .none oc17 od17 kV17 dc17 pm17 an17 cd17 ct17 sl17)(c17:cN K cd17 "known_cell")(p17:pN K f17)(a18:aN K "refuse_row" f18)(l18:lN K f18 "refuse_row" zaO .none oc18 od18 kV18 dc18 pm18 an18 cd18 ct18 sl18)(c18:cN K cd18 "refuse_row")(p18:pN K f18)(a19:aN K "_law_fresh" f19)(l19:lN K f19 "_law_fresh" zdJ .none oc19 od19 kV19 dc19 pm19 an19 cd19 ct19 sl19)(c19:cN K cd19 "_law_fresh")(p19:pN K f19)(a20:aN K "_law_mixed" f20)(l20:lN K f20 "_law_mixed" zcR .none oc20 od20 kV20 dc20 pm20 an20 cd20 ct20 sl20)(c20:cN K cd20 "_law_mixed")(p20:pN K f20)(a21:aN K "_law_fill" f21)(l21:lN K f21 "_law_fill" zdz .none oc21 od21 kV21 dc21 pm21 an21 cd21 ct21 sl21)(c21:cN K cd21 "_law_fill")(p21:pN K f21)(a22:aN K "_law_take" f22)(l22:lN K f22 "_law_take" zd8 .none oc22 od22 kV22 dc22 pm22 an22 cd22 ct22 sl22)(c22:cN K cd22 "_law_take")(p22:pN K f22)(a23:aN K "_law_two_to" f23)(l23:lN K f23 "_law_two_to" zca .none oc23 od23 kV23 dc23 pm23 an23 cd23 ct23 sl23)(c23:cN K cd23 "_law_two_to")(p23:pN K f23)(a24:aN K "_law_whole" f24)(l24:lN K f24 "_law_whole" zbU .none oc24 od24 kV24 dc24 pm24 an24 cd24 ct24 sl24)(c24:cN K cd24 "_law_whole")(p24:pN K f24)(a25:aN K "_law_letter" f25)(l25:lN K f25 "_law_letter" zbv .none oc25 od25 kV25 dc25 pm25 an25 cd25 ct25 sl25)(c25:cN K cd25 "_law_letter")(p25:pN K f25)(a26:aN K "_law_some_letter" f26)(l26:lN K f26 "_law_some_letter" zaE .none oc26 od26 kV26 dc26 pm26 an26 cd26 ct26 sl26)(c26:cN K cd26 "_law_some_letter")(p26:pN K f26)(a27:aN K "_law_some_cell" f27)(l27:lN K f27 "_law_some_cell" zaR .none oc27 od27 kV27 dc27 pm27 an27 cd27 ct27 sl27)(c27:cN K cd27 "_law_some_cell")(p27:pN K f27)(a28:aN K "_law_some_word" f28)(l28:lN K f28 "_law_some_word" za4 .none oc28 od28 kV28 dc28 pm28 an28 cd28 ct28 sl28)(c28:cN K cd28 "_law_some_word")(p28:pN K f28)(a29:aN K "_law_some_row" f29)(l29:lN K f29 "_law_some_row" zaX .none oc29 od29 kV29 dc29 pm29 an29 cd29 ct29 sl29)(c29:cN K cd29 "_law_some_row")(p29:pN K f29)(a30:aN K "_law_some_cells" f30)(l30:lN K f30 "_law_some_cells" zas .none oc30 od30 kV30 dc30 pm30 an30 cd30 ct30 sl30)(c30:cN K cd30 "_law_some_cells")(p30:pN K f30)(a31:aN K "_law_is_cell" f31)(l31:lN K f31 "_law_is_cell" zaL .none oc31 od31 kV31 dc31 pm31 an31 cd31 ct31 sl31)(c31:cN K cd31 "_law_is_cell")(p31:pN K f31)(a32:aN K "_law_is_row" f32)(l32:lN K f32 "_law_is_row" zaA .none oc32 od32 kV32 dc32 pm32 an32 cd32 ct32 sl32)(c32:cN K cd32 "_law_is_row")(p32:pN K f32)(a33:aN K "_law_strange" f33)(l33:lN K f33 "_law_strange" za9 .none oc33 od33 kV33 dc33 pm33 an33 cd33 ct33 sl33)(c33:cN K cd33 "_law_strange")(p33:pN K f33)(a34:aN K "_law_spoilt_tuple" f34)(l34:lN K f34 "_law_spoilt_tuple" zT .none oc34 od34 kV34 dc34 pm34 an34 cd34 ct34 sl34)(c34:cN K cd34 "_law_spoilt_tuple")(p34:pN K f34)(a35:aN K "_law_spoilt_row" f35)(l35:lN K f35 "_law_spoilt_row" z7 .none oc35 od35 kV35 dc35 pm35 an35 cd35 ct35 sl35)(c35:cN K cd35 "_law_spoilt_row")(p35:pN K f35)(a36:aN K "_law_kind" f36)(l36:lN K f36 "_law_kind" zaz .none oc36 od36 kV36 dc36 pm36 an36 cd36 ct36 sl36)(c36:cN K cd36 "_law_kind")(p36:pN K f36)(a37:aN K "_law_asked" f37)(l37:lN K f37 "_law_asked" zcm .none oc37 od37 kV37 dc37 pm37 an37 cd37 ct37 sl37)(c37:cN K cd37 "_law_asked")(p37:pN K f37)(a38:aN K "_law_stays" f38)(l38:lN K f38 "_law_stays" zcu .none oc38 od38 kV38 dc38 pm38 an38 cd38 ct38 sl38)(c38:cN K cd38 "_law_stays")(p38:pN K f38)(a39:aN K "_law_put_due" f39)(l39:lN K f39 "_law_put_due" zbh .none oc39 od39 kV39 dc39 pm39 an39 cd39 ct39 sl39)(c39:cN K cd39 "_law_put_due")(p39:pN K f39)(a40:aN K "_law_bad" f40)(l40:lN K f40 "_law_bad" zdr .none oc40 od40 kV40 dc40 pm40 an40 cd40 ct40 sl40)(c40:cN K cd40 "_law_bad")(p40:pN K f40)(a41:aN K "law" f41)(l41:lN K f41 "law" zbO .none oc41 od41 kV41 dc41 pm41 an41 cd41 ct41 sl41)(c41:cN K cd41 "law")(p41:pN K f41)(z_ValueError:PySem.W.nsIn K mainGlobals "ValueError"=some none)(z_all:PySem.W.nsIn K mainGlobals "all"=some none)(z_bool:PySem.W.nsIn K mainGlobals "bool"=some none)(z_enumerate:PySem.W.nsIn K mainGlobals "enumerate"=some none)(z_int:PySem.W.nsIn K mainGlobals "int"=some none)(z_isinstance:PySem.W.nsIn K mainGlobals "isinstance"=some none)(z_len:PySem.W.nsIn K mainGlobals "len"=some none)(z_list:PySem.W.nsIn K mainGlobals "list"=some none)(z_min:PySem.W.nsIn K mainGlobals "min"=some none)(z_range:PySem.W.nsIn K mainGlobals "range"=some none)(z_str:PySem.W.nsIn K mainGlobals "str"=some none)(z_tuple:PySem.W.nsIn K mainGlobals "tuple"=some none)(z_zip:PySem.W.nsIn K mainGlobals "zip"=some none)(k_bool_n:kT K "NoneType" "bool" false)(k_bool_b:kT K "bool" "bool" true)(k_bool_i:kT K "int" "bool" false)(k_bool_s:kT K "str" "bool" false)(k_bool_p:kT K "tuple" "bool" false)(k_bool_l:kT K "list" "bool" false)(k_int_n:kT K "NoneType" "int" false)(k_int_b:kT K "bool" "int" true)(k_int_i:kT K "int" "int" true)(k_int_s:kT K "str" "int" false)(k_int_p:kT K "tuple" "int" false)(k_int_l:kT K "list" "int" false)(k_str_n:kT K "NoneType" "str" false)(k_str_b:kT K "bool" "str" false)(k_str_i:kT K "int" "str" false)(k_str_s:kT K "str" "str" true)(k_str_p:kT K "tuple" "str" false)(k_str_l:kT K "list" "str" false)(k_tuple_n:kT K "NoneType" "tuple" false)(k_tuple_b:kT K "bool" "tuple" false)(k_tuple_i:kT K "int" "tuple" false)(k_tuple_s:kT K "str" "tuple" false)(k_tuple_p:kT K "tuple" "tuple" true)(k_tuple_l:kT K "list" "tuple" false)(n_0:aN K "NoFit" q0)(n_1:aN K "NoText" q1)(n_2:aN K "NoCell" q2)(n_3:aN K "NoWord" q3)(n_4:aN K "NoRow" q4)(n_5:aN K "NoTelling" q5)(n_6:aN K "NoDeed" q6)(n_7:aN K "NoQuotient" q7)(n_8:aN K "TooMany" q8)(n_9:aN K "NoLine" q9)(n_10:aN K "NoName" q10)(n_11:aN K "NoWidth" q11)(n_12:aN K "NoPair" q12)(n_13:aN K "NoUndo" q13)(n_14:aN K "WordError" q14)(e_2:PySem.W.excIn K q2 [.type "ValueError",.type "Exception",.type "BaseException",.type "object"] "ValueError.__new__"=true)(t_2:PySem.W.exmOne K (.ref q2) (.ref q14)=some true)(xa_2:PySem.W.findIn K (.ref q2) "__getattribute__"=some (some (.builtin "BaseException.__getattribute__")))(xh_2:PySem.W.findIn K (.ref q2) "__getattr__"=some none)(xc_2:PySem.W.findIn K (.ref q2) "__class__"=some (some (.builtin "object.__class__")))(xs_2:PySem.W.subIn K (.ref q2) (.type "BaseException")=some true)(xo_2:PySem.W.mroIn K q2 (.type "object")=some true)(xd_2:PySem.W.isClsIn K q2=true)(i_2_0:kO K q2 q0 false)(i_2_1:kO K q2 q1 false)(i_2_2:kO K q2 q2 true)(i_2_3:kO K q2 q3 false)(i_2_4:kO K q2 q4 false)(i_2_5:kO K q2 q5 false)(i_2_6:kO K q2 q6 false)(i_2_7:kO K q2 q7 false)(i_2_8:kO K q2 q8 false)(i_2_9:kO K q2 q9 false)(i_2_10:kO K q2 q10 false)(i_2_11:kO K q2 q11 false)(i_2_12:kO K q2 q12 false)(i_2_13:kO K q2 q13 false)(i_2_v:PySem.W.kitOne K (.ref q2) (.type "ValueError")=some true)(e_3:PySem.W.excIn K q3 [.type "ValueError",.type "Exception",.type "BaseException",.type "object"] "ValueError.__new__"=true)(t_3:PySem.W.exmOne K (.ref q3) (.ref q14)=some true)(xa_3:PySem.W.findIn K (.ref q3) "__getattribute__"=some (some (.builtin "BaseException.__getattribute__")))(xh_3:PySem.W.findIn K (.ref q3) "__getattr__"=some none)(xc_3:PySem.W.findIn K (.ref q3) "__class__"=some (some (.builtin "object.__class__")))(xs_3:PySem.W.subIn K (.ref q3) (.type "BaseException")=some true)(xo_3:PySem.W.mroIn K q3 (.type "object")=some true)(xd_3:PySem.W.isClsIn K q3=true)(i_3_0:kO K q3 q0 false)(i_3_1:kO K q3 q1 false)(i_3_2:kO K q3 q2 false)(i_3_3:kO K q3 q3 true)(i_3_4:kO K q3 q4 false)(i_3_5:kO K q3 q5 false)(i_3_6:kO K q3 q6 false)(i_3_7:kO K q3 q7 false)(i_3_8:kO K q3 q8 false)(i_3_9:kO K q3 q9 false)(i_3_10:kO K q3 q10 false)(i_3_11:kO K q3 q11 false)(i_3_12:kO K q3 q12 false)(i_3_13:kO K q3 q13 false)(i_3_v:PySem.W.kitOne K (.ref q3) (.type "ValueError")=some true)(e_4:PySem.W.excIn K q4 [.type "ValueError",.type "Exception",.type "BaseException",.type "object"] "ValueError.__new__"=true)(t_4:PySem.W.exmOne K (.ref q4) (.ref q14)=some true)(xa_4:PySem.W.findIn K (.ref q4) "__getattribute__"=some (some (.builtin "BaseException.__getattribute__")))(xh_4:PySem.W.findIn K (.ref q4) "__getattr__"=some none)(xc_4:PySem.W.findIn K (.ref q4) "__class__"=some (some (.builtin "object.__class__")))(xs_4:PySem.W.subIn K (.ref q4) (.type "BaseException")=some true)(xo_4:PySem.W.mroIn K q4 (.type "object")=some true)(xd_4:PySem.W.isClsIn K q4=true)(i_4_0:kO K q4 q0 false)(i_4_1:kO K q4 q1 false)(i_4_2:kO K q4 q2 false)(i_4_3:kO K q4 q3 false)(i_4_4:kO K q4 q4 true)(i_4_5:kO K q4 q5 false)(i_4_6:kO K q4 q6 false)(i_4_7:kO K q4 q7 false)(i_4_8:kO K q4 q8 false)(i_4_9:kO K q4 q9 false)(i_4_10:kO K q4 q10 false)(i_4_11:kO K q4 q11 false)(i_4_12:kO K q4 q12 false)(i_4_13:kO K q4 q13 false)(i_4_v:PySem.W.kitOne K (.ref q4) (.type "ValueError")=some true)(gRa:aN K "ROWS" gRy)(gRl:K.lookup gRy=some ⟨.type "dict",none,.dict #[⟨PyData.keyHash w.params "set",.str "set" gRt0,.ref gR0_y0⟩,⟨PyData.keyHash w.params "move",.str "move" gRt1,.ref gR1_y0⟩,⟨PyData.keyHash w.params "bare",.str "bare" gRt2,.ref gR2_y0⟩,⟨PyData.keyHash w.params "sum",.str "sum" gRt3,.ref gR3_y0⟩,⟨PyData.keyHash w.params "less",.str "less" gRt4,.ref gR4_y0⟩,⟨PyData.keyHash w.params "both",.str "both" gRt5,.ref gR5_y0⟩,⟨PyData.keyHash w.params "any",.str "any" gRt6,.ref gR6_y0⟩,⟨PyData.keyHash w.params "odd",.str "odd" gRt7,.ref gR7_y0⟩,⟨PyData.keyHash w.params "twice",.str "twice" gRt8,.ref gR8_y0⟩,⟨PyData.keyHash w.params "half",.str "half" gRt9,.ref gR9_y0⟩,⟨PyData.keyHash w.params "times",.str "times" gRt10,.ref gR10_y0⟩,⟨PyData.keyHash w.params "mark",.str "mark" gRt11,.ref gR11_y0⟩,⟨PyData.keyHash w.params "ask",.str "ask" gRt12,.ref gR12_y0⟩] gRn,#[]⟩)(gRs:(gRy == sysModules)=false)(gR0_l0:K.lookup gR0_y0=some ⟨.type "tuple",gR0_d0,.seq #[.str "cell" gR0_t0_0,.str "figure" gR0_t0_1] gR0_n0,gR0_s0⟩)(gR1_l0:K.lookup gR1_y0=some ⟨.type "tuple",gR1_d0,.seq #[.str "cell" gR1_t0_0,.str "cell" gR1_t0_1] gR1_n0,gR1_s0⟩)(gR2_l0:K.lookup gR2_y0=some ⟨.type "tuple",gR2_d0,.seq #[.str "cell" gR2_t0_0,.str "cell" gR2_t0_1] gR2_n0,gR2_s0⟩)(gR3_l0:K.lookup gR3_y0=some ⟨.type "tuple",gR3_d0,.seq #[.str "cell" gR3_t0_0,.str "cell" gR3_t0_1,.str "cell" gR3_t0_2] gR3_n0,gR3_s0⟩)(gR4_l0:K.lookup gR4_y0=some ⟨.type "tuple",gR4_d0,.seq #[.str "cell" gR4_t0_0,.str "cell" gR4_t0_1,.str "cell" gR4_t0_2] gR4_n0,gR4_s0⟩)(gR5_l0:K.lookup gR5_y0=some ⟨.type "tuple",gR5_d0,.seq #[.str "cell" gR5_t0_0,.str "cell" gR5_t0_1,.str "cell" gR5_t0_2] gR5_n0,gR5_s0⟩)(gR6_l0:K.lookup gR6_y0=some ⟨.type "tuple",gR6_d0,.seq #[.str "cell" gR6_t0_0,.str "cell" gR6_t0_1,.str "cell" gR6_t0_2] gR6_n0,gR6_s0⟩)(gR7_l0:K.lookup gR7_y0=some ⟨.type "tuple",gR7_d0,.seq #[.str "cell" gR7_t0_0,.str "cell" gR7_t0_1,.str "cell" gR7_t0_2] gR7_n0,gR7_s0⟩)(gR8_l0:K.lookup gR8_y0=some ⟨.type "tuple",gR8_d0,.seq #[.str "cell" gR8_t0_0,.str "cell" gR8_t0_1] gR8_n0,gR8_s0⟩)(gR9_l0:K.lookup gR9_y0=some ⟨.type "tuple",gR9_d0,.seq #[.str "cell" gR9_t0_0,.str "cell" gR9_t0_1] gR9_n0,gR9_s0⟩)(gR10_l0:K.lookup gR10_y0=some ⟨.type "tuple",gR10_d0,.seq #[.str "cell" gR10_t0_0,.str "cell" gR10_t0_1,.str "cell" gR10_t0_2,.str "cell" gR10_t0_3] gR10_n0,gR10_s0⟩)(gR11_l0:K.lookup gR11_y0=some ⟨.type "tuple",gR11_d0,.seq #[.str "figure" gR11_t0_0] gR11_n0,gR11_s0⟩)(gR12_l0:K.lookup gR12_y0=some ⟨.type "tuple",gR12_d0,.seq #[.str "cell" gR12_t0_0] gR12_n0,gR12_s0⟩)
   :∃fd:FuncData,(∀(s:Shared) (v:Value),BindsTo s fd ⟨[v],[]⟩ [("_law_script",v)])/\∀base:Heap,K.In base->base.Ns mainGlobals mg->yaE l.prog w K mg base (CX1 l.prog w) 24 fx fd ["_law_script"] (spX K (yd T 12) zjU):=by
 have e:=Value.ref.inj (Option.some.inj (hfa.symm.trans (PySem.W.mg_of X G a41)))
 subst e
 have Z:Facts w K mg (fun i=>([q0,q1,q2,q3,q4,q5,q6,q7,q8,q9,q10,q11,q12,q13,q14,0,0,0,0,0,q20,0,0]:List Addr).getD i 0) (fun i=>([f0,f1,f2,f3,f4,f5,f6,f7,f8,f9,f10,f11,f12,f13,f14,f15,f16,f17,f18,f19,f20,f21,f22,f23,f24,f25,f26,f27,f28,f29,f30,f31,f32,f33,f34,f35,f36,f37,f38,f39,f40,fx]:List Addr).getD i 0) (fun i=>match i with
  |0=>(FN "highest" zcF .none kV0 dc0 pm0 an0 cd0 ct0)
  |1=>(FN "is_whole" zbc .none kV1 dc1 pm1 an1 cd1 ct1)
  |2=>(FN "is_letter" zaW .none kV2 dc2 pm2 an2 cd2 ct2)
  |3=>(FN "is_row" zc3 .none kV3 dc3 pm3 an3 cd3 ct3)
  |4=>(FN "has_form" zaI .none kV4 dc4 pm4 an4 cd4 ct4)
  |5=>(FN "is_named" zaM .none kV5 dc5 pm5 an5 cd5 ct5)
  |6=>(FN "is_operand" zaQ .none kV6 dc6 pm6 an6 cd6 ct6)
  |7=>(FN "is_cell" zbK .none kV7 dc7 pm7 an7 cd7 ct7)
  |8=>(FN "is_lettered" zan .none kV8 dc8 pm8 an8 cd8 ct8)
  |9=>(FM "__init__" "Machine.__init__" zK .none kV9 dc9 pm9 an9 cd9 ct9)
  |10=>(FM "put" "Machine.put" zR .none kV10 dc10 pm10 an10 cd10 ct10)
  |11=>(FM "word" "Machine.word" zZ .none kV11 dc11 pm11 an11 cd11 ct11)
  |12=>(FM "mark" "Machine.mark" z6 .none kV12 dc12 pm12 an12 cd12 ct12)
  |13=>(FM "do" "Machine.do" zag .none kV13 dc13 pm13 an13 cd13 ct13)
  |14=>(FM "run" "Machine.run" z8 .none kV14 dc14 pm14 an14 cd14 ct14)
  |15=>(FM "held_in" "Machine.held_in" zN .none kV15 dc15 pm15 an15 cd15 ct15)
  |16=>(FM "go_row" "Machine.go_row" zS .none kV16 dc16 pm16 an16 cd16 ct16)
  |17=>(FN "known_cell" zaS .none kV17 dc17 pm17 an17 cd17 ct17)
  |18=>(FN "refuse_row" zaO .none kV18 dc18 pm18 an18 cd18 ct18)
  |19=>(FN "_law_fresh" zdJ .none kV19 dc19 pm19 an19 cd19 ct19)
  |20=>(FN "_law_mixed" zcR .none kV20 dc20 pm20 an20 cd20 ct20)
  |21=>(FN "_law_fill" zdz .none kV21 dc21 pm21 an21 cd21 ct21)
  |22=>(FN "_law_take" zd8 .none kV22 dc22 pm22 an22 cd22 ct22)
  |23=>(FN "_law_two_to" zca .none kV23 dc23 pm23 an23 cd23 ct23)
  |24=>(FN "_law_whole" zbU .none kV24 dc24 pm24 an24 cd24 ct24)
  |25=>(FN "_law_letter" zbv .none kV25 dc25 pm25 an25 cd25 ct25)
  |26=>(FN "_law_some_letter" zaE .none kV26 dc26 pm26 an26 cd26 ct26)
  |27=>(FN "_law_some_cell" zaR .none kV27 dc27 pm27 an27 cd27 ct27)
  |28=>(FN "_law_some_word" za4 .none kV28 dc28 pm28 an28 cd28 ct28)
  |29=>(FN "_law_some_row" zaX .none kV29 dc29 pm29 an29 cd29 ct29)
  |30=>(FN "_law_some_cells" zas .none kV30 dc30 pm30 an30 cd30 ct30)
  |31=>(FN "_law_is_cell" zaL .none kV31 dc31 pm31 an31 cd31 ct31)
  |32=>(FN "_law_is_row" zaA .none kV32 dc32 pm32 an32 cd32 ct32)
  |33=>(FN "_law_strange" za9 .none kV33 dc33 pm33 an33 cd33 ct33)
  |34=>(FN "_law_spoilt_tuple" zT .none kV34 dc34 pm34 an34 cd34 ct34)
  |35=>(FN "_law_spoilt_row" z7 .none kV35 dc35 pm35 an35 cd35 ct35)
  |36=>(FN "_law_kind" zaz .none kV36 dc36 pm36 an36 cd36 ct36)
  |37=>(FN "_law_asked" zcm .none kV37 dc37 pm37 an37 cd37 ct37)
  |38=>(FN "_law_stays" zcu .none kV38 dc38 pm38 an38 cd38 ct38)
  |39=>(FN "_law_put_due" zbh .none kV39 dc39 pm39 an39 cd39 ct39)
  |40=>(FN "_law_bad" zdr .none kV40 dc40 pm40 an40 cd40 ct40)
  |41=>(FN "law" zbO .none kV41 dc41 pm41 an41 cd41 ct41)
  |_=>(FN "law" zbO .none kV41 dc41 pm41 an41 cd41 ct41)):={
  F0:=za8 (st:=zcF) (ps:=["w"]) X G a0 l0 c0 p0 (by nofun)
  F1:=za8 (st:=zbc) (ps:=["thing","low","high"]) X G a1 l1 c1 p1 fun _ _ _ _ _ _ us hl=>match us,hl with | [_,_,_],_=>rfl
  F2:=za8 (st:=zaW) (ps:=["thing"]) X G a2 l2 c2 p2 (by nofun)
  F3:=za8 (st:=zc3) (ps:=["thing"]) X G a3 l3 c3 p3 (by nofun)
  F4:=za8 (st:=zaI) (ps:=["thing","told"]) X G a4 l4 c4 p4 (by trivial)
  F5:=za8 (st:=zaM) (ps:=["thing"]) X G a5 l5 c5 p5 (by nofun)
  F6:=za8 (st:=zaQ) (ps:=["kind","thing","told"]) X G a6 l6 c6 p6 fun _ _ _ _ _ _ us hl=>match us,hl with | [_,_,_],_=>rfl
  F7:=za8 (st:=zbK) (ps:=["thing"]) X G a7 l7 c7 p7 (by nofun)
  F8:=za8 (st:=zan) (ps:=["thing"]) X G a8 l8 c8 p8 (by nofun)
  F9:=⟨zbx (st:=zK) l9 c9 p9,(zbx (st:=zK) l9 c9 p9).binds (ps:=["self","w"]) (by trivial)⟩
  K20:=⟨mk_20,a9,i9,kc_20⟩
  F10:=⟨zbx (st:=zR) l10 c10 p10,(zbx (st:=zR) l10 c10 p10).binds (ps:=["self","letter","at","word"]) fun _ _ _ _ _ _ us hl=>match us,hl with | [_,_,_,_],_=>rfl⟩
  M10:=⟨a10,i10,p10⟩
  F11:=⟨zbx (st:=zZ) l11 c11 p11,(zbx (st:=zZ) l11 c11 p11).binds (ps:=["self","letter","at"]) fun _ _ _ _ _ _ us hl=>match us,hl with | [_,_,_],_=>rfl⟩
  M11:=⟨a11,i11,p11⟩
  F12:=⟨zbx (st:=z6) l12 c12 p12,(zbx (st:=z6) l12 c12 p12).binds (ps:=["self"]) (by nofun)⟩
  M12:=⟨a12,i12,p12⟩
  F13:=⟨zbx (st:=zag) l13 c13 p13,(zbx (st:=zag) l13 c13 p13).binds (ps:=["self","row"]) (by trivial)⟩
  M13:=⟨a13,i13,p13⟩
  F14:=⟨zbx (st:=z8) l14 c14 p14,(zbx (st:=z8) l14 c14 p14).binds (ps:=["self","rows"]) (by trivial)⟩
  M14:=⟨a14,i14,p14⟩
  F15:=⟨zbx (st:=zN) l15 c15 p15,(zbx (st:=zN) l15 c15 p15).binds (ps:=["self","cell"]) (by trivial)⟩
  M15:=⟨a15,i15,p15⟩
  F16:=⟨zbx (st:=zS) l16 c16 p16,(zbx (st:=zS) l16 c16 p16).binds (ps:=["self","row"]) (by trivial)⟩
  M16:=⟨a16,i16,p16⟩
  F17:=za8 (st:=zaS) (ps:=["letter","at"]) X G a17 l17 c17 p17 (by trivial)
  F18:=za8 (st:=zaO) (ps:=["thing"]) X G a18 l18 c18 p18 (by nofun)
  F19:=za8 (st:=zdJ) (ps:=["_law_script"]) X G a19 l19 c19 p19 (by nofun)
  F20:=za8 (st:=zcR) (ps:=["_law_seed"]) X G a20 l20 c20 p20 (by nofun)
  F21:=za8 (st:=zdz) (ps:=["_law_state"]) X G a21 l21 c21 p21 (by nofun)
  F22:=za8 (st:=zd8) (ps:=["_law_state","_law_many"]) X G a22 l22 c22 p22 (by trivial)
  F23:=za8 (st:=zca) (ps:=["_law_many"]) X G a23 l23 c23 p23 (by nofun)
  F24:=za8 (st:=zbU) (ps:=["_law_thing"]) X G a24 l24 c24 p24 (by nofun)
  F25:=za8 (st:=zbv) (ps:=["_law_thing"]) X G a25 l25 c25 p25 (by nofun)
  F26:=za8 (st:=zaE) (ps:=["_law_state"]) X G a26 l26 c26 p26 (by nofun)
  F27:=za8 (st:=zaR) (ps:=["_law_state"]) X G a27 l27 c27 p27 (by nofun)
  F28:=za8 (st:=za4) (ps:=["_law_state","_law_wide"]) X G a28 l28 c28 p28 (by trivial)
  F29:=za8 (st:=zaX) (ps:=["_law_state","_law_cells"]) X G a29 l29 c29 p29 (by trivial)
  F30:=za8 (st:=zas) (ps:=["_law_state","_law_many"]) X G a30 l30 c30 p30 (by trivial)
  F31:=za8 (st:=zaL) (ps:=["_law_thing"]) X G a31 l31 c31 p31 (by nofun)
  F32:=za8 (st:=zaA) (ps:=["_law_row"]) X G a32 l32 c32 p32 (by nofun)
  F33:=za8 (st:=za9) (ps:=["_law_state"]) X G a33 l33 c33 p33 (by nofun)
  F34:=za8 (st:=zT) (ps:=["_law_state","_law_told"]) X G a34 l34 c34 p34 (by trivial)
  F35:=za8 (st:=z7) (ps:=["_law_state","_law_row"]) X G a35 l35 c35 p35 (by trivial)
  F36:=za8 (st:=zaz) (ps:=["_law_e"]) X G a36 l36 c36 p36 (by nofun)
  F37:=za8 (st:=zcm) (ps:=["_law_machine","_law_way","_law_thing"]) X G a37 l37 c37 p37 fun _ _ _ _ _ _ us hl=>match us,hl with | [_,_,_],_=>rfl
  F38:=za8 (st:=zcu) (ps:=["_law_machine","_law_cells","_law_kept_here","_law_mark"]) X G a38 l38 c38 p38 fun _ _ _ _ _ _ us hl=>match us,hl with | [_,_,_,_],_=>rfl
  F39:=za8 (st:=zbh) (ps:=["_law_letter_here","_law_at","_law_word","_law_wide"]) X G a39 l39 c39 p39 fun _ _ _ _ _ _ us hl=>match us,hl with | [_,_,_,_],_=>rfl
  F40:=za8 (st:=zdr) (ps:=["_law_state","_law_cells"]) X G a40 l40 c40 p40 (by trivial)
  F41:=za8 (st:=zbO) (ps:=["_law_script"]) X G a41 l41 c41 p41 (by nofun)
  z_ValueError:=PySem.W.mg_none_of X G z_ValueError
  z_all:=PySem.W.mg_none_of X G z_all
  z_bool:=PySem.W.mg_none_of X G z_bool
  z_enumerate:=PySem.W.mg_none_of X G z_enumerate
  z_int:=PySem.W.mg_none_of X G z_int
  z_isinstance:=PySem.W.mg_none_of X G z_isinstance
  z_len:=PySem.W.mg_none_of X G z_len
  z_list:=PySem.W.mg_none_of X G z_list
  z_min:=PySem.W.mg_none_of X G z_min
  z_range:=PySem.W.mg_none_of X G z_range
  z_str:=PySem.W.mg_none_of X G z_str
  z_tuple:=PySem.W.mg_none_of X G z_tuple
  z_zip:=PySem.W.mg_none_of X G z_zip
  k_bool:=⟨k_bool_n,k_bool_b,k_bool_i,k_bool_s,k_bool_p,k_bool_l⟩
  k_int:=⟨k_int_n,k_int_b,k_int_i,k_int_s,k_int_p,k_int_l⟩
  k_str:=⟨k_str_n,k_str_b,k_str_i,k_str_s,k_str_p,k_str_l⟩
  k_tuple:=⟨k_tuple_n,k_tuple_b,k_tuple_i,k_tuple_s,k_tuple_p,k_tuple_l⟩
  d_ROWS:=⟨gRy,_,_,PySem.W.mg_of X G gRa,gRl,gRs,.cons (x:=.ref gR0_y0) rfl (fun B φ H=>zcH (xs:=[.str "cell",.str "figure"]) gR0_l0 (Nat.le_of_ble_eq_true rfl) (.cons ⟨_,rfl⟩ (.cons ⟨_,rfl⟩ .nil)) (z5 (by simp only [ye]) (z5 (by simp only [ye]) zcc))) (.cons (x:=.ref gR1_y0) rfl (fun B φ H=>zcH (xs:=[.str "cell",.str "cell"]) gR1_l0 (Nat.le_of_ble_eq_true rfl) (.cons ⟨_,rfl⟩ (.cons ⟨_,rfl⟩ .nil)) (z5 (by simp only [ye]) (z5 (by simp only [ye]) zcc))) (.cons (x:=.ref gR2_y0) rfl (fun B φ H=>zcH (xs:=[.str "cell",.str "cell"]) gR2_l0 (Nat.le_of_ble_eq_true rfl) (.cons ⟨_,rfl⟩ (.cons ⟨_,rfl⟩ .nil)) (z5 (by simp only [ye]) (z5 (by simp only [ye]) zcc))) (.cons (x:=.ref gR3_y0) rfl (fun B φ H=>zcH (xs:=[.str "cell",.str "cell",.str "cell"]) gR3_l0 (Nat.le_of_ble_eq_true rfl) (.cons ⟨_,rfl⟩ (.cons ⟨_,rfl⟩ (.cons ⟨_,rfl⟩ .nil))) (z5 (by simp only [ye]) (z5 (by simp only [ye]) (z5 (by simp only [ye]) zcc)))) (.cons (x:=.ref gR4_y0) rfl (fun B φ H=>zcH (xs:=[.str "cell",.str "cell",.str "cell"]) gR4_l0 (Nat.le_of_ble_eq_true rfl) (.cons ⟨_,rfl⟩ (.cons ⟨_,rfl⟩ (.cons ⟨_,rfl⟩ .nil))) (z5 (by simp only [ye]) (z5 (by simp only [ye]) (z5 (by simp only [ye]) zcc)))) (.cons (x:=.ref gR5_y0) rfl (fun B φ H=>zcH (xs:=[.str "cell",.str "cell",.str "cell"]) gR5_l0 (Nat.le_of_ble_eq_true rfl) (.cons ⟨_,rfl⟩ (.cons ⟨_,rfl⟩ (.cons ⟨_,rfl⟩ .nil))) (z5 (by simp only [ye]) (z5 (by simp only [ye]) (z5 (by simp only [ye]) zcc)))) (.cons (x:=.ref gR6_y0) rfl (fun B φ H=>zcH (xs:=[.str "cell",.str "cell",.str "cell"]) gR6_l0 (Nat.le_of_ble_eq_true rfl) (.cons ⟨_,rfl⟩ (.cons ⟨_,rfl⟩ (.cons ⟨_,rfl⟩ .nil))) (z5 (by simp only [ye]) (z5 (by simp only [ye]) (z5 (by simp only [ye]) zcc)))) (.cons (x:=.ref gR7_y0) rfl (fun B φ H=>zcH (xs:=[.str "cell",.str "cell",.str "cell"]) gR7_l0 (Nat.le_of_ble_eq_true rfl) (.cons ⟨_,rfl⟩ (.cons ⟨_,rfl⟩ (.cons ⟨_,rfl⟩ .nil))) (z5 (by simp only [ye]) (z5 (by simp only [ye]) (z5 (by simp only [ye]) zcc)))) (.cons (x:=.ref gR8_y0) rfl (fun B φ H=>zcH (xs:=[.str "cell",.str "cell"]) gR8_l0 (Nat.le_of_ble_eq_true rfl) (.cons ⟨_,rfl⟩ (.cons ⟨_,rfl⟩ .nil)) (z5 (by simp only [ye]) (z5 (by simp only [ye]) zcc))) (.cons (x:=.ref gR9_y0) rfl (fun B φ H=>zcH (xs:=[.str "cell",.str "cell"]) gR9_l0 (Nat.le_of_ble_eq_true rfl) (.cons ⟨_,rfl⟩ (.cons ⟨_,rfl⟩ .nil)) (z5 (by simp only [ye]) (z5 (by simp only [ye]) zcc))) (.cons (x:=.ref gR10_y0) rfl (fun B φ H=>zcH (xs:=[.str "cell",.str "cell",.str "cell",.str "cell"]) gR10_l0 (Nat.le_of_ble_eq_true rfl) (.cons ⟨_,rfl⟩ (.cons ⟨_,rfl⟩ (.cons ⟨_,rfl⟩ (.cons ⟨_,rfl⟩ .nil)))) (z5 (by simp only [ye]) (z5 (by simp only [ye]) (z5 (by simp only [ye]) (z5 (by simp only [ye]) zcc))))) (.cons (x:=.ref gR11_y0) rfl (fun B φ H=>zcH (xs:=[.str "figure"]) gR11_l0 (Nat.le_of_ble_eq_true rfl) (.cons ⟨_,rfl⟩ .nil) (z5 (by simp only [ye]) zcc)) (.cons (x:=.ref gR12_y0) rfl (fun B φ H=>zcH (xs:=[.str "cell"]) gR12_l0 (Nat.le_of_ble_eq_true rfl) (.cons ⟨_,rfl⟩ .nil) (z5 (by simp only [ye]) zcc)) (.nil))))))))))))),by decide +kernel⟩
  L20:=⟨pg_20,hd_20,po_20,sa_20⟩
  n_20:=PySem.W.mg_of X G n_20
  A20_marked:=nf_20_marked
  A20_w:=nf_20_w
  A20_words:=nf_20_words
  n_0:=PySem.W.mg_of X G n_0
  n_1:=PySem.W.mg_of X G n_1
  n_2:=PySem.W.mg_of X G n_2
  n_3:=PySem.W.mg_of X G n_3
  n_4:=PySem.W.mg_of X G n_4
  n_5:=PySem.W.mg_of X G n_5
  n_6:=PySem.W.mg_of X G n_6
  n_7:=PySem.W.mg_of X G n_7
  n_8:=PySem.W.mg_of X G n_8
  n_9:=PySem.W.mg_of X G n_9
  n_10:=PySem.W.mg_of X G n_10
  n_11:=PySem.W.mg_of X G n_11
  n_12:=PySem.W.mg_of X G n_12
  n_13:=PySem.W.mg_of X G n_13
  n_14:=PySem.W.mg_of X G n_14
  r_2:=⟨PySem.W.mg_of X G n_2,e_2⟩
  t_2:=t_2
  x_2:=⟨xa_2,xh_2,xc_2,xs_2,xo_2,zgR xd_2⟩
  i_2_0:=i_2_0
  i_2_1:=i_2_1
  i_2_2:=i_2_2
  i_2_3:=i_2_3
  i_2_4:=i_2_4
  i_2_5:=i_2_5
  i_2_6:=i_2_6
  i_2_7:=i_2_7
  i_2_8:=i_2_8
  i_2_9:=i_2_9
  i_2_10:=i_2_10
  i_2_11:=i_2_11
  i_2_12:=i_2_12
  i_2_13:=i_2_13
  i_2_v:=i_2_v
  r_3:=⟨PySem.W.mg_of X G n_3,e_3⟩
  t_3:=t_3
  x_3:=⟨xa_3,xh_3,xc_3,xs_3,xo_3,zgR xd_3⟩
  i_3_0:=i_3_0
  i_3_1:=i_3_1
  i_3_2:=i_3_2
  i_3_3:=i_3_3
  i_3_4:=i_3_4
  i_3_5:=i_3_5
  i_3_6:=i_3_6
  i_3_7:=i_3_7
  i_3_8:=i_3_8
  i_3_9:=i_3_9
  i_3_10:=i_3_10
  i_3_11:=i_3_11
  i_3_12:=i_3_12
  i_3_13:=i_3_13
  i_3_v:=i_3_v
  r_4:=⟨PySem.W.mg_of X G n_4,e_4⟩
  t_4:=t_4
  x_4:=⟨xa_4,xh_4,xc_4,xs_4,xo_4,zgR xd_4⟩
  i_4_0:=i_4_0
  i_4_1:=i_4_1
  i_4_2:=i_4_2
  i_4_3:=i_4_3
  i_4_4:=i_4_4
  i_4_5:=i_4_5
  i_4_6:=i_4_6
  i_4_7:=i_4_7
  i_4_8:=i_4_8
  i_4_9:=i_4_9
  i_4_10:=i_4_10
  i_4_11:=i_4_11
  i_4_12:=i_4_12
  i_4_13:=i_4_13
  i_4_v:=i_4_v
 }
 exact ⟨_,fun s v=>.of_eq rfl,fun base XB _=>(zL Z 12 41 _ rfl).imp fun _ _ _ _ h=>h _⟩
theorem walk {l:PySem.W.OpenLaw}{q:Program}{loose:List Str}{XP:(Str->Option Value)->Heap->Prop}{YP:World->Heap->Prop}{d:DefRec}{K:Params->PySem.W.Frag}(hn:l.most=some 63)(hdf:d.params.defaults=[])
  (hY:∀(w:World) (h:Heap),YP w h->(K w.params).In h)
  (F:∀(w:World) (mg:Str->Option Value) (fa:Addr) (h:Heap),(K w.params).In h->h.Ns mainGlobals mg->mg d.name=some (.ref fa) ->
   ∃fd:FuncData,(∀(s:Shared) (u:Value),BindsTo s fd ⟨[u],[]⟩ [("_law_script",u)])/\∀base:Heap,(K w.params).In base->base.Ns mainGlobals mg->yaE l.prog w (K w.params) mg base (CX1 l.prog w) 24 fa fd ["_law_script"] (spX (K w.params) (yd T 12) zjU)) :
  PySem.W.WalkO q loose XP YP l.row.toRowW d [] (fun f vs=>PySem.call f vs) :=
 L2.walk_of (n:=63) (k:=24) (x:="_law_script") (CX:=fun w=>CX1 l.prog w) (sp:=fun w=>spX (K w.params) (yd T 12) zjU) hn (by decide) hdf ⟨rfl,by decide,by decide⟩ hY F (fun w H a ns hl _ hS=>zjR zmp hl hS) fun _ _ _ _ _ z=>zpn z
end WK
open PySem PySem.W PyProof.Rows
namespace PySem.W.Fast
def tw10333657297785633403:=Nat
def tw9804691619159231589:=Nat
def tw1318152689955960829:=Nat
def tw16814485649737132307:=Nat
def tw13433774907575847239:=Nat
def tw16846085852498012144:=Nat
def tw6217972743099757928:=Nat
def tw16588848218330381587:=Nat
def tw5439607638706602203:=Nat
def tw7035586681763235857:=Nat
def tw6840314174464851139:=Nat
def tw5075671389428125999:=Nat
def tw8745561101741446500:=Nat
def tw4617545551775000197:=Nat
def tw2522879941086415764:=Nat
def tw17892635040311821252:=Nat
def tw11864399528851087390:=Nat
def tw1058528294468764124:=Nat
def tw143166619666309160:=Nat
def tw13019251472666895995:=Nat
def tw17230405123927655587:=Nat
def tw47203594070201491:=Nat
def tw14809521755598848787:=Nat
def tw8669056751765966806:=Nat
def tw16082748491533708052:=Nat
def tw7867965606906226005:=Nat
def tw3129190067371426012:=Nat
def tw9838351733431131912:=Nat
def tw7734582007382472272:=Nat
def tw6774549757458314933:=Nat
def tw2158491532512437263:=Nat
def tw3568355972562179069:=Nat
def tw10740464296252393507:=Nat
def tw2404871498892207042:=Nat
def tw8158005877012005336:=Nat
def tw10008479373616020920:=Nat
def tw7795677656432058809:=Nat
def tw10623253757055440198:=Nat
def tw6039063008050111234:=Nat
def tw7456259726198434727:=Nat
def tw12168153901039311998:=Nat
def tw4490531901861299733:=Nat
def tw6517014444163892915:=Nat
def tw12936167508679171088:=Nat
def tw11371619045871737979:=Nat
def tw10481579186649146700:=Nat
def tw3118324264530828746:=Nat
def tw16234833676377613202:=Nat
def tw7401497976485865766:=Nat
def tw3180794735257907810:=Nat
def tw14239018709787469816:=Nat
def tw774676193990653122:=Nat
def tw2869848308391831456:=Nat
def tw603319055725971204:=Nat
def tw2600326768970583055:=Nat
def tw9702136908573604497:=Nat
def tw14640173776677229248:=Nat
def tw4684817364154075965:=Nat
def tw14548905753198399996:=Nat
def tw13490550012472105484:=Nat
def tw3912817258570955327:=Nat
def tw10339345962290352771:=Nat
def tw5182558007953521318:=Nat
def tw6512830243429041356:=Nat
def tw8633659758922260973:=Nat
def tw919408780679383420:=Nat
def tw3925803610498142806:=Nat
def tw4915083275959203959:=Nat
def tw15397281085542220490:=Nat
def tw3521282562684079600:=Nat
def tw16567477913275476581:=Nat
def tw15932270235765748414:=Nat
def tw1895459751668257407:=Nat
def tw9378264588840717701:=Nat
def tw12089638199317945680:=Nat
def tw5482450705656066183:=Nat
def tw1907427389997369439:=Nat
def tw4699420578950618177:=Nat
def tw14975995881712361671:=Nat
def tw10868527751884891769:=Nat
def tw2328990741271083308:=Nat
def tw10322953768677212581:=Nat
def tw12533362046994247180:=Nat
def tw12831322076759020668:=Nat
def tw15377296201708075590:=Nat
def tw9926866408558439376:=Nat
def tw3580407132154113197:=Nat
def tw14405006875251514401:=Nat
def tw11783650243565452016:=Nat
def tw1114817630871837628:=Nat
def tw8585788440806850376:=Nat
def tw11330722188848367198:=Nat
def tw17824434261893847024:=Nat
def tw1946664757749860935:=Nat
def tw5938995470541429586:=Nat
def tw15383530417095199102:=Nat
def tw9207540084587667063:=Nat
def tw15948227436060626739:=Nat
def tw16818920626289062742:=Nat
def tw9331801435053497282:=Nat
def tw3834301868865525391:=Nat
def tw10873969783288004062:=Nat
def tw16328948787181322928:=Nat
def tw667003880673493151:=Nat
def tw5345251293305764961:=Nat
def tw9385054494213261765:=Nat
def tw5624037800423946:=Nat
def tw16849465676220542636:=Nat
def tw7704686588384669594:=Nat
def tw1342488102207737531:=Nat
def tw12551268454074456518:=Nat
def tw4355463835715589844:=Nat
def tw14490133416051348530:=Nat
def tw15675578909872992918:=Nat
def tw919136278297554853:=Nat
def tw12100224372869268249:=Nat
def tw3967895919878778758:=Nat
def tw2907463759732530262:=Nat
def tw16009527471517969005:=Nat
def tw2999377952718705060:=Nat
def tw4176677857790840471:=Nat
def tw3968186328577725262:=Nat
def tw8627600208000005649:=Nat
def tw1401182476927372668:=Nat
def tw136390624484047645:=Nat
def tw3629032385574045807:=Nat
def tw14641562315790685955:=Nat
def tw18198818799340817813:=Nat
def tw6950075379804920913:=Nat
def tw7806581197940945783:=Nat
def tw14555769198980802523:=Nat
def tw1601009208556484760:=Nat
def tw4244741389257253038:=Nat
def tw3624723117413423126:=Nat
def tw15330498525755098398:=Nat
def tw9855302871478497344:=Nat
def tw15200979141683590455:=Nat
def tw3999092741818612064:=Nat
def tw17297884112000381292:=Nat
def tw5224573157468424934:=Nat
def tw13657093277203542277:=Nat
def tw2580888961126072964:=Nat
def tw13846732817229590798:=Nat
def tw2449060889712230783:=Nat
def tw9122123854950924854:=Nat
def tw8071660574285543787:=Nat
def tw14684289382978788944:=Nat
def tw2438580284591442805:=Nat
def tw5141132786873897093:=Nat
def tw14213716489466735647:=Nat
def tw15965949500773556152:=Nat
def tw462264217532562461:=Nat
def tw9247048621339263095:=Nat
def tw12055589084579168153:=Nat
def tw7952684027844847734:=Nat
def tw14682737819968176357:=Nat
def tw4360043913872019633:=Nat
def tw4346201472539056166:=Nat
def tw458837616397915020:=Nat
def tw1394762522140574211:=Nat
def tw9722380873891709253:=Nat
def tw16041244390853982152:=Nat
def tw10785084985050534877:=Nat
def tw5824319869049600748:=Nat
def tw17732463264005167567:=Nat
def tw653632227167629395:=Nat
def tw13979413430935149933:=Nat
def tw4848659086052515362:=Nat
def tw14366969578584298211:=Nat
def tw14950809041678533720:=Nat
def tw17935725255503609926:=Nat
def tw3358405791206717782:=Nat
def tw18443605847265390160:=Nat
def tw3909409944755896932:=Nat
def tw3035955680812538669:=Nat
def tw10797302004672775524:=Nat
def tw5650119474113370399:=Nat
def tw13702628255651143107:=Nat
def tw6617636171777081726:=Nat
def tw1476124159772179106:=Nat
def tw7689581102834661622:=Nat
def tw10260065572141529208:=Nat
def tw12689770657050378558:=Nat
def tw12107924066984556823:=Nat
def tw4752283933242720793:=Nat
def tw10509938143945948407:=Nat
def tw17617629534795666110:=Nat
def tw17133711549250333475:=Nat
def tw4323207999190236703:=Nat
def tw18200196065962194119:=Nat
def tw7986013070947720904:=Nat
def tw2763756796389996517:=Nat
def tw4423816528405370977:=Nat
def tw7506066147970384332:=Nat
def tw1768523912832627821:=Nat
def tw5348219110953272368:=Nat
def tw2214817761621316559:=Nat
def tw11506559920100045365:=Nat
def tw14173785514842583977:=Nat
def tw367427092557028144:=Nat
def tw10451851116246497123:=Nat
def tw6920182499060810096:=Nat
def tw11039365684908057131:=Nat
def tw14918117539947723583:=Nat
def tw15191632584865550294:=Nat
def tw3532742896325155699:=Nat
def tw5038362872952821122:=Nat
def tw16890486295202688177:=Nat
def tw15509810664037847488:=Nat
def tw1938865165715810177:=Nat
def tw4464627986658379404:=Nat
def tw8746772955116519093:=Nat
def tw1591133806903037738:=Nat
def tw7977320193143026600:=Nat
def tw14940045877400805009:=Nat
def tw5497705555466439728:=Nat
def tw3071353139958888726:=Nat
def tw14500270745812733013:=Nat
def tw2982811205530188949:=Nat
def tw13515455080600709985:=Nat
def tw5890022972535510616:=Nat
def tw9037898200449709701:=Nat
def tw3641579426716143897:=Nat
def tw9220370241701955966:=Nat
def tw4234129187869232216:=Nat
def tw15611684363248209840:=Nat
def tw4123374244597962800:=Nat
def tw2206824561262397224:=Nat
def tw12039809673345175358:=Nat
def tw5280252465961742329:=Nat
def tw2861981909547834573:=Nat
def tw259578356605364079:=Nat
def tw15977035967072824263:=Nat
def tw11724554523753108153:=Nat
def tw15121477508999263049:=Nat
def tw9218282475988754047:=Nat
def tw13480921078284610370:=Nat
def tw13274194489772200789:=Nat
def tw8083918449749670228:=Nat
def tw15571691433765366929:=Nat
def tw15376860949415047497:=Nat
def tw11211769272344176986:=Nat
def tw17714087640422517297:=Nat
def tw15626593172452216375:=Nat
def tw11305914071528530623:=Nat
def tw16345979358261522283:=Nat
def tw11047101618909623023:=Nat
def tw17811344100192808387:=Nat
def tw12491993821769273645:=Nat
def tw9806035163233671582:=Nat
def tw2375134583151763744:=Nat
def tw6303791367554951295:=Nat
def tw15072410863509586496:=Nat
def tw7868793778859804695:=Nat
def tw1663297894135097866:=Nat
def tw7072267750511894582:=Nat
def tw1669531212887567547:=Nat
def tw9645640865747650526:=Nat
def tw1939294856988354339:=Nat
def tw12384450984277521457:=Nat
def tw12632055658393939427:=Nat
def tw6078592420401998329:=Nat
def tw7858870780055244837:=Nat
def tw3231070223550747878:=Nat
def tw12134052479256886131:=Nat
def tw9963793807318811249:=Nat
def tw15222947927356365785:=Nat
def tw13014671972875704650:=Nat
def tw16103035691370301317:=Nat
def tw6693102549964861865:=Nat
def tw15520457959652006310:=Nat
def tw2186407002374900426:=Nat
def tw11239802188602713174:=Nat
def tw8186712385162835811:=Nat
def tw14626969941741781120:=Nat
def tw14848550286893563061:=Nat
def tw15102757830107305225:=Nat
def tw12530630983718070510:=Nat
def tw13973030679569859219:=Nat
def tw13898891171896071264:=Nat
def tw1047288503865774927:=Nat
def tw16839604545526866567:=Nat
def tw12623028926479439171:=Nat
def tw14725734115077782379:=Nat
def tw8892726175549745902:=Nat
def tw11920205722219848034:=Nat
def tw16235262719895557210:=Nat
def tw7102372265026520944:=Nat
def tw15683363111399161337:=Nat
def tw10353823970406652675:=Nat
def tw11526572587017900867:=Nat
def tw9164883461129141752:=Nat
def tw2548451442514286642:=Nat
def tw12249919878890084401:=Nat
def tw13844436000766459793:=Nat
def tw436301087413902656:=Nat
def tw1826930651968220591:=Nat
def tw6808412628785968883:=Nat
def tw2943803706659769614:=Nat
def tw2145932747556774705:=Nat
def tw13239858330764496578:=Nat
def tw17161348058030611389:=Nat
def tw16672077569193489945:=Nat
def tw10279594129078493193:=Nat
def tw768345902752532001:=Nat
def tw9756722421851396339:=Nat
def tw10190467330139018998:=Nat
def tw6589766008028506806:=Nat
def tw2060187062204884330:=Nat
def tw14360538038840443892:=Nat
def tw12046936574295562239:=Nat
def tw12365976997007556909:=Nat
def tw3492955399176659190:=Nat
def tw1801685699335903166:=Nat
def tw15959000837017757421:=Nat
def tw13437746857108641966:=Nat
def tw2015848945898135569:=Nat
def tw5784798462146370763:=Nat
def tw9303602823922071262:=Nat
def tw3975963974591117388:=Nat
def tw8468157895614016231:=Nat
def tw15300314913764586336:=Nat
def tw12746326007831466389:=Nat
def tw11522744481771251888:=Nat
def tw902320640373523371:=Nat
def tw3360834925492367360:=Nat
def tw17316831238628664639:=Nat
def tw6160622126928228702:=Nat
def tw4600913087662826067:=Nat
def tw7248107325411234632:=Nat
def tw4142202163770120498:=Nat
def tw4506901585151031934:=Nat
def tw9362103300192635810:=Nat
def tw643559396758035291:=Nat
def tw1584281099719785689:=Nat
def tw7667455553114720844:=Nat
def tw141790346442537472:=Nat
def tw1779300741034215549:=Nat
def tw4912958785027627868:=Nat
def tw5894787724385823406:=Nat
def tw16284230339513024201:=Nat
def tw18180220443936127392:=Nat
def tw14054542930957104973:=Nat
def tw7552746575127145709:=Nat
def tw14158541383698339440:=Nat
def tw13493085718079822035:=Nat
def tw13756168876560144819:=Nat
def tw1526661452995936267:=Nat
def tw7354573656562743507:=Nat
def tw9637313077116993881:=Nat
def tw11080381678172785468:=Nat
def tw17568876344612839531:=Nat
def tw120197227790229352:=Nat
def tw1500893663357586375:=Nat
def tw1238867238541021962:=Nat
def tw10233171836993672466:=Nat
def tw1153682094929301069:=Nat
def tw7721047525616181699:=Nat
def tw2733647218623259036:=Nat
def tw16891117079399144208:=Nat
def tw7362963587917906292:=Nat
def tw7847391192877669508:=Nat
def tw12464505388631380755:=Nat
def tw4089154401107272074:=Nat
def tw8195900429498814222:=Nat
def tw14465777115945926195:=Nat
def tw2730487095939293641:=Nat
def tw18407088741870475047:=Nat
end PySem.W.Fast
set_option maxRecDepth 100000 in
set_option maxHeartbeats 0 in
theorem PySem.Challenge.cw_widewords_k08_machine_refuses_holds : PySem.Challenge.rw_widewords_k08_machine_refuses.Holds := by
 w_on;o_law;k_head;(case hw=>w_witness2)
 k_fill
 refine WK.walk (l:=PySem.Challenge.rw_widewords_k08_machine_refuses) rfl rfl (fun w h Y=>PySem.W.kIn_of Y) ?F
 case F =>
  intro w mg fa h KX G hmg
  refine' WK.all_mk KX G hmg ?n_20 ?pg_20 ?hd_20 ?po_20 ?sa_20 ?mk_20 ?kc_20 ?nf_20_marked ?nf_20_w ?nf_20_words ?a0 ?l0 ?c0 ?p0 ?a1 ?l1 ?c1 ?p1 ?a2 ?l2 ?c2 ?p2 ?a3 ?l3 ?c3 ?p3 ?a4 ?l4 ?c4 ?p4 ?a5 ?l5 ?c5 ?p5 ?a6 ?l6 ?c6 ?p6 ?a7 ?l7 ?c7 ?p7 ?a8 ?l8 ?c8 ?p8 ?a9 ?i9 ?l9 ?c9 ?p9 ?a10 ?i10 ?l10 ?c10 ?p10 ?a11 ?i11 ?l11 ?c11 ?p11 ?a12 ?i12 ?l12 ?c12 ?p12 ?a13 ?i13 ?l13 ?c13 ?p13 ?a14 ?i14 ?l14 ?c14 ?p14 ?a15 ?i15 ?l15 ?c15 ?p15 ?a16 ?i16 ?l16 ?c16 ?p16 ?a17 ?l17 ?c17 ?p17 ?a18 ?l18 ?c18 ?p18 ?a19 ?l19 ?c19 ?p19 ?a20 ?l20 ?c20 ?p20 ?a21 ?l21 ?c21 ?p21 ?a22 ?l22 ?c22 ?p22 ?a23 ?l23 ?c23 ?p23 ?a24 ?l24 ?c24 ?p24 ?a25 ?l25 ?c25 ?p25 ?a26 ?l26 ?c26 ?p26 ?a27 ?l27 ?c27 ?p27 ?a28 ?l28 ?c28 ?p28 ?a29 ?l29 ?c29 ?p29 ?a30 ?l30 ?c30 ?p30 ?a31 ?l31 ?c31 ?p31 ?a32 ?l32 ?c32 ?p32 ?a33 ?l33 ?c33 ?p33 ?a34 ?l34 ?c34 ?p34 ?a35 ?l35 ?c35 ?p35 ?a36 ?l36 ?c36 ?p36 ?a37 ?l37 ?c37 ?p37 ?a38 ?l38 ?c38 ?p38 ?a39 ?l39 ?c39 ?p39 ?a40 ?l40 ?c40 ?p40 ?a41 ?l41 ?c41 ?p41 ?z_ValueError ?z_all ?z_bool ?z_enumerate ?z_int ?z_isinstance ?z_len ?z_list ?z_min ?z_range ?z_str ?z_tuple ?z_zip ?k_bool_n ?k_bool_b ?k_bool_i ?k_bool_s ?k_bool_p ?k_bool_l ?k_int_n ?k_int_b ?k_int_i ?k_int_s ?k_int_p ?k_int_l ?k_str_n ?k_str_b ?k_str_i ?k_str_s ?k_str_p ?k_str_l ?k_tuple_n ?k_tuple_b ?k_tuple_i ?k_tuple_s ?k_tuple_p ?k_tuple_l ?n_0 ?n_1 ?n_2 ?n_3 ?n_4 ?n_5 ?n_6 ?n_7 ?n_8 ?n_9 ?n_10 ?n_11 ?n_12 ?n_13 ?n_14 ?e_2 ?t_2 ?xa_2 ?xh_2 ?xc_2 ?xs_2 ?xo_2 ?xd_2 ?i_2_0 ?i_2_1 ?i_2_2 ?i_2_3 ?i_2_4 ?i_2_5 ?i_2_6 ?i_2_7 ?i_2_8 ?i_2_9 ?i_2_10 ?i_2_11 ?i_2_12 ?i_2_13 ?i_2_v ?e_3 ?t_3 ?xa_3 ?xh_3 ?xc_3 ?xs_3 ?xo_3 ?xd_3 ?i_3_0 ?i_3_1 ?i_3_2 ?i_3_3 ?i_3_4 ?i_3_5 ?i_3_6 ?i_3_7 ?i_3_8 ?i_3_9 ?i_3_10 ?i_3_11 ?i_3_12 ?i_3_13 ?i_3_v ?e_4 ?t_4 ?xa_4 ?xh_4 ?xc_4 ?xs_4 ?xo_4 ?xd_4 ?i_4_0 ?i_4_1 ?i_4_2 ?i_4_3 ?i_4_4 ?i_4_5 ?i_4_6 ?i_4_7 ?i_4_8 ?i_4_9 ?i_4_10 ?i_4_11 ?i_4_12 ?i_4_13 ?i_4_v ?gRa ?gRl ?gRs ?gR0_l0 ?gR1_l0 ?gR2_l0 ?gR3_l0 ?gR4_l0 ?gR5_l0 ?gR6_l0 ?gR7_l0 ?gR8_l0 ?gR9_l0 ?gR10_l0 ?gR11_l0 ?gR12_l0
  all_goals try delta WK.aN WK.cN WK.pN WK.lN WK.kO WK.kT WK.fI WK.iF WK.lM
  (case n_20|pg_20|hd_20|po_20|sa_20|mk_20|kc_20|nf_20_marked|nf_20_w|nf_20_words|a0|l0|c0|p0|a1|l1|c1|p1|a2|l2|c2|p2|a3|l3|c3|p3|a4|l4|c4|p4|a5|l5|c5|p5|a6|l6|c6|p6|a7|l7|c7|p7|a8|l8|c8|p8|a9|i9|l9|c9|p9|a10|i10|l10|c10|p10|a11|i11|l11|c11|p11|a12|i12|l12|c12|p12|a13|i13|l13|c13|p13|a14|i14|l14|c14|p14|a15|i15|l15|c15|p15|a16|i16|l16|c16|p16|a17|l17|c17|p17|a18|l18|c18|p18|a19|l19|c19|p19|a20|l20|c20|p20|a21|l21|c21|p21|a22|l22|c22|p22|a23|l23|c23|p23|a24|l24|c24|p24|a25|l25|c25|p25|a26|l26|c26|p26|a27|l27|c27|p27|a28|l28|c28|p28|a29|l29|c29|p29|a30|l30|c30|p30|a31|l31|c31|p31|a32|l32|c32|p32|a33|l33|c33|p33|a34|l34|c34|p34|a35|l35|c35|p35|a36|l36|c36|p36|a37|l37|c37|p37|a38|l38|c38|p38|a39|l39|c39|p39|a40|l40|c40|p40|a41|l41|c41|p41|z_ValueError|z_all|z_bool|z_enumerate|z_int|z_isinstance|z_len|z_list|z_min|z_range|z_str|z_tuple|z_zip=>k_is);(case k_bool_n|k_bool_b|k_bool_i|k_bool_s|k_bool_p|k_bool_l|k_int_n|k_int_b|k_int_i|k_int_s|k_int_p|k_int_l|k_str_n|k_str_b|k_str_i|k_str_s|k_str_p|k_str_l|k_tuple_n|k_tuple_b|k_tuple_i|k_tuple_s|k_tuple_p|k_tuple_l=>kit_is);(case n_0|n_1|n_2|n_3|n_4|n_5|n_6|n_7|n_8|n_9|n_10|n_11|n_12|n_13|n_14=>k_is);(case e_2=>k_exc);(case t_2=>kts_exm)
  (case xa_2|xh_2|xc_2|xs_2|xo_2|xd_2=>k_is);(case i_2_0|i_2_1|i_2_2|i_2_3|i_2_4|i_2_5|i_2_6|i_2_7|i_2_8|i_2_9|i_2_10|i_2_11|i_2_12|i_2_13|i_2_v=>kit_is);(case e_3=>k_exc);(case t_3=>kts_exm);(case xa_3|xh_3|xc_3|xs_3|xo_3|xd_3=>k_is);(case i_3_0|i_3_1|i_3_2|i_3_3|i_3_4|i_3_5|i_3_6|i_3_7|i_3_8|i_3_9|i_3_10|i_3_11|i_3_12|i_3_13|i_3_v=>kit_is);(case e_4=>k_exc);(case t_4=>kts_exm);(case xa_4|xh_4|xc_4|xs_4|xo_4|xd_4=>k_is);(case i_4_0|i_4_1|i_4_2|i_4_3|i_4_4|i_4_5|i_4_6|i_4_7|i_4_8|i_4_9|i_4_10|i_4_11|i_4_12|i_4_13|i_4_v=>kit_is);(case gRa|gRl=>k_is);(case gRs=>rfl);(case gR0_l0|gR1_l0|gR2_l0|gR3_l0|gR4_l0|gR5_l0|gR6_l0|gR7_l0|gR8_l0|gR9_l0|gR10_l0|gR11_l0|gR12_l0=>k_is)
