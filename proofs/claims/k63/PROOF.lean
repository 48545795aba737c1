import PyProof.Rows.All
import Wide.All
import OpenK.AllK
import Wide.FinOn
import Lean
import PyProof.EqAt
import PyProof.EqKinds
import PyProof.TupleCall
import KE.LcSums
import PyProof.ZipIter
import KE.KRevIter
import PyProof.Rows.FactsT2
import PyProof.FactsAll.range_2
import KE.KTryMore
import PyProof.Rows.CountFlat
import PyProof.Rows.SeqMore2
import PySem.Builtin.Int.W1All
import PyProof.FString5
import PyProof.StrLawsIn
import PyProof.StrBlockI
import PyProof.Rows.Range3
import KE.KEqDict
import PyProof.Rows.RowBridgeK
import KE.KxWritten
import PyProof.StrBlock2
import PyProof.ListMulRoad
import PyProof.Rows.ListMulCarried
import PyProof.StrWalks
import PyProof.StrCalls2
import PyProof.StrLawsChain
import PyProof.StrLawsTight
import PyProof.CallStr
import PyProof.Rows.StrJoin2
import PyProof.Rows.StrFin3
import PySem.Challenge.RW_widewords_k63_small_machine
set_option Elab.async false
set_option linter.all false
set_option maxRecDepth 100000
set_option maxHeartbeats 0
namespace L2
open PySem PySem.Spec PyProof.Rows
abbrev Key := Sum Int Str
def keyIs:Key->Value->Bool
 | .inl k,v => Value.isInt k v
 | .inr x,v => Value.isStrOf x v
def keyH (w:World):Key->Int
 | .inl k => hashInt k
 | .inr x => hashStr w x
theorem zI:∀{k:Key} {v:Value},keyIs k v=true->(∃i t,k=Sum.inl i/\v=Value.int i t) \/ (∃x t,k=Sum.inr x/\v=Value.str x t)
 | .inl i,v,h => by
  obtain ⟨t,e⟩ := Value.isInt_shape (k := i) (v := v) h
  exact .inl ⟨i,t,rfl,e⟩
 | .inr x,v,h => by
  obtain ⟨t,e⟩ := Value.isStrOf_shape (x := x) (v := v) h
  exact .inr ⟨x,t,rfl,e⟩
theorem zfr (i:Int)(t:Tok):keyIs (.inl i) (.int i t)=true := by simp [keyIs,Value.isInt]
theorem zfV (x:Str)(t:Tok):keyIs (.inr x) (.str x t)=true := by simp [keyIs,Value.isStrOf]
theorem zjL (a b:Int):decide ((Sum.inl a:Key)=Sum.inl b)=(a == b) := by
 by_cases e:a=b
 ·subst e;simp
 ·have h:¬(Sum.inl a:Key)=Sum.inl b := fun q => e (Sum.inl.inj q)
  rw [decide_eq_false h]
  exact (beq_eq_false_iff_ne.mpr e).symm
theorem zjZ (a b:Str):decide ((Sum.inr a:Key)=Sum.inr b)=decide (a=b) := by
 by_cases e:a=b
 ·subst e;simp
 ·have h:¬(Sum.inr a:Key)=Sum.inr b := fun q => e (Sum.inr.inj q)
  rw [decide_eq_false h,decide_eq_false e]
theorem zjW (a:Int)(b:Str):decide ((Sum.inl a:Key)=Sum.inr b)=false := decide_eq_false (fun q => nomatch q)
theorem zi7 (a:Str)(b:Int):decide ((Sum.inr a:Key)=Sum.inl b)=false := decide_eq_false (fun q => nomatch q)
def mixKind (prog:Program)(w:World):PySem.KeyKind prog w Key where
 is := keyIs
 hash := keyH w
 inj := fun v a b ha hb => by
  rcases zI ha with ⟨i,t,rfl,rfl⟩|⟨x,t,rfl,rfl⟩
  ·rcases zI hb with ⟨j,u,rfl,e⟩|⟨y,u,rfl,e⟩
   ·injection e with e1 _;rw [e1]
   ·exact nomatch e
  ·rcases zI hb with ⟨j,u,rfl,e⟩|⟨y,u,rfl,e⟩
   ·exact nomatch e
   ·injection e with e1 _;rw [e1]
 byValue := fun k v h => by
  rcases zI h with ⟨i,t,rfl,rfl⟩|⟨x,t,rfl,rfl⟩ <;> rfl
 pyHash := fun hv h => by
  rcases zI hv with ⟨i,t,rfl,rfl⟩|⟨x,t,rfl,rfl⟩
  ·exact wpAny_pyHash_int h
  ·exact wpAny_pyHash_str h
 eqBool := fun hu hv h => by
  rcases zI hu with ⟨i,t,rfl,rfl⟩|⟨x,t,rfl,rfl⟩
  ·rcases zI hv with ⟨j,u,rfl,rfl⟩|⟨y,u,rfl,rfl⟩
   ·rw [zjL] at h;exact wpAny_eqBool_int h
   ·rw [zjW] at h;exact SeqAt.EqAt.int_str i t y u _ _ _ _ h
  ·rcases zI hv with ⟨j,u,rfl,rfl⟩|⟨y,u,rfl,rfl⟩
   ·rw [zi7] at h;exact SeqAt.EqAt.str_int x t j u _ _ _ _ h
   ·rw [zjZ] at h;exact wpAny_eqBool_str h
 «strs» := fun k x t v h => by
  rcases zI h with ⟨i,u,rfl,e⟩|⟨y,u,rfl,e⟩
  ·exact nomatch e
  ·injection e with e1 _
   subst e1
   cases v <;> rfl
theorem zdM (prog:Program)(w:World)(i:Int)(t:Tok):(mixKind prog w).is (.inl i) (.int i t)=true := zfr i t
theorem zdT (prog:Program)(w:World)(x:Str)(t:Tok):(mixKind prog w).is (.inr x) (.str x t)=true := zfV x t
inductive V where
 | non|bl (b:Bool)|int (i:Int)|str (x:Str)|byt (b:Array UInt8)|flt (b:UInt64)|ref (a:Addr)|ty (n:String)
 deriving DecidableEq
def RelV:V->Value->Prop
 | .non,u => u=Value.none
 | .bl b,u => u=Value.bool b
 | .int i,u => ∃t,u=Value.int i t
 | .str x,u => ∃t,u=Value.str x t
 | .byt b,u => ∃t,u=Value.bytes b t
 | .flt b,u => ∃t,u=Value.float b t
 | .ref a,u => u=Value.ref a
 | .ty n,u => u=Value.type n
abbrev Vals:List V->List Value->Prop := Paired RelV
theorem Vals.length {xs:List V}{us:List Value}(r:Vals xs us):xs.length=us.length := Paired.length r
theorem Vals.get:∀{xs:List V} {us:List Value} {i:Nat} {x:V},Vals xs us->xs[i]?=some x->∃u,us[i]?=some u/\RelV x u
 |_,_,_,_,.nil,e => by simp at e
 |_,_,0,_,.cons r _,e => by simp at e;subst e;exact ⟨_,rfl,r⟩
 |_,_,i+1,x,.cons _ t,e => by
  obtain ⟨u,h1,h2⟩ := Vals.get (i := i) (x := x) t (by simpa using e)
  exact ⟨u,by simpa using h1,h2⟩
theorem Vals.set {x:V}{u:Value}(r:RelV x u):∀{xs:List V} {us:List Value} (i:Nat),Vals xs us->Vals (xs.set i x) (us.set i u)
 |_,_,_,.nil => .nil
 |_,_,0,.cons _ t => .cons r t
 |_,_,i+1,.cons q t => .cons q (Vals.set r i t)
theorem Vals.append:∀{xs ys:List V} {us ws:List Value},Vals xs us->Vals ys ws->Vals (xs++ys) (us++ws)
 |_,_,_,_,.nil,s => s
 |_,_,_,_,.cons r t,s => .cons r (Vals.append t s)
theorem Vals.take:∀{xs:List V} {us:List Value} (n:Nat),Vals xs us->Vals (xs.take n) (us.take n)
 |_,_,0,_ => .nil
 |_,_,_+1,.nil => .nil
 |_,_,n+1,.cons r t => .cons r (Vals.take n t)
theorem Vals.drop:∀{xs:List V} {us:List Value} (n:Nat),Vals xs us->Vals (xs.drop n) (us.drop n)
 |_,_,0,r => r
 |_,_,_+1,.nil => .nil
 |_,_,n+1,.cons _ t => Vals.drop n t
def RelO:Option V->Option Value->Prop
 |some v,some u => RelV v u
 |none,none => True
 |_,_ => False
def KV {κ:Type}:List (κ×V)->List (κ×Value)->Prop := Paired fun (p:κ×V) (q:κ×Value) => p.1=q.1/\RelV p.2 q.2
def kV:Key->V
 | .inl i => .int i
 | .inr x => .str x
inductive HO where
 | lst (xs:List V)
 | tup (xs:List V)
 | dK (kvs:List (Key×V))|dT (kvs:List (List Key×V))
 | set (S:Int->Bool) (n:Nat)
 | ins (C dx:Addr) (fs:List (Str×V))
 | own (x:Addr)
 | xd (fs:List (Str×V))
 | met (f x:Addr)
 | rng (lo hi:Int)
 | frz (o:Obj) (u:HO)
 | tbl (ps:Array Value)
 | ext (φ:Heap->Prop)
abbrev Hp := Addr->Option HO
def upd (H:Hp)(a:Addr)(o:HO):Hp := fun b => if b=a then some o else H b
theorem zH {H:Hp}{a:Addr}{o:HO}:upd H a o a=some o := by unfold upd;rw [if_pos rfl]
theorem zp {H:Hp}{a b:Addr}{o:HO}(h:b≠a):upd H a o b=H b := by unfold upd;rw [if_neg h]
theorem zx {H:Hp}{a b:Addr}{o:HO}(h:H a=some o)(h':H b=none):a≠b := by
 intro e;subst e;rw [h] at h';cases h'
section
variable (P:Program)(w:World)
def ObjOk (H:Hp)(h:Heap)(a:Addr):HO->Prop
 | .lst xs => xs.length<=sizeLine/\∃(its:List Value) (n:Nat),Vals xs its/\h.get? a=some { cls := .type "list",data := .seq its.toArray n }
 | .tup xs => xs.length<=sizeLine/\∃its:List Value,Vals xs its/\IsTup h a its.toArray
 | .dK kvs => kvs.length<=sizeLine/\(a == sysModules)=false/\∃vs,KV kvs vs/\h.DictOf (mixKind P w) a vs
 | .dT kvs => kvs.length<=sizeLine/\(a == sysModules)=false/\∃xs:List (List Key×Addr×Value),
   Paired (fun (p:List Key×V) (q:List Key×Addr×Value) => p.1=q.1/\H q.2.1=some (.tup (p.1.map kV))/\RelV p.2 q.2.2) kvs xs /\
   ∃o es ep,h.get? a=some o/\o.ExactDict/\o.data=.dict es ep/\es.toList=xs.map (entryOfKey (tupleKind (mixKind P w)))/\(xs.map (·.1)).Nodup
 | .set S n => h.SetOf (intKind P w) a S n
 | .ins C dx fs => H dx=some (.own a)/\fs.length<=1000/\dx≠a/\h.get? a=some (PySem.W.instObj C dx) /\
   ∃mA,h.Ns1 dx mA/\(∀f,RelO (fs.lookup f) (mA f))/\PySem.Within mA (fs.map (·.1))
 | .own _ => ∃o,h.get? a=some o
 | .xd fs => ∃mA,h.Ns1 a mA/\∀f,RelO (fs.lookup f) (mA f)
 | .rng lo hi => ∃t u v,h.get? a=some { cls := .type "range",data := .fields #[.int lo t,.int hi u,.int 1 v] }
 | .frz o u => h.get? a=some o/\ObjOk H h a u
 | .tbl ps => h.get? a=some { cls := .none,data := .fields ps }
 | .met f x => h.get? a=some (PySem.W.methodObj (.ref f) (.ref x))
 | .ext φ => φ h/\(∃o,h.get? a=some o)/\∀h1 h2:Heap,φ h1->(∀o,h1.get? a=some o->h2.get? a=some o)->φ h2
def HOk (H:Hp)(h:Heap):Prop := ∀a o,H a=some o->ObjOk P w H h a o
end
section
variable {P:Program}{w:World}{H H':Hp}{h h':Heap}{a:Addr}{o:HO}
theorem ObjOk.lt (x:ObjOk P w H h a o):a<h.objs.size := by
 cases o with
 |lst xs => obtain ⟨_,_,_,_,e⟩ := x;exact Heap.lt_size e
 |tup xs => obtain ⟨_,_,_,p⟩ := x;exact p.lt
 |dK kvs => obtain ⟨_,_,_,_,o,_,_,e,_⟩ := x;exact Heap.lt_size e
 |dT kvs => obtain ⟨_,_,_,_,o,_,_,e,_⟩ := x;exact Heap.lt_size e
 |set S n => obtain ⟨o,_,_,_,e,_⟩ := x;exact Heap.lt_size e
 |ins C dx fs => obtain ⟨_,_,_,e,_⟩ := x;exact Heap.lt_size e
 |own y => obtain ⟨_,e⟩ := x;exact Heap.lt_size e
 |xd fs => obtain ⟨_,⟨_,_,_,e,_⟩,_⟩ := x;exact Heap.lt_size e
 |rng lo hi => obtain ⟨_,_,_,e⟩ := x;exact Heap.lt_size e
 |frz ob u => obtain ⟨e,_⟩ := x;exact Heap.lt_size e
 |tbl ps => exact Heap.lt_size (show h.get? a=some _ from x)
 |met f y => exact Heap.lt_size (show h.get? a=some _ from x)
 |ext φ => obtain ⟨_,⟨_,e⟩,_⟩ := x;exact Heap.lt_size e
theorem Paired.mapP {α β:Type}{F G:α->β->Prop}:∀{l₁:List α} {l₂:List β},Paired F l₁ l₂->(∀a b,F a b->G a b)->Paired G l₁ l₂
 |_,_,.nil,_ => .nil
 |_,_,.cons r t,f => .cons (f _ _ r) (Paired.mapP t f)
theorem ObjOk.stay (x:ObjOk P w H h a o)(k:∀b u,(b=a \/ H b=some (.own a))->h.get? b=some u->h'.get? b=some u)
  (ho:∀b,H b=some (.own a)->H' b=some (.own a)) (ht:∀b xs,H b=some (.tup xs)->H' b=some (.tup xs)):ObjOk P w H' h' a o := by
 induction o with
 |lst xs => obtain ⟨z,its,n,r,e⟩ := x;exact ⟨z,its,n,r,k _ _ (.inl rfl) e⟩
 |tup xs => obtain ⟨z,its,r,ob,e,c⟩ := x;exact ⟨z,its,r,ob,k _ _ (.inl rfl) e,c⟩
 |dK kvs => obtain ⟨z,y,vs,r,ob,es,ep,e,c⟩ := x;exact ⟨z,y,vs,r,ob,es,ep,k _ _ (.inl rfl) e,c⟩
 |dT kvs =>
  obtain ⟨z,y,xs,r,ob,es,ep,e,c⟩ := x
  exact ⟨z,y,xs,Paired.mapP r fun p q z => ⟨z.1,ht _ _ z.2.1,z.2.2⟩,ob,es,ep,k _ _ (.inl rfl) e,c⟩
 |set S n => obtain ⟨ob,es,ep,t,e,c⟩ := x;exact ⟨ob,es,ep,t,k _ _ (.inl rfl) e,c⟩
 |ins C dx fs =>
  obtain ⟨d,z,ne,e,mA,⟨od,es,ep,e2,c⟩,r⟩ := x
  exact ⟨ho _ d,z,ne,k _ _ (.inl rfl) e,mA,⟨od,es,ep,k _ _ (.inr d) e2,c⟩,r⟩
 |own y => obtain ⟨ob,e⟩ := x;exact ⟨ob,k _ _ (.inl rfl) e⟩
 |xd fs => obtain ⟨mA,⟨od,es,ep,e,c⟩,r⟩ := x;exact ⟨mA,⟨od,es,ep,k _ _ (.inl rfl) e,c⟩,r⟩
 |rng lo hi => obtain ⟨t,u,v,e⟩ := x;exact ⟨t,u,v,k _ _ (.inl rfl) e⟩
 |frz ob u ih => obtain ⟨e,q⟩ := x;exact ⟨k _ _ (.inl rfl) e,ih q⟩
 |tbl ps =>
  have e:h.get? a=some { cls := .none,data := .fields ps } := x
  show h'.get? a=some { cls := .none,data := .fields ps }
  exact k a _ (.inl rfl) e
 |met f y =>
  have e:h.get? a=some (PySem.W.methodObj (.ref f) (.ref y)) := x
  show h'.get? a=some (PySem.W.methodObj (.ref f) (.ref y))
  exact k a _ (.inl rfl) e
 |ext φ => obtain ⟨p,⟨o,e⟩,st⟩ := x;exact ⟨st _ _ p fun o q => k _ _ (.inl rfl) q,⟨o,k _ _ (.inl rfl) e⟩,st⟩
theorem HOk.lt (x:HOk P w H h)(e:H a=some o):a<h.objs.size := (x a o e).lt
theorem HOk.fresh (x:HOk P w H h)(e:h.objs.size<=a):H a=none := by
 cases q:H a with
 |none => rfl
 |some u => exact absurd (Nat.lt_of_lt_of_le (x.lt q) e) (Nat.lt_irrefl _)
theorem HOk.kept (x:HOk P w H h)(k:∀b u,h.get? b=some u->h'.get? b=some u):HOk P w H h' := fun a o e =>
 (x a o e).stay (fun b u _ q => k b u q) (fun _ q => q) fun _ _ q => q
theorem HOk.laid (x:HOk P w H h)(k:∀b u,h.get? b=some u->h'.get? b=some u)(hp:h.objs.size<=a)(new:ObjOk P w (upd H a o) h' a o):HOk P w (upd H a o) h' := fun b u e => by
 have hn := x.fresh hp
 by_cases hb:b=a
 ·subst hb;rw [zH] at e;cases e;exact new
 ·rw [zp hb] at e
  exact (x b u e).stay (fun c v _ q => k c v q) (fun c q => by rw [zp (zx q hn)];exact q) fun c xs q => by rw [zp (zx q hn)];exact q
end
def Rd (H:Hp)(a:Addr)(u:HO):Prop := H a=some u \/ ∃o,H a=some (.frz o u)
theorem Rd.of {H:Hp}{a:Addr}{u:HO}(h:H a=some u):Rd H a u := .inl h
theorem Rd.ok {P:Program}{w:World}{H:Hp}{h:Heap}{a:Addr}{u:HO}(r:Rd H a u)(x:HOk P w H h):ObjOk P w H h a u := by
 rcases r with r|⟨o,r⟩
 ·exact x a u r
 ·obtain ⟨_,q⟩ := x a _ r
  exact q
def Mut:Option HO->Prop
 |some (.lst _) => True
 |some (.dK _) => True
 |some (.dT _) => True
 |some (.set _ _) => True
 |some (.ins _ _ _) => True
 |some (.ext _) => True
 |_ => False
section
variable {P:Program}{w:World}{H:Hp}{h h':Heap}{x e:Addr}{o':HO}
theorem HOk.write (ok:HOk P w H h)(mu:Mut (H x))(he:e=x \/ H e=some (.own x))(k:∀b u,b≠e->h.get? b=some u->h'.get? b=some u)(heo:∃u,h'.get? e=some u)
  (new:ObjOk P w (upd H x o') h' x o'):HOk P w (upd H x o') h' := fun b u q => by
 have nown:∀c y,H c=some (.own y)->c≠x := fun c y r z => by subst z;rw [r] at mu;exact mu
 have ntup:∀c xs,H c=some (.tup xs)->c≠x := fun c xs r z => by subst z;rw [r] at mu;exact mu
 by_cases hb:b=x
 ·subst hb;rw [zH] at q;cases q;exact new
 ·rw [zp hb] at q
  by_cases hbe:b=e
  ·have q':H b=some (.own x) := by
    rcases he with z|z
    ·exact absurd (hbe.trans z) hb
    ·rw [hbe];exact z
   rw [q] at q';cases q'
   obtain ⟨v,hv⟩ := heo
   exact ⟨v,by rw [hbe];exact hv⟩
  ·refine (ok b u q).stay (fun c v hc r => k c v ?_ r) (fun c r => by rw [zp (nown c b r)];exact r) fun c xs r => by rw [zp (ntup c xs r)];exact r
   rcases hc with rfl|hc
   ·exact hbe
   ·rintro rfl
    rcases he with z|z
    ·exact nown c b hc z
    ·rw [hc] at z;cases z;exact hb rfl
end
structure Un (fs ex:List Addr)(H H':Hp)(h h':Heap):Prop where
 keep:∀b o,h.get? b=some o->H b=none->b∉fs->b∉ex->h'.get? b=some o
 slot:∀b o,h.get? b=some o->H b=none->b∈fs->b∉ex->∃sl,h'.get? b=some { o with slots := sl }
 free:∀b o,h.get? b=some o->H b=none->b∉ex->H' b=none
 there:∀b o,h.get? b=some o->b∉ex->∃o',h'.get? b=some o'
 tups:∀b xs,H b=some (.tup xs)->H' b=some (.tup xs)
 frzs:∀b o u,H b=some (.frz o u)->H' b=some (.frz o u)
 tbls:∀b ps,H b=some (.tbl ps)->∃more,H' b=some (.tbl (ps++more))
section
variable {fs fs' ex ex':List Addr}{H H1 H2:Hp}{h h1 h2 h':Heap}{a x e:Addr}{o:HO}
theorem Un.any (u:Un fs ex H H1 h h1){b:Addr}{ob:Obj}(q:h.get? b=some ob)(n:H b=none)(hx:b∉ex):∃sl,h1.get? b=some { ob with slots := sl } := by
 by_cases hb:b∈fs
 ·exact u.slot b ob q n hb hx
 ·exact ⟨ob.slots,u.keep b ob q n hb hx⟩
theorem Un.kept (k:∀b u,h.get? b=some u->h'.get? b=some u):Un fs ex H H h h' :=
 ⟨fun b ob q _ _ _ => k b ob q,fun b ob q _ _ _ => ⟨ob.slots,k b ob q⟩,fun _ _ _ n _ => n,fun b ob q _ => ⟨ob,k b ob q⟩,fun _ _ q => q,fun _ _ _ q => q,fun _ ps q => ⟨#[],by rw [q];simp⟩⟩
theorem Un.refl:Un fs ex H H h h := Un.kept fun _ _ q => q
theorem Un.laid (k:∀b u,h.get? b=some u->h'.get? b=some u)(hp:h.objs.size<=a)(hn:H a=none):Un fs ex H (upd H a o) h h' where
 keep := fun b u q _ _ _ => k b u q
 slot := fun b u q _ _ _ => ⟨u.slots,k b u q⟩
 free := fun b u q n _ => by rw [zp (Nat.ne_of_lt (Nat.lt_of_lt_of_le (Heap.lt_size q) hp))];exact n
 there := fun b u q _ => ⟨u,k b u q⟩
 tups := fun b xs q => by rw [zp (zx q hn)];exact q
 frzs := fun b u xs q => by rw [zp (zx q hn)];exact q
 tbls := fun b ps q => ⟨#[],by rw [zp (zx q hn),q];simp⟩
theorem Un.write (mu:Mut (H x))(he:e=x \/ H e=some (.own x))(k:∀b u,b≠e->h.get? b=some u->h'.get? b=some u)(heo:∃u,h'.get? e=some u):Un fs ex H (upd H x o) h h' := by
 have hx:∀b,H b=none->b≠x := fun b n z => by subst z;rw [n] at mu;exact mu
 have hb:∀b,H b=none->b≠e := fun b n z => by
  subst z
  rcases he with r|r
  ·exact hx b n r
  ·rw [n] at r;cases r
 have hm:∀b u,H b=some u->¬Mut (some u)->b≠x := fun b u q nm z => by subst z;rw [q] at mu;exact nm mu
 refine ⟨fun b u q n _ _ => k b u (hb b n) q,fun b u q n _ _ => ⟨u.slots,k b u (hb b n) q⟩,fun b u q n _ => by rw [zp (hx b n)];exact n,fun b u q _ => ?_,
  fun b xs q => by rw [zp (hm b _ q fun z => z)];exact q,fun b u xs q => by rw [zp (hm b _ q fun z => z)];exact q,fun b ps q => ⟨#[],by rw [zp (hm b _ q fun z => z),q];simp⟩⟩
 by_cases hbe:b=e
 ·subst hbe;exact heo
 ·exact ⟨u,k b u hbe q⟩
end
def trk (h:Heap)(H:Hp):List Addr := (List.range h.objs.size).filter fun a => (H a).isSome
def hidT (h:Heap)(H:Hp):Heap := PySem.W.hideAll h (trk h H)
theorem zga (h:Heap)(H:Hp):(hidT h H).objs.size=h.objs.size := PySem.W.hideAll_size _ _
theorem zgr {h:Heap}{H:Hp}{b:Addr}{o:Obj}(e:h.get? b=some o)(n:H b=none):(hidT h H).get? b=some o :=
 PySem.W.hideAll_get _ e fun hm => by
  have q:(H b).isSome=true := (List.mem_filter.mp hm).2
  rw [n] at q;simp at q
theorem zig {h:Heap}{H:Hp}{b:Addr}{o:Obj}(e:(hidT h H).get? b=some o):h.get? b=some o/\H b=none := by
 have e':h.get? b=some o := PySem.W.of_hideAll (trk h H) e
 refine ⟨e',?_⟩
 cases q:H b with
 |none => rfl
 |some x =>
  have hm:b∈trk h H := List.mem_filter.mpr ⟨List.mem_range.mpr (Heap.lt_size e'),by simp [q]⟩
  have z:(hidT h H).get? b=none := PySem.W.hideAll_none (trk h H) hm
  rw [z] at e;cases e
structure Mod (K:PySem.W.Frag)(mg:Str->Option Value)(base:Heap):Prop where
 kin:K.In base
 glob:base.Ns mainGlobals mg
 blt:∃mb,base.Ns builtinsNs mb/\∀x:Str,x ≠ "__name__"->mb x=bootBuiltins x
 nolimit:base.NoLimit
structure Cx where
 prog:Program
 w:World
 K:PySem.W.Frag
 mg:Str->Option Value
 base:Heap
 A:Around
 N:List Str
 s₀:Shared
 H₀:Hp
 env:Env
 outer:List Env
 stack:List Env
 ex:List Addr
 fn:Str->Bool
 calm:Bool
 pn:List (Addr×Obj)
 xe:Value->Shared->Prop
def frs (l:List Env):List Addr := l.filterMap (·.frame)
abbrev Cx.fs (X:Cx):List Addr := frs X.outer
def Vis (sc:Scope)(x:Str):Prop := sc.names.lookup x=some .local \/ sc.names.lookup x=some .cell \/ sc.names.lookup x=some .free
def Loc (sc:Scope)(x:Str):Prop := sc.names.lookup x=some .local \/ sc.names.lookup x=some .cell
def Look (env:Env)(h:Heap)(m:Str->Option Value)(x:Str)(u:Value):Prop :=
 (env.kindOf x=some .local/\m x=some u) \/ ((env.kindOf x=some .cell \/ env.kindOf x=some .free)/\∃c,env.cells.lookup x=some c/\h.IsCell c (some u))
structure Cx.Ok (X:Cx):Prop where
 mod:Mod X.K X.mg X.base
 kind:X.env.scope.kind=.function
 glob:X.env.globals=mainGlobals
 blt:X.env.builtins=builtinsNs
 above:X.s₀.heap.objs.size<=X.env.locals
 inj:∀x y c,X.env.cells.lookup x=some c->X.env.cells.lookup y=some c->x=y
 has:∀x,(X.env.kindOf x=some .cell \/ X.env.kindOf x=some .free)->∃c,X.env.cells.lookup x=some c
 cab:∀x c,X.fn x=true->X.env.cells.lookup x=some c->X.s₀.heap.objs.size<=c
 hd:X.calm=true->X.A.handled=none
 frames:X.A.frames=some X.stack
 stk:X.stack=X.outer \/ (X.stack=X.env::X.outer/\X.env.frame=some X.env.locals)
 exf:∀b∈X.ex,b≠X.env.locals/\∀x c,X.env.cells.lookup x=some c->c≠b
 bs:∀b o,X.base.get? b=some o->X.s₀.heap.get? b=some o/\X.H₀ b=none
 bsz:X.base.objs.size<=X.s₀.heap.objs.size
 noex:∀b o,X.base.get? b=some o->b∉X.ex
 exfs:∀b∈X.ex,b∉X.fs
 funs:X.s₀.heap.FunFrames X.base X.outer
 frf:∀b∈X.fs,X.H₀ b=none
structure Inv (X:Cx)(pins:List (Addr×Obj))(σ:List (Option V))(H:Hp)(s:Shared):Prop where
 ok:X.Ok
 os:s.os=X.s₀.os
 bare:AllBare s.gens
 base:Un X.fs X.ex X.H₀ H X.s₀.heap s.heap
 loc:∃m,s.heap.Ns X.env.locals m/\∀(i:Nat) (x:Str) (v:V),X.N[i]?=some x->σ[i]?=some (some v)->Vis X.env.scope x->∃u,RelV v u/\Look X.env s.heap m x u
 cell:∀x c,X.env.cells.lookup x=some c->∃v,s.heap.IsCell c v
 free:H X.env.locals=none
 freeC:∀x c,X.env.cells.lookup x=some c->H c=none
 pin:∀p∈X.pn++pins,s.heap.get? p.1=some p.2/\H p.1=none/\p.1≠X.env.locals/\p.1∉X.fs/\∀v,p.2.data ≠ .cell v
 hok:HOk X.prog X.w H s.heap
 len:σ.length=X.N.length
section
variable {X:Cx}{pins:List (Addr×Obj)}{σ:List (Option V)}{H H':Hp}{s:Shared}{h':Heap}
theorem Cx.Ok.nofr (ok:X.Ok){b:Addr}{o:Obj}(e:X.base.get? b=some o):b∉X.fs := fun hb => by
 have := (ok.funs.mem hb).1
 rw [e] at this;cases this
theorem Inv.bs (I:Inv X pins σ H s):∀b o,X.base.get? b=some o->s.heap.get? b=some o/\H b=none := fun b o e =>
 ⟨I.base.keep b o (I.ok.bs b o e).1 (I.ok.bs b o e).2 (I.ok.nofr e) (I.ok.noex b o e),I.base.free b o (I.ok.bs b o e).1 (I.ok.bs b o e).2 (I.ok.noex b o e)⟩
theorem Inv.bk (I:Inv X pins σ H s):∀b o,X.base.get? b=some o->s.heap.get? b=some o := fun b o e => (I.bs b o e).1
theorem Inv.mod (I:Inv X pins σ H s):Mod X.K X.mg X.base := I.ok.mod
theorem Inv.kIn (I:Inv X pins σ H s):X.K.In s.heap := I.ok.mod.kin.keeps I.bk
theorem Inv.lt (I:Inv X pins σ H s):X.env.locals<s.heap.objs.size := let ⟨_,hn,_⟩ := I.loc;hn.lt
theorem Inv.sz (I:Inv X pins σ H s):X.s₀.heap.objs.size<=s.heap.objs.size := Nat.le_trans I.ok.above (Nat.le_of_lt I.lt)
theorem Inv.nofs (I:Inv X pins σ H s){a:Addr}(h:s.heap.objs.size<=a):a∉X.fs := fun hb => by
 obtain ⟨_,o,ho,_⟩ := I.ok.funs.mem hb
 exact absurd (Nat.lt_of_lt_of_le (Heap.lt_size ho) (Nat.le_trans I.sz h)) (Nat.lt_irrefl _)
theorem Inv.cne (I:Inv X pins σ H s):∀x c,X.env.cells.lookup x=some c->c≠X.env.locals := fun x c e z => by
 obtain ⟨v,o,ho,hd⟩ := I.cell x c e
 obtain ⟨m,⟨o',es,ep,ho',hd',_⟩,_⟩ := I.loc
 rw [z,ho'] at ho;cases ho;rw [hd'] at hd;cases hd
theorem Inv.funs (I:Inv X pins σ H s):s.heap.FunFrames X.base X.outer := by
 have all:∀(l:List Env),(∀b∈frs l,b∈X.fs)->X.s₀.heap.FunFrames X.base l->s.heap.FunFrames X.base l := by
  intro l
  induction l with
  |nil => intro _ _;trivial
  |cons env r ih =>
   intro hs hl
   obtain ⟨hk,⟨L,o,hf,hn,ho,hd⟩,hr⟩ := hl
   have hL:L∈X.fs := hs L (by unfold frs;rw [List.filterMap_cons,hf];exact List.mem_cons_self)
   obtain ⟨sl,e⟩ := I.base.slot L o ho (I.ok.frf L hL) hL fun z => I.ok.exfs L z hL
   exact ⟨hk,⟨L,_,hf,hn,e,hd⟩,ih (fun b hb => hs b (by unfold frs;rw [List.filterMap_cons,hf];exact List.mem_cons_of_mem _ hb)) hr⟩
 exact all X.outer (fun _ hb => hb) I.ok.funs
theorem Inv.stack (I:Inv X pins σ H s):s.heap.FunFrames X.base X.stack := by
 rcases I.ok.stk with e|⟨e,hf⟩
 ·rw [e];exact I.funs
 ·rw [e]
  obtain ⟨m,hn,_⟩ := I.loc
  refine .cons (by rw [I.ok.kind];decide) hf hn ?_ I.funs
  exact Heap.get?_none_of_le (Nat.le_trans I.ok.bsz I.ok.above)
theorem Inv.stkSub (I:Inv X pins σ H s):∀b∈frs X.stack,b∈X.env.locals::X.fs := fun b hb => by
 rcases I.ok.stk with e|⟨e,hf⟩
 ·rw [e] at hb;exact List.mem_cons_of_mem _ hb
 ·rw [e] at hb
  unfold frs at hb
  rw [List.filterMap_cons,hf] at hb
  exact hb
theorem Inv.stkFree (I:Inv X pins σ H s):∀b∈frs X.stack,H b=none := fun b hb => by
 rcases List.mem_cons.mp (I.stkSub b hb) with e|hb
 ·rw [e];exact I.free
 ·obtain ⟨_,o,ho,_⟩ := I.ok.funs.mem hb
  exact I.base.free b o ho (I.ok.frf b hb) fun z => I.ok.exfs b z hb
theorem Inv.step {g':Array GenState}{t':Nat}{d':Drawn}{ch:List Addr}(I:Inv X pins σ H s)
  (hch:∀b∈ch,(b∈X.ex \/ X.s₀.heap.objs.size<=b)/\b≠X.env.locals/\(∀x c,X.env.cells.lookup x=some c->c≠b)/\∀p∈X.pn++pins,p.1≠b)
  (keep:∀b o,b≠X.env.locals->b∉X.fs->b∉ch->s.heap.get? b=some o->H b=none->h'.get? b=some o)
  (slot:∀b o,b≠X.env.locals->b∈X.fs->b∉ch->s.heap.get? b=some o->H b=none->∃sl,h'.get? b=some { o with slots := sl }) (free:∀b o,b∉ch->s.heap.get? b=some o->H b=none->H' b=none)
  (there:∀b o,b∉ch->s.heap.get? b=some o->∃o',h'.get? b=some o')
  (tups:∀b xs,H b=some (.tup xs)->H' b=some (.tup xs)) (frzs:∀b o u,H b=some (.frz o u)->H' b=some (.frz o u)) (tbls:∀b ps,H b=some (.tbl ps)->∃more,H' b=some (.tbl (ps++more)))
  (ns:∀m,s.heap.Ns X.env.locals m->h'.Ns X.env.locals m) (hok:HOk X.prog X.w H' h') (hg:AllBare g') :
  Inv X pins σ H' { s with heap := h',gens := g',drawn := d',toks := t' } := by
 have neL:∀b o,X.s₀.heap.get? b=some o->b≠X.env.locals := fun b o e => Nat.ne_of_lt (Nat.lt_of_lt_of_le (Heap.lt_size e) I.ok.above)
 have neC:∀b o,X.s₀.heap.get? b=some o->b∉X.ex->b∉ch := fun b o e hx hb => by
  rcases (hch b hb).1 with z|z
  ·exact hx z
  ·exact absurd (Nat.lt_of_lt_of_le (Heap.lt_size e) z) (Nat.lt_irrefl _)
 have cellK:∀x c,X.env.cells.lookup x=some c->∀v,s.heap.IsCell c v->h'.IsCell c v := fun x c e v ⟨o,ho,hd⟩ => by
  have nch:c∉ch := fun z => (hch c z).2.2.1 x c e rfl
  by_cases hc:c∈X.fs
  ·obtain ⟨sl,q⟩ := slot c o (I.cne x c e) hc nch ho (I.freeC x c e)
   exact ⟨_,q,hd⟩
  ·exact ⟨o,keep c o (I.cne x c e) hc nch ho (I.freeC x c e),hd⟩
 refine ⟨I.ok,I.os,hg,⟨fun b o e n hb hx => ?_,fun b o e n hb hx => ?_,fun b o e n hx => ?_,fun b o e hx => ?_,fun b xs e => tups b xs (I.base.tups b xs e),fun b o xs e => frzs b o xs (I.base.frzs b o xs e),fun b ps e => ?_⟩,?_,fun x c e => ?_,?_,fun x c e => ?_,fun p hp => ?_,hok,I.len⟩
 ·exact keep b o (neL b o e) hb (neC b o e hx) (I.base.keep b o e n hb hx) (I.base.free b o e n hx)
 ·obtain ⟨sl,e1⟩ := I.base.slot b o e n hb hx
  obtain ⟨sl',e2⟩ := slot b _ (neL b o e) hb (neC b o e hx) e1 (I.base.free b o e n hx)
  exact ⟨sl',e2⟩
 ·obtain ⟨o',e1⟩ := I.base.there b o e hx
  exact free b o' (neC b o e hx) e1 (I.base.free b o e n hx)
 ·obtain ⟨o',e1⟩ := I.base.there b o e hx
  exact there b o' (neC b o e hx) e1
 ·obtain ⟨m1,e1⟩ := I.base.tbls b ps e
  obtain ⟨m2,e2⟩ := tbls b _ e1
  exact ⟨m1++m2,by rw [e2,Array.append_assoc]⟩
 ·obtain ⟨m,hn,hl⟩ := I.loc
  refine ⟨m,ns m hn,fun i x v e1 e2 e3 => ?_⟩
  obtain ⟨u,r,l⟩ := hl i x v e1 e2 e3
  refine ⟨u,r,?_⟩
  rcases l with l|⟨k,c,e,z⟩
  ·exact .inl l
  ·exact .inr ⟨k,c,e,cellK x c e _ z⟩
 ·obtain ⟨v,z⟩ := I.cell x c e
  exact ⟨v,cellK x c e v z⟩
 ·obtain ⟨m,⟨o,_,_,ho,_⟩,_⟩ := I.loc
  exact free _ o (fun z => (hch _ z).2.1 rfl) ho I.free
 ·obtain ⟨v,o,ho,hd⟩ := I.cell x c e
  exact free c o (fun z => (hch c z).2.2.1 x c e rfl) ho (I.freeC x c e)
 ·obtain ⟨e,n,ne,nf,d⟩ := I.pin p hp
  have nch:p.1∉ch := fun z => (hch p.1 z).2.2.2 p hp rfl
  exact ⟨keep p.1 p.2 ne nf nch e n,free p.1 p.2 nch e n,ne,nf,d⟩
theorem Inv.un {t':Nat}(I:Inv X pins σ H s)(u:Un X.fs [] H H' s.heap h')(hok:HOk X.prog X.w H' h'):Inv X pins σ H' { s with heap := h',toks := t' } := by
 obtain ⟨m,⟨o,es,ep,ho,r⟩,_⟩ := id I.loc
 obtain ⟨sl,hL⟩ := u.any ho I.free (by simp)
 exact I.step (g' := s.gens) (d' := s.drawn) (ch := []) (fun _ z => nomatch z) (fun b o _ hb _ e n => u.keep b o e n hb (by simp)) (fun b o _ hb _ e n => u.slot b o e n hb (by simp)) (fun b o _ e n => u.free b o e n (by simp)) (fun b o _ e => u.there b o e (by simp)) u.tups u.frzs u.tbls (fun m' hm => by
  obtain ⟨o',es',ep',ho',r'⟩ := hm
  rw [ho] at ho';cases ho'
  exact ⟨_,es',ep',hL,r'⟩) hok I.bare
theorem Inv.call {g':Array GenState}{t':Nat}{d':Drawn}{ch:List Addr}(I:Inv X pins σ H s)(u:Un (frs X.stack) ch H H' s.heap h')(hok:HOk X.prog X.w H' h')(hg:AllBare g')
  (hch:∀b∈ch,(b∈X.ex \/ X.s₀.heap.objs.size<=b)/\b≠X.env.locals/\(∀x c,X.env.cells.lookup x=some c->c≠b)/\∀p∈X.pn++pins,p.1≠b) :
  Inv X pins σ H' { s with heap := h',gens := g',drawn := d',toks := t' } := by
 obtain ⟨m,⟨o,es,ep,ho,r⟩,_⟩ := id I.loc
 obtain ⟨sl,hL⟩ := u.any ho I.free fun z => (hch _ z).2.1 rfl
 exact I.step (ch := ch) hch (fun b o hL hb hc e n => u.keep b o e n (fun z => (List.mem_cons.mp (I.stkSub b z)).elim hL hb) hc) (fun b o _ _ hc e n => u.any e n hc) (fun b o hc e n => u.free b o e n hc) (fun b o hc e => u.there b o e hc) u.tups u.frzs u.tbls (fun m' hm => by
  obtain ⟨o',es',ep',ho',r'⟩ := hm
  rw [ho] at ho';cases ho'
  exact ⟨_,es',ep',hL,r'⟩) hok hg
theorem Inv.turned {t':Nat}{it:Addr}(I:Inv X pins σ H s)(k:∀b o,b≠it->s.heap.get? b=some o->h'.get? b=some o)(hn:H it=none)(hL:it≠X.env.locals)
  (h1:it∈X.ex \/ X.s₀.heap.objs.size<=it) (h2:∀x c,X.env.cells.lookup x=some c->c≠it) (h3:∀p∈X.pn++pins,p.1≠it):Inv X pins σ H { s with heap := h',toks := t' } := by
 have nit:∀b u,H b=some u->b≠it := fun b u e z => by rw [z,hn] at e;cases e
 refine I.step (g' := s.gens) (d' := s.drawn) (ch := [it]) (fun b hb => ?_) (fun b o _ _ hc e _ => k b o (fun z => hc (by simp [z])) e) (fun b o _ _ hc e _ => ⟨o.slots,k b o (fun z => hc (by simp [z])) e⟩) (fun _ _ _ _ n => n)
  (fun b o hc e => ⟨o,k b o (fun z => hc (by simp [z])) e⟩) (fun _ _ e => e) (fun _ _ _ e => e) (fun b ps e => ⟨#[],by rw [e];simp⟩) (fun m hm => ?_) (fun b u e => ?_) I.bare
 ·have e:b=it := by simpa using hb
  subst e
  exact ⟨h1,hL,h2,h3⟩
 ·obtain ⟨o,es,ep,ho,r⟩ := hm
  exact ⟨o,es,ep,k _ o (Ne.symm hL) ho,r⟩
 ·refine (I.hok b u e).stay (fun c v hc q => k c v ?_ q) (fun _ q => q) fun _ _ q => q
  rcases hc with z|z
  ·rw [z];exact nit b u e
  ·exact nit c _ z
theorem Inv.tok (I:Inv X pins σ H s)(t:Nat):Inv X pins σ H { s with toks := t } := I.un (h' := s.heap) (t' := t) Un.refl I.hok
theorem Inv.kept {t':Nat}(I:Inv X pins σ H s)(k:∀b u,s.heap.get? b=some u->h'.get? b=some u):Inv X pins σ H { s with heap := h',toks := t' } := I.un (Un.kept k) (I.hok.kept k)
theorem Inv.laid {a:Addr}{o:HO}{t':Nat}(I:Inv X pins σ H s)(k:∀b u,s.heap.get? b=some u->h'.get? b=some u)(hp:s.heap.objs.size<=a)(new:ObjOk X.prog X.w (upd H a o) h' a o) :
  Inv X pins σ (upd H a o) { s with heap := h',toks := t' } := I.un (Un.laid k hp (I.hok.fresh hp)) (I.hok.laid k hp new)
theorem Inv.write {x e:Addr}{o:HO}{t':Nat}(I:Inv X pins σ H s)(mu:Mut (H x))(he:e=x \/ H e=some (.own x))(k:∀b u,b≠e->s.heap.get? b=some u->h'.get? b=some u)(heo:∃u,h'.get? e=some u)
  (new:ObjOk X.prog X.w (upd H x o) h' x o):Inv X pins σ (upd H x o) { s with heap := h',toks := t' } := I.un (Un.write mu he k heo) (I.hok.write mu he k heo new)
theorem Inv.pins_of {pins':List (Addr×Obj)}(I:Inv X pins σ H s)(h:∀p∈pins',s.heap.get? p.1=some p.2/\H p.1=none/\p.1≠X.env.locals/\p.1∉X.fs/\∀v,p.2.data ≠ .cell v):Inv X pins' σ H s :=
 ⟨I.ok,I.os,I.bare,I.base,I.loc,I.cell,I.free,I.freeC,fun p hp => (List.mem_append.mp hp).elim (fun z => I.pin p (List.mem_append_left _ z)) (h p),I.hok,I.len⟩
theorem zd2 {N:List Str}(hN:N.Nodup){i j:Nat}{x:Str}(a:N[i]?=some x)(b:N[j]?=some x):i=j := by
 obtain ⟨h1,e1⟩ := List.getElem?_eq_some_iff.mp a
 obtain ⟨h2,e2⟩ := List.getElem?_eq_some_iff.mp b
 exact (List.getElem_inj hN).mp (e1.trans e2.symm)
theorem zfB {M:Model}{A:Around}{E:Value->Shared->Prop}{i:Nat}{x:Str}{v:V}{u:Value}{Q:Unit->Shared->Prop}(I:Inv X pins σ H s)(hN:X.N.Nodup)(hi:X.N[i]?=some x)(hx:Loc X.env.scope x)(r:RelV v u)
  (h:∀s',Inv X pins (σ.set i (some v)) H s'->(∃a,Heap.SameBut a s.heap s'.heap/\(a=X.env.locals \/ X.env.cells.lookup x=some a))->Q () s') (hf:X.fn x=true \/ X.env.scope.names.lookup x=some .local := by first|exact .inl rfl|exact .inr rfl|assumption):wpAny M A (storeName X.env x u) Q E s := by
 obtain ⟨m,hn,hl⟩ := id I.loc
 have hcls:(X.env.scope.kind == .class || (X.env.scope.kind == .module && X.env.locals != X.env.globals))=false := by rw [I.ok.kind];rfl
 have hiσ:i<σ.length := by rw [I.len];exact (List.getElem?_eq_some_iff.mp hi).1
 have cne := I.cne
 have tracked:∀{a:Addr} {h':Heap},(∃o,s.heap.get? a=some o/\H a=none)->Heap.SameBut a s.heap h'->HOk X.prog X.w H h' := fun {a h'} ha hs b ob e => by
  obtain ⟨_,_,hfree⟩ := ha
  refine (I.hok b ob e).stay (fun c w' hc q => (hs.2 c ?_).trans q) (fun _ q => q) fun _ _ q => q
  rintro rfl
  rcases hc with rfl|hc
  ·rw [hfree] at e;cases e
  ·rw [hfree] at hc;cases hc
 rcases hx with hk|hk
 ·refine wpAny_storeName_local hk hn (fun h' hn' hs => ?_) hcls
  obtain ⟨oL,_,_,hoL,_⟩ := id hn
  refine h _ ⟨I.ok,I.os,I.bare,⟨fun b o e n hb hx => ?_,fun b o e n hb hx => ?_,I.base.free,fun b o e hx => ?_,I.base.tups,I.base.frzs,I.base.tbls⟩,⟨_,hn',fun j y v' e1 e2 e3 => ?_⟩,fun y c e => ?_,I.free,I.freeC,fun p hp => ?_,tracked ⟨oL,hoL,I.free⟩ hs,by simpa using I.len⟩ ⟨_,hs,.inl rfl⟩
  ·exact (hs.2 b (Nat.ne_of_lt (Nat.lt_of_lt_of_le (Heap.lt_size e) I.ok.above))).trans (I.base.keep b o e n hb hx)
  ·obtain ⟨sl,e1⟩ := I.base.slot b o e n hb hx
   exact ⟨sl,(hs.2 b (Nat.ne_of_lt (Nat.lt_of_lt_of_le (Heap.lt_size e) I.ok.above))).trans e1⟩
  ·obtain ⟨o',e1⟩ := I.base.there b o e hx
   exact ⟨o',(hs.2 b (Nat.ne_of_lt (Nat.lt_of_lt_of_le (Heap.lt_size e) I.ok.above))).trans e1⟩
  ·by_cases hj:j=i
   ·subst hj
    rw [hi] at e1;cases e1
    rw [List.getElem?_set_self hiσ] at e2
    cases e2
    exact ⟨u,r,.inl ⟨hk,by simp⟩⟩
   ·rw [List.getElem?_set_ne (Ne.symm hj)] at e2
    obtain ⟨u',r',q⟩ := hl j y v' e1 e2 e3
    refine ⟨u',r',?_⟩
    rcases q with ⟨k,e⟩|⟨k,c,e,z⟩
    ·refine .inl ⟨k,?_⟩
     have:y≠x := fun e => hj (zd2 hN e1 (e ▸ hi))
     simp [this,e]
    ·exact .inr ⟨k,c,e,z.sameBut hs (cne y c e)⟩
  ·obtain ⟨w',z⟩ := I.cell y c e
   exact ⟨w',z.sameBut hs (cne y c e)⟩
  ·obtain ⟨e,n,ne,nf,d⟩ := I.pin p hp
   exact ⟨(hs.2 p.1 ne).trans e,n,ne,nf,d⟩
 ·have hfn:X.fn x=true := by
   rcases hf with z|z
   ·exact z
   ·rw [z] at hk;cases hk
  obtain ⟨c,hc⟩ := I.ok.has x (.inl hk)
  obtain ⟨w',z⟩ := I.cell x c hc
  refine wpAny_storeName_cell I.ok.kind hk hc z (fun h' hc' hs => ?_)
  obtain ⟨oc,hoc,hocd⟩ := id z
  refine h { s with heap := h' } ⟨I.ok,I.os,I.bare,⟨fun b o e n hb hx => ?_,fun b o e n hb hx => ?_,I.base.free,fun b o e hx => ?_,I.base.tups,I.base.frzs,I.base.tbls⟩,⟨m,hn.sameBut hs (Ne.symm (cne x c hc)),fun j y v' e1 e2 e3 => ?_⟩,fun y c' e => ?_,I.free,I.freeC,fun p hp => ?_,tracked ⟨oc,hoc,I.freeC x c hc⟩ hs,by simpa using I.len⟩ ⟨c,hs,.inr hc⟩
  ·exact (hs.2 b (Nat.ne_of_lt (Nat.lt_of_lt_of_le (Heap.lt_size e) (I.ok.cab x c hfn hc)))).trans (I.base.keep b o e n hb hx)
  ·obtain ⟨sl,e1⟩ := I.base.slot b o e n hb hx
   exact ⟨sl,(hs.2 b (Nat.ne_of_lt (Nat.lt_of_lt_of_le (Heap.lt_size e) (I.ok.cab x c hfn hc)))).trans e1⟩
  ·obtain ⟨o',e1⟩ := I.base.there b o e hx
   exact ⟨o',(hs.2 b (Nat.ne_of_lt (Nat.lt_of_lt_of_le (Heap.lt_size e) (I.ok.cab x c hfn hc)))).trans e1⟩
  ·by_cases hj:j=i
   ·subst hj
    rw [hi] at e1;cases e1
    rw [List.getElem?_set_self hiσ] at e2
    cases e2
    exact ⟨u,r,.inr ⟨.inl hk,c,hc,hc'⟩⟩
   ·rw [List.getElem?_set_ne (Ne.symm hj)] at e2
    obtain ⟨u',r',q⟩ := hl j y v' e1 e2 e3
    refine ⟨u',r',?_⟩
    rcases q with q|⟨k,c',e,z'⟩
    ·exact .inl q
    ·refine .inr ⟨k,c',e,z'.sameBut hs ?_⟩
     rintro rfl
     exact hj (zd2 hN e1 (I.ok.inj _ _ _ e hc ▸ hi))
  ·by_cases hcc:c'=c
   ·subst hcc;exact ⟨_,hc'⟩
   ·obtain ⟨w2,z2⟩ := I.cell y c' e
    exact ⟨w2,z2.sameBut hs hcc⟩
  ·obtain ⟨e,n,ne,nf,d⟩ := I.pin p hp
   refine ⟨(hs.2 p.1 ?_).trans e,n,ne,nf,d⟩
   intro q
   rw [q,hoc] at e
   have q':oc=p.2 := Option.some.inj e
   exact d w' (by rw [<- q'];exact hocd)
theorem zbj {M:Model}{A:Around}{E:Value->Shared->Prop}{i:Nat}{x:Str}{v:V}{u:Value}{Q:Unit->Shared->Prop}(I:Inv X pins σ H s)(hN:X.N.Nodup)(hi:X.N[i]?=some x)(hx:Loc X.env.scope x)(r:RelV v u)
  (h:∀s',Inv X pins (σ.set i (some v)) H s'->Q () s') (hf:X.fn x=true \/ X.env.scope.names.lookup x=some .local := by first|exact .inl rfl|exact .inr rfl|assumption):wpAny M A (storeName X.env x u) Q E s :=
 zfB I hN hi hx r (fun s' I' _ => h s' I') hf
theorem Inv.call' {s':Shared}{ch:List Addr}(I:Inv X pins σ H s)(ho:s'.os=s.os)(u:Un (frs X.stack) ch H H' s.heap s'.heap)(hok:HOk X.prog X.w H' s'.heap)(hg:AllBare s'.gens)
  (hch:∀b∈ch,(b∈X.ex \/ X.s₀.heap.objs.size<=b)/\b≠X.env.locals/\(∀x c,X.env.cells.lookup x=some c->c≠b)/\∀p∈X.pn++pins,p.1≠b):Inv X pins σ H' s' := by
 obtain ⟨h',g',d',t',o'⟩ := s'
 have e:o'=s.os := ho
 subst e
 exact I.call (g' := g') (t' := t') (d' := d') u hok hg hch
end
abbrev XK := Value->Option Addr->Hp->Prop
abbrev St := List (Option V)
abbrev VK := V->Hp->Prop
abbrev TE := St->Hp->VK->Prop
abbrev TT := St->Hp->(Bool->Hp->Prop)->Prop
abbrev TA := St->Hp->(List V->Hp->Prop)->Prop
structure Ends where
 nx:St->Hp->Prop
 rt:VK
 bk:St->Hp->Prop := fun _ _ => False
 ct:St->Hp->Prop := fun _ _ => False
abbrev TS := Ends->St->Hp->Prop
def EP (X:Cx)(pins:List (Addr×Obj))(σ:St)(Q:VK)(u:Value)(s':Shared):Prop := ∃v H',Inv X pins σ H' s'/\RelV v u/\Q v H'
def TP (X:Cx)(pins:List (Addr×Obj))(σ:St)(Q:Bool->Hp->Prop)(b:Bool)(s':Shared):Prop := ∃H',Inv X pins σ H' s'/\Q b H'
def AP (X:Cx)(pins:List (Addr×Obj))(σ:St)(Q:List V->Hp->Prop)(us:List Value)(s':Shared):Prop := ∃vs H',Inv X pins σ H' s'/\Vals vs us/\Q vs H'
def SP (X:Cx)(pins:List (Addr×Obj))(D:Ends)(f:Flow)(s':Shared):Prop :=
 match f with
 | .next => ∃σ' H',Inv X pins σ' H' s'/\D.nx σ' H'
 | .brk => ∃σ' H',Inv X pins σ' H' s'/\D.bk σ' H'
 | .cont => ∃σ' H',Inv X pins σ' H' s'/\D.ct σ' H'
 | .ret u => ∃v σ' H',Inv X pins σ' H' s'/\RelV v u/\D.rt v H'
def PE (X:Cx)(e:Expr)(t:TE):Prop :=
 ∀(pins:List (Addr×Obj)) (s:Shared) (σ:St) (H:Hp) (Q:VK),Inv X pins σ H s->t σ H Q->wpAny (model X.prog X.w) X.A (eval e X.env) (EP X pins σ Q) X.xe s
def PT (X:Cx)(e:Expr)(t:TT):Prop :=
 ∀(pins:List (Addr×Obj)) (s:Shared) (σ:St) (H:Hp) (Q:Bool->Hp->Prop),Inv X pins σ H s->t σ H Q->wpAny (model X.prog X.w) X.A (isTrue e X.env (eval e X.env)) (TP X pins σ Q) X.xe s
def PW (X:Cx)(e:Expr)(t:TT):Prop :=
 ∀(whole:Sem Value) (pins:List (Addr×Obj)) (s:Shared) (σ:St) (H:Hp) (Q:Bool->Hp->Prop),Inv X pins σ H s->t σ H Q->wpAny (model X.prog X.w) X.A (isTrue e X.env whole) (TP X pins σ Q) X.xe s
theorem PW.pt {X:Cx}{e:Expr}{t:TT}(h:PW X e t):PT X e t := h _
def PA (X:Cx)(es:List Expr)(t:TA):Prop :=
 ∀(pos:Pos) (pins:List (Addr×Obj)) (s:Shared) (σ:St) (H:Hp) (Q:List V->Hp->Prop),Inv X pins σ H s->t σ H Q->wpAny (model X.prog X.w) X.A (spliced (backTo pos (starEach es X.env))) (AP X pins σ Q) X.xe s
def PS (X:Cx)(st:Stmt)(t:TS):Prop :=
 ∀(pins:List (Addr×Obj)) (s:Shared) (σ:St) (H:Hp) (D:Ends),Inv X pins σ H s->t D σ H->wpAny (model X.prog X.w) X.A (exec st X.env) (SP X pins D) X.xe s
def PSs (X:Cx)(st:List Stmt)(t:TS):Prop :=
 ∀(pins:List (Addr×Obj)) (s:Shared) (σ:St) (H:Hp) (D:Ends),Inv X pins σ H s->t D σ H->wpAny (model X.prog X.w) X.A (execs st X.env) (SP X pins D) X.xe s
theorem thn {α:Type}{t:Sem α}{Q Q':α->Shared->Prop}{M:Model}{A:Around}{E:Value->Shared->Prop}{s:Shared}(h:wpAny M A t Q E s)(hQ:∀a s,Q a s->Q' a s):wpAny M A t Q' E s := wpAny_mono h hQ fun _ _ x => x
section
variable {X:Cx}
theorem bin {a b:Expr}{ta tb:TE}(ha:PE X a ta)(hb:PE X b tb){pins:List (Addr×Obj)}{s:Shared}{σ:St}{H:Hp}{R:V->V->Hp->Prop}(I:Inv X pins σ H s)(h:ta σ H fun x H1 => tb σ H1 fun y H2 => R x y H2)
  {α:Type} {Q:α->Shared->Prop} {f:Value->Value->Sem α}
  (hf:∀v u s2 x y H2,Inv X pins σ H2 s2->RelV x v->RelV y u->R x y H2->wpAny (model X.prog X.w) X.A (f v u) Q X.xe s2) :
  wpAny (model X.prog X.w) X.A (eval a X.env) (fun v s₁ => wpAny (model X.prog X.w) X.A (eval b X.env) (fun u s₂ => wpAny (model X.prog X.w) X.A (f v u) Q X.xe s₂) X.xe s₁) X.xe s := by
 refine thn (ha pins s σ H _ I h) fun v s1 ⟨x,H1,I1,r1,q1⟩ => ?_
 refine thn (hb pins s1 σ H1 _ I1 q1) fun u s2 ⟨y,H2,I2,r2,q2⟩ => ?_
 exact hf v u s2 x y H2 I2 r1 r2 q2
def tVar (i:Nat):TE := fun σ H Q => ∃v,σ[i]?=some (some v)/\Q v H
def tC (v:V):TE := fun _ H Q => Q v H
theorem zhr {i:Nat}{x:Str}{pos:Pos}(hN:X.N[i]?=some x)(hv:Vis X.env.scope x)(hd:(x == ("__debug__":Str))=false := by decide)(hcd:(x == ("__classdict__":Str))=false := by decide):PE X (.Name x pos) (tVar i) := by
 intro pins s σ H Q I h
 obtain ⟨v,e,h⟩ := h
 obtain ⟨m,hn,hl⟩ := I.loc
 obtain ⟨u,r,l⟩ := hl i x v hN e hv
 have fin:EP X pins σ Q u s := ⟨v,H,I,r,h⟩
 rcases l with ⟨hk,hm⟩|⟨hk,c,hc,hcell⟩
 ·exact wpAny_Name (wpAny_loadName_local I.ok.kind hk hn hm fin) hd
 ·rcases hk with hk|hk
  ·exact wpAny_Name (wpAny_loadName_cell I.ok.kind hk hc hcell fin) hd
  ·exact wpAny_Name (wpAny_loadName_free I.ok.kind hk hc hcell fin hcd) hd
theorem pe_int {i j pos}:PE X (.Constant (.int i) j pos) (tC (.int i)) := fun _ _ _ H _ I h => wpAny_Constant_int ⟨.int i,H,I.tok _,⟨_,rfl⟩,h⟩
theorem pe_bl {b j pos}:PE X (.Constant (.bool b) j pos) (tC (.bl b)) := fun _ _ _ H _ I h => Constant_bool ⟨.bl b,H,I,rfl,h⟩
theorem pe_str {x j pos}:PE X (.Constant (.str x) j pos) (tC (.str x)) := fun _ _ _ H _ I h => Calls.Constant_str ⟨.str x,H,I.tok _,⟨_,rfl⟩,h⟩
def Gl (X:Cx)(x:Str):Prop := X.env.kindOf x=some .globalImplicit
theorem zdJ {E:Value->Shared->Prop}{pins:List (Addr×Obj)}{s:Shared}{σ:St}{H:Hp}{x:Str}{u:Value}{pos:Pos}{Q:Value->Shared->Prop}(I:Inv X pins σ H s)(hg:Gl X x)(hm:X.mg x=some u)(h:Q u s)
  (hd:(x == ("__debug__":Str))=false := by decide):wpAny (model X.prog X.w) X.A (eval (.Name x pos) X.env) Q E s :=
 Calls.Name_function_global I.ok.kind hg (Calls.loadGlobal_global (by rw [I.ok.glob];exact I.mod.glob.keeps I.bk) hm h) hd
theorem zdp {E:Value->Shared->Prop}{pins:List (Addr×Obj)}{s:Shared}{σ:St}{H:Hp}{x:Str}{u:Value}{pos:Pos}{Q:Value->Shared->Prop}(I:Inv X pins σ H s)(hg:Gl X x)(hm:X.mg x=none)(hv:bootBuiltins x=some u)(h:Q u s)
  (hn:x ≠ "__name__" := by decide) (hd:(x == ("__debug__":Str))=false := by decide):wpAny (model X.prog X.w) X.A (eval (.Name x pos) X.env) Q E s := by
 obtain ⟨mb,h1,h2⟩ := I.mod.blt
 exact Calls.Name_function_global I.ok.kind hg (Calls.loadGlobal_builtin (by rw [I.ok.glob];exact I.mod.glob.keeps I.bk) hm (by rw [I.ok.blt];exact h1.keeps I.bk) ((h2 x hn).trans hv) h) hd
theorem zdH {x:Str}{v:V}{u:Value}{pos:Pos}(hg:Gl X x)(hm:X.mg x=some u)(r:RelV v u)(hd:(x == ("__debug__":Str))=false := by decide):PE X (.Name x pos) (tC v) :=
 fun _ _ _ H _ I h => zdJ I hg hm ⟨v,H,I,r,h⟩ hd
theorem zf3 {x:Str}{v:V}{u:Value}{pos:Pos}(hg:Gl X x)(hm:X.mg x=none)(hv:bootBuiltins x=some u)(r:RelV v u)(hn:x ≠ "__name__" := by decide)(hd:(x == ("__debug__":Str))=false := by decide):PE X (.Name x pos) (tC v) :=
 fun _ _ _ H _ I h => zdp I hg hm hv ⟨v,H,I,r,h⟩ hn hd
variable {a b:Expr}{ta tb:TE}{pos:Pos}
variable {tA tB':TT}{rest:List Expr}
def tAnd (t u:TT):TT := fun σ H Q => t σ H fun c H1 => if c=true then u σ H1 Q else Q false H1
def tOr (t u:TT):TT := fun σ H Q => t σ H fun c H1 => if c=true then Q true H1 else u σ H1 Q
def tNot (t:TT):TT := fun σ H Q => t σ H fun c H1 => Q (!c) H1
theorem zij (ha:PT X a tA):PW X (.BoolOp .And [a] pos) tA := by
 intro wh pins s σ H Q I h
 refine isTrue_and (thn (ha pins s σ H Q I h) fun c s1 e => ?_)
 cases c with
 |true => exact isTrue_and_nil e
 |false => exact e
theorem zjF (ha:PT X a tA):PW X (.BoolOp .Or [a] pos) tA := by
 intro wh pins s σ H Q I h
 refine isTrue_or (thn (ha pins s σ H Q I h) fun c s1 e => ?_)
 cases c with
 |false => exact isTrue_or_nil e
 |true => exact e
theorem zjr (ha:PT X a tA)(hb:PW X (.BoolOp .And (b::rest) pos) tB'):PW X (.BoolOp .And (a::b::rest) pos) (tAnd tA tB') := by
 intro wh pins s σ H Q I h
 refine isTrue_and (thn (ha pins s σ H _ I h) fun c s1 ⟨H1,I1,q1⟩ => ?_)
 cases c with
 |true => exact hb wh pins s1 σ H1 Q I1 q1
 |false => exact ⟨H1,I1,q1⟩
theorem zkQ (ha:PT X a tA)(hb:PW X (.BoolOp .Or (b::rest) pos) tB'):PW X (.BoolOp .Or (a::b::rest) pos) (tOr tA tB') := by
 intro wh pins s σ H Q I h
 refine isTrue_or (thn (ha pins s σ H _ I h) fun c s1 ⟨H1,I1,q1⟩ => ?_)
 cases c with
 |true => exact ⟨H1,I1,q1⟩
 |false => exact hb wh pins s1 σ H1 Q I1 q1
theorem ziO (ha:PT X a tA):PT X (.UnaryOp .Not a pos) (tNot tA) := by
 intro pins s σ H Q I h
 exact isTrue_not (ha pins s σ H (fun c H1 => Q (!c) H1) I h)
def tAndV (ta tb:TE):TE := fun σ H Q => ta σ H fun x H1 => ∃c,x=.bl c/\if c=true then tb σ H1 Q else Q (.bl false) H1
def tOrV (ta tb:TE):TE := fun σ H Q => ta σ H fun x H1 => ∃c,x=.bl c/\if c=true then Q (.bl true) H1 else tb σ H1 Q
def tNotV (ta:TE):TE := fun σ H Q => ta σ H fun x H1 => ∃c,x=.bl c/\Q (.bl (!c)) H1
theorem ziM {op}{t:TE}(h:PE X a t):PE X (.BoolOp op [a] pos) t := fun pins s σ H Q I hw => BoolOp_one (h pins s σ H Q I hw)
theorem ziN (ha:PE X a ta)(hb:PE X (.BoolOp .And (b::rest) pos) tb):PE X (.BoolOp .And (a::b::rest) pos) (tAndV ta tb) := by
 intro pins s σ H Q I h
 refine BoolOp_and (thn (ha pins s σ H _ I h) fun v s1 ⟨x,H1,I1,r1,q1⟩ => ?_)
 obtain ⟨c,rfl,q1⟩ := q1
 cases r1
 refine wpAny_truthy_bool ?_
 cases c with
 |true => exact hb pins s1 σ H1 Q I1 q1
 |false => exact ⟨.bl false,H1,I1,rfl,q1⟩
theorem zkM (ha:PE X a ta)(hb:PE X (.BoolOp .Or (b::rest) pos) tb):PE X (.BoolOp .Or (a::b::rest) pos) (tOrV ta tb) := by
 intro pins s σ H Q I h
 refine BoolOp_or (thn (ha pins s σ H _ I h) fun v s1 ⟨x,H1,I1,r1,q1⟩ => ?_)
 obtain ⟨c,rfl,q1⟩ := q1
 cases r1
 refine wpAny_truthy_bool ?_
 cases c with
 |false => exact hb pins s1 σ H1 Q I1 q1
 |true => exact ⟨.bl true,H1,I1,rfl,q1⟩
theorem zjS (ha:PE X a ta):PE X (.UnaryOp .Not a pos) (tNotV ta) := by
 intro pins s σ H Q I h
 refine UnaryOp_ (thn (ha pins s σ H _ I h) fun v s1 ⟨x,H1,I1,r1,q1⟩ => ?_)
 obtain ⟨c,rfl,q1⟩ := q1
 cases r1
 exact not_of (wpAny_truthy_bool ⟨.bl (!c),H1,I1,rfl,q1⟩)
def tIf (t:TT)(ta tb:TE):TE := fun σ H Q => t σ H fun c H1 => if c=true then ta σ H1 Q else tb σ H1 Q
theorem zgO {c:Expr}(hc:PT X c tA)(ha:PE X a ta)(hb:PE X b tb):PE X (.IfExp c a b pos) (tIf tA ta tb) := by
 intro pins s σ H Q I h
 refine wpAny_IfExp (thn (hc pins s σ H _ I h) fun d s1 ⟨H1,I1,q1⟩ => ?_)
 cases d with
 |true => exact ha pins s1 σ H1 Q I1 q1
 |false => exact hb pins s1 σ H1 Q I1 q1
end
def SqL (K:PySem.W.Frag)(H:Hp)(a:Addr)(xs:List V):Prop :=
 Rd H a (.lst xs) \/
  ∃(o:Obj) (its:Array Value) (n:Nat),K.lookup a=some o/\o.cls=.type "list"/\o.dict=none/\o.data=.seq its n/\its.size<=sizeLine/\Vals xs its.toList
def SqT (K:PySem.W.Frag)(H:Hp)(a:Addr)(xs:List V):Prop :=
 Rd H a (.tup xs) \/
  ∃(o:Obj) (its:Array Value) (n:Nat),K.lookup a=some o/\o.cls=.type "tuple"/\o.data=.seq its n/\its.size<=sizeLine/\Vals xs its.toList
def absV:Value->Option V
 | .none => some .non
 | .bool b => some (.bl b)
 | .int i _ => some (.int i)
 | .str x _ => some (.str x)
 | .bytes b _ => some (.byt b)
 | .float b _ => some (.flt b)
 | .ref a => some (.ref a)
 | .type n => some (.ty n)
 |_ => none
theorem RelV.abs {x:V}{u:Value}(r:RelV x u):absV u=some x := by
 cases x with
 |non => cases r;rfl
 |bl _ => cases r;rfl
 |int _ => obtain ⟨t,rfl⟩ := r;rfl
 |str _ => obtain ⟨t,rfl⟩ := r;rfl
 |byt _ => obtain ⟨t,rfl⟩ := r;rfl
 |flt _ => obtain ⟨t,rfl⟩ := r;rfl
 |ref _ => cases r;rfl
 |ty _ => cases r;rfl
theorem RelV.inj {x y:V}{u:Value}(r:RelV x u)(q:RelV y u):x=y := Option.some.inj (r.abs.symm.trans q.abs)
theorem Vals.inj:∀{xs ys:List V} {us:List Value},Vals xs us->Vals ys us->xs=ys
 |_,_,_,.nil,.nil => rfl
 |_,_,_,.cons r t,.cons r' t' => by rw [r.inj r',Vals.inj t t']
section
variable {X:Cx}{pins:List (Addr×Obj)}{σ:St}{H:Hp}{s:Shared}{a:Addr}{xs ys:List V}
theorem SqL.of {K:PySem.W.Frag}(h:H a=some (.lst xs)):SqL K H a xs := .inl (.inl h)
theorem Inv.list (I:Inv X pins σ H s)(h:SqL X.K H a xs):∃its:List Value,Vals xs its/\PlainL s.heap a its.toArray/\xs.length<=sizeLine := by
 rcases h with h|⟨o,its,n,hk,hc,hd,hs,hz,r⟩
 ·obtain ⟨z,its,n,r,e⟩ := h.ok I.hok
  exact ⟨its,r,⟨_,n,e,rfl,rfl,rfl⟩,z⟩
 ·refine ⟨its.toList,r,⟨o,n,I.kIn a o hk,hc,hd,by simpa using hs⟩,?_⟩
  have e := r.length
  simp only [Array.length_toList] at e
  omega
theorem Inv.tuple (I:Inv X pins σ H s)(h:SqT X.K H a xs):∃its:List Value,Vals xs its/\IsTup s.heap a its.toArray/\xs.length<=sizeLine := by
 rcases h with h|⟨o,its,n,hk,hc,hs,hz,r⟩
 ·obtain ⟨z,its,r,p⟩ := h.ok I.hok
  exact ⟨its,r,p,z⟩
 ·refine ⟨its.toList,r,⟨o,I.kIn a o hk,hc,n,by simpa using hs⟩,?_⟩
  have e := r.length
  simp only [Array.length_toList] at e
  omega
theorem Inv.list_inj (I:Inv X pins σ H s)(h:SqL X.K H a xs)(h':SqL X.K H a ys):xs=ys := by
 obtain ⟨its,r,⟨o,n,e,_,_,d⟩,_⟩ := I.list h
 obtain ⟨its',r',⟨o',n',e',_,_,d'⟩,_⟩ := I.list h'
 rw [e] at e';cases e'
 rw [d] at d'
 injection d' with d1 _
 have:its=its' := by simpa using congrArg Array.toList d1
 subst this
 exact r.inj r'
theorem Inv.tuple_inj (I:Inv X pins σ H s)(h:SqT X.K H a xs)(h':SqT X.K H a ys):xs=ys := by
 obtain ⟨its,r,⟨o,e,_,n,d⟩,_⟩ := I.tuple h
 obtain ⟨its',r',⟨o',e',_,n',d'⟩,_⟩ := I.tuple h'
 rw [e] at e';cases e'
 rw [d] at d'
 injection d' with d1 _
 have:its=its' := by simpa using congrArg Array.toList d1
 subst this
 exact r.inj r'
end
section
variable {X:Cx}{pins:List (Addr×Obj)}{σ:St}{H:Hp}{s:Shared}{E:Value->Shared->Prop}
end
section
variable {X:Cx}{st:Stmt}{rest:List Stmt}{t u:TS}{e:Expr}{te:TE}{pos:Pos}
def tNext:TS := fun D σ H => D.nx σ H
def tSeq (t u:TS):TS := fun D σ H => t { D with nx := u D } σ H
theorem pss_nil:PSs X [] tNext := fun _ _ σ H _ I h => wpAny_execs_nil ⟨σ,H,I,h⟩
theorem zdV (h1:PS X st t)(h2:PSs X rest u):PSs X (st::rest) (tSeq t u) := by
 intro pins s σ H D I h
 refine wpAny_execs_cons (thn (h1 pins s σ H { D with nx := u D } I h) fun f s1 q => ?_)
 cases f with
 |next =>
  obtain ⟨σ',H',I',q⟩ := q
  exact h2 pins s1 σ' H' D I' q
 |ret v => exact q
 |brk => exact q
 |cont => exact q
theorem zhQ (h1:PS X st t):PSs X [st] t := by
 intro pins s σ H D I h
 refine wpAny_execs_cons (thn (h1 pins s σ H D I h) fun f s1 q => ?_)
 cases f with
 |next => exact wpAny_execs_nil q
 |ret v => exact q
 |brk => exact q
 |cont => exact q
theorem Inv.quiet {pins:List (Addr×Obj)}{σ:St}{H:Hp}{s:Shared}(I:Inv X pins σ H s):interactive X.env=false := by simp [interactive,I.ok.kind]
def tDrop (te:TE):TS := fun D σ H => te σ H fun _ H1 => D.nx σ H1
theorem ziB (he:PE X e te)(hs:swapsWith e none pos.line X.env=pure false := by rfl):PS X (.Expr e pos) (tDrop te) := by
 intro pins s σ H D I h
 exact wpAny_Expr_any (thn (he pins s σ H _ I h) fun v s1 ⟨x,H1,I1,r1,q1⟩ => ⟨σ,H1,I1,q1⟩) I.quiet hs
def tRet (te:TE):TS := fun D σ H => te σ H D.rt
theorem zhm (he:PE X e te):PS X (.Return (some e) pos) (tRet te) := by
 intro pins s σ H D I h
 exact wpAny_Return_some (thn (he pins s σ H _ I h) fun v s1 ⟨x,H1,I1,r1,q1⟩ => ⟨x,σ,H1,I1,r1,q1⟩)
def tIfS (c:TT)(t u:TS):TS := fun D σ H => c σ H fun b H1 => if b=true then t D σ H1 else u D σ H1
theorem zkf {c:Expr}{a b:List Stmt}{tc:TT}(hc:PT X c tc)(ha:PSs X a t)(hb:PSs X b u):PS X (.If c a b pos) (tIfS tc t u) := by
 intro pins s σ H D I h
 refine wpAny_If (thn (hc pins s σ H _ I h) fun d s1 ⟨H1,I1,q1⟩ => ?_)
 cases d with
 |true => exact ha pins s1 σ H1 D I1 q1
 |false => exact hb pins s1 σ H1 D I1 q1
end
abbrev TG := V->St->Hp->(St->Hp->Prop)->Prop
abbrev TGs := List V->St->Hp->(St->Hp->Prop)->Prop
def PG (X:Cx)(target:Expr)(t:TG):Prop :=
 ∀(pins:List (Addr×Obj)) (s:Shared) (σ:St) (H:Hp) (v:V) (u:Value) (Q:St->Hp->Prop),Inv X pins σ H s->RelV v u->t v σ H Q ->
  wpAny (model X.prog X.w) X.A (assign target X.env u) (fun _ s' => ∃σ' H',Inv X pins σ' H' s'/\Q σ' H') X.xe s
def PGs (X:Cx)(ts:List Expr)(t:TGs):Prop :=
 ∀(pins:List (Addr×Obj)) (s:Shared) (σ:St) (H:Hp) (vs:List V) (us:List Value) (Q:St->Hp->Prop),Inv X pins σ H s->Vals vs us->t vs σ H Q ->
  wpAny (model X.prog X.w) X.A (assignInOrder ((assignEach ts X.env).map (·.2)) us) (fun _ s' => ∃σ' H',Inv X pins σ' H' s'/\Q σ' H') X.xe s
abbrev TSet := V->V->V->Hp->(Hp->Prop)->Prop
def PSet (X:Cx)(t:TSet):Prop :=
 ∀(pins:List (Addr×Obj)) (s:Shared) (σ:St) (H:Hp) (o i v:V) (ov iv u:Value) (Q:Hp->Prop),Inv X pins σ H s->RelV o ov->RelV i iv->RelV v u->t o i v H Q ->
  wpAny (model X.prog X.w) X.A (setItem ov iv u) (fun _ s' => ∃H',Inv X pins σ H' s'/\Q H') X.xe s
abbrev TIp := V->V->Hp->VK->Prop
def PIp (X:Cx)(op:Operator)(t:TIp):Prop :=
 ∀(pins:List (Addr×Obj)) (s:Shared) (σ:St) (H:Hp) (x y:V) (v u:Value) (Q:VK),Inv X pins σ H s->RelV x v->RelV y u->t x y H Q ->
  wpAny (model X.prog X.w) X.A (inplaceOp op v u) (EP X pins σ Q) X.xe s
section
variable {X:Cx}{pos:Pos}
def gName (i:Nat):TG := fun v σ H Q => Q (σ.set i (some v)) H
theorem zeR {i:Nat}{x:Str}(hN:X.N.Nodup)(hi:X.N[i]?=some x)(hx:Loc X.env.scope x)(hf:X.fn x=true \/ X.env.scope.names.lookup x=some .local := by first|exact .inl rfl|exact .inr rfl|assumption):PG X (.Name x pos) (gName i) := by
 intro pins s σ H v u Q I r h
 exact wpAny_assign_Name (zbj I hN hi hx r (fun s' I' => ⟨_,H,I',h⟩) hf)
def gNil:TGs := fun vs σ H Q => vs=[]/\Q σ H
def gCons (t:TG)(u:TGs):TGs := fun vs σ H Q => ∃v r,vs=v::r/\t v σ H fun σ' H' => u r σ' H' Q
theorem pgs_nil:PGs X [] gNil := by
 intro pins s σ H vs us Q I r h
 obtain ⟨e,h⟩ := h
 subst e
 cases r
 exact assignInOrder_nil ⟨σ,H,I,h⟩
theorem zg2 {e:Expr}{es:List Expr}{t:TG}{u:TGs}(h1:PG X e t)(h2:PGs X es u)
  (hs:(assignEach (e::es) X.env).map (·.2)=assign e X.env::(assignEach es X.env).map (·.2) := by rfl):PGs X (e::es) (gCons t u) := by
 intro pins s σ H vs us Q I r h
 obtain ⟨v,vr,e1,h⟩ := h
 subst e1
 cases r with
 |cons r rr =>
  rw [hs]
  refine assignInOrder_cons (thn (h1 pins s σ H _ _ _ I r h) fun _ s1 ⟨σ1,H1,I1,q1⟩ => ?_)
  exact h2 pins s1 σ1 H1 _ _ Q I1 rr q1
def gTup (K:PySem.W.Frag)(n:Nat)(t:TGs):TG := fun v σ H Q => ∃a xs,v=.ref a/\SqT K H a xs/\xs.length=n/\t xs σ H Q
theorem zje {es:List Expr}{k:Nat}{t:TGs}{n:Nat}(hc:X.calm=true)(h:PGs X es t)
  (hn:(assignEach es X.env).length=n := by rfl) (hst:(assignEach es X.env).findIdx? (·.1)=none := by rfl):PG X (.Tuple es k pos) (gTup X.K n t) := by
 intro pins s σ H v u Q I r hw
 obtain ⟨a,xs,e1,hq,hl,hw⟩ := hw
 subst e1
 cases r
 obtain ⟨its,rv,ht,hz⟩ := I.tuple hq
 refine assign_Tuple_tuple (I.ok.hd hc) ht (by simp [hn,<- hl,rv.length]) hst fun h' hx => ?_
 have I1:Inv X pins σ H { s with heap := h' } := I.kept (t' := s.toks) fun b o e => hx b o (Nat.ne_of_lt (Heap.lt_size e)) e
 exact h pins _ σ H xs _ Q I1 (by simpa using rv) hw
def gSub (to ti:TE)(t:TSet):TG := fun v σ H Q => to σ H fun o H1 => ti σ H1 fun i H2 => t o i v H2 fun H3 => Q σ H3
theorem zgd {o i:Expr}{to ti:TE}{t:TSet}(ho:PE X o to)(hi:PE X i ti)(hs:PSet X t)
  (ha:∀v,assign (.Subscript o i pos) X.env v=(do
   let ov <- holding [v] (eval o X.env)
   let iv <- holding [v,ov] (eval i X.env)
   standAt pos
   holding [v,ov,iv] (setItem ov iv v)
   release [v,ov,iv] []) := by intro _;rfl):PG X (.Subscript o i pos) (gSub to ti t) := by
 intro pins s σ H v u Q I r h
 rw [ha]
 refine wpAny_bind (wpAny_holding (thn (ho pins s σ H _ I h) fun ov s1 ⟨x,H1,I1,r1,q1⟩ => ?_))
 refine wpAny_bind (wpAny_holding (thn (hi pins s1 σ H1 _ I1 q1) fun iv s2 ⟨y,H2,I2,r2,q2⟩ => ?_))
 refine wpAny_bind (wpAny_standAt (wpAny_bind (wpAny_holding (thn (hs pins s2 σ H2 x y v ov iv u _ I2 r1 r2 r q2) fun _ s3 ⟨H3,I3,q3⟩ => ?_))))
 exact wpAny_release ⟨σ,H3,I3,q3⟩
def tAsg (te:TE)(g:TG):TS := fun D σ H => te σ H fun x H1 => g x σ H1 D.nx
theorem zhi {tg e:Expr}{te:TE}{g:TG}(he:PE X e te)(hg:PG X tg g)(hs:swapsWithSole [tg] e pos.line X.env=pure false := by rfl)(hw:swappedStores [tg] e X.env=pure none := by rfl)
  (h1:(assignEach [tg] X.env).map (·.2)=[assign tg X.env] := by rfl):PS X (.Assign [tg] e pos) (tAsg te g) := by
 intro pins s σ H D I h
 refine wpAny_Assign_stores (thn (he pins s σ H _ I h) fun v s1 ⟨x,H1,I1,r1,q1⟩ => ?_) hs hw
 rw [h1]
 exact thn (hg pins s1 σ H1 x v _ I1 r1 q1) fun _ s2 q => q
theorem zhv {i:Nat}{x:Str}{e:Expr}{te:TE}{pos':Pos}(hN:X.N.Nodup)(hi:X.N[i]?=some x)(hx:Loc X.env.scope x)(he:PE X e te)(hs:swapsWith e (some (.Name x pos')) pos.line X.env=pure false := by rfl)(hf:X.fn x=true \/ X.env.scope.names.lookup x=some .local := by first|exact .inl rfl|exact .inr rfl|assumption) :
  PS X (.Assign [.Name x pos'] e pos) (tAsg te (gName i)) := by
 intro pins s σ H D I h
 refine wpAny_Assign_Name (thn (he pins s σ H _ I h) fun v s1 ⟨y,H1,I1,r1,q1⟩ => ?_) hs
 exact zbj I1 hN hi hx r1 (fun s2 I2 => ⟨_,H1,I2,q1⟩) hf
def tPar (i j:Nat)(ta:TA):TS := fun D σ H => ta σ H fun vs H1 => ∃v w,vs=[v,w]/\D.nx ((σ.set i (some v)).set j (some w)) H1
theorem zjv {i j:Nat}{x y:Str}{a b:Expr}{ta:TA}{px py pt:Pos}{kt k2 pt2}(hc:X.calm=true)(hN:X.N.Nodup)(hi:X.N[i]?=some x)(hj:X.N[j]?=some y)(hij:i≠j)
  (hx:X.env.scope.names.lookup x=some .local) (hy:X.env.scope.names.lookup y=some .local) (ha:PA X [a,b] ta)
  (hw:swappedStores [.Tuple [.Name x px,.Name y py] kt pt] (.Tuple [a,b] k2 pt2) X.env=pure (some [x,y]))
  (hs:swapsWithSole [.Tuple [.Name x px,.Name y py] kt pt] (.Tuple [a,b] k2 pt2) pos.line X.env=pure false := by rfl) :
  PS X (.Assign [.Tuple [.Name x px,.Name y py] kt pt] (.Tuple [a,b] k2 pt2) pos) (tPar i j ta) := by
 intro pins s σ H D I h
 rw [exec_Assign_arm]
 refine wpAny_bind (wpAny_standAt ?_)
 rw [hs]
 refine wpAny_bind (wpAny_pure ?_)
 rw [if_neg (by decide)]
 refine wpAny_bind (Tuple_ (thn (ha _ pins s σ H _ I h) fun us s1 ⟨vs,H1,I1,r1,q1⟩ => ?_))
 obtain ⟨v,w,e1,q1⟩ := q1
 subst e1
 obtain ⟨u1,u2,rfl,rv,rw'⟩:∃u1 u2,us=[u1,u2]/\RelV v u1/\RelV w u2 := by
  cases r1 with
  |cons p q =>
   cases q with
   |cons p' q' =>
    cases q'
    exact ⟨_,_,rfl,p,p'⟩
 refine wpAny_newObj_type ?_ (by show 2<=sizeLine;decide)
 have I2:Inv X pins σ H1 { s1 with heap := s1.heap.push { cls := .type "tuple",data := .seq [u1,u2].toArray } } := I1.kept (t' := s1.toks) fun b o e => Heap.get?_push_of_some _ e
 rw [hw]
 refine wpAny_bind (wpAny_pure ?_)
 show wpAny (model X.prog X.w) X.A (do rule "assign.swapped-stores";let items <- unpackItems (.ref s1.heap.objs.size) 2 none;assignInOrder [fun v => bindName X.env y v,fun v => bindName X.env x v] items.reverse;pure Flow.next) _ _ _
 refine wpAny_bind (wpAny_rule (wpAny_bind (unpackItems_tuple (items := #[u1,u2]) (I.ok.hd hc) (IsTup.new s1.heap _) fun h' hx' => ?_)))
 have I3 := I2.kept (h' := h') (t' := s1.toks) fun b o e => hx' b o (Nat.ne_of_lt (Heap.lt_size e)) e
 show wpAny _ _ (assignInOrder [fun v => bindName X.env y v,fun v => bindName X.env x v] [u2,u1] >>= fun _ => pure Flow.next) _ _ _
 refine wpAny_bind (assignInOrder_cons (wpAny_bindName (zbj I3 hN hj (.inl hy) rw' (fun s2 I4 => ?_) (.inr hy))))
 refine assignInOrder_cons (wpAny_bindName (zbj I4 hN hi (.inl hx) rv (fun s3 I5 => assignInOrder_nil (wpAny_pure ?_)) (.inr hx)))
 rw [List.set_comm _ _ (Ne.symm hij)] at I5
 exact ⟨_,H1,I5,q1⟩
def tAug (i:Nat)(te:TE)(ti:TIp):TS := fun D σ H => ∃x,σ[i]?=some (some x)/\te σ H fun y H1 => ti x y H1 fun z H2 => D.nx (σ.set i (some z)) H2
theorem zjE {i:Nat}{x:Str}{e:Expr}{te:TE}{op:Operator}{ti:TIp}{pos':Pos}(hN:X.N.Nodup)(hi:X.N[i]?=some x)(hx:Loc X.env.scope x)(he:PE X e te)(ho:PIp X op ti)(hf:X.fn x=true \/ X.env.scope.names.lookup x=some .local := by first|exact .inl rfl|exact .inr rfl|assumption) :
  PS X (.AugAssign (.Name x pos') op e pos) (tAug i te ti) := by
 intro pins s σ H D I h
 obtain ⟨v,e1,h⟩ := h
 obtain ⟨m,hn,hl⟩ := I.loc
 have vis:Vis X.env.scope x := by rcases hx with k|k;exact .inl k;exact .inr (.inl k)
 obtain ⟨u,r,l⟩ := hl i x v hi e1 vis
 refine wpAny_AugAssign_Name ?_
 have go:wpAny (model X.prog X.w) X.A (eval e X.env) (fun w s₂ => wpAny (model X.prog X.w) X.A (inplaceOp op u w) (fun r s₃ => wpAny (model X.prog X.w) X.A (storeName X.env x r) (fun _ => SP X pins D .next) X.xe s₃) X.xe s₂) X.xe s := by
  refine thn (he pins s σ H _ I h) fun w s1 ⟨y,H1,I1,r1,q1⟩ => ?_
  refine thn (ho pins s1 σ H1 v y u w _ I1 r r1 q1) fun z s2 ⟨zv,H2,I2,r2,q2⟩ => ?_
  exact zbj I2 hN hi hx r2 (fun s3 I3 => ⟨_,H2,I3,q2⟩) hf
 rcases l with ⟨hk,hm⟩|⟨hk,c,hc,hcell⟩
 ·exact wpAny_loadName_local I.ok.kind hk hn hm go
 ·rcases hk with hk|hk
  ·exact wpAny_loadName_cell I.ok.kind hk hc hcell go
  ·rcases hx with k|k
   ·have:X.env.scope.names.lookup x=some .free := hk
    rw [k] at this;cases this
   ·have:X.env.scope.names.lookup x=some .free := hk
    rw [k] at this;cases this
def ipI (f:Int->Int->Int):TIp := fun x y H Q => ∃i j,x=.int i/\y=.int j/\Q (.int (f i j)) H
theorem ziK:PIp X .Add (ipI fun i j => i+j) := by
 intro pins s σ H x y v u Q I r1 r2 h
 obtain ⟨i,j,e1,e2,q⟩ := h
 subst e1;subst e2
 obtain ⟨t,rfl⟩ := r1
 obtain ⟨t',rfl⟩ := r2
 exact iadd_int ⟨.int _,H,I.tok _,⟨_,rfl⟩,q⟩
end
section
variable {X:Cx}{pos:Pos}
def tWhile (c:TT)(tb:TS):TS := fun D σ H => ∃W:Nat->St->Hp->Prop,(∃m,W m σ H)/\∀m σ H,W m σ H ->
 c σ H fun b H1 => if b=true then ∃N:St->Hp->Prop,(∀σ' H',N σ' H'->∃m',m' < m/\W m' σ' H')/\tb { D with nx := N,ct := N,bk := D.nx } σ H1 else D.nx σ H1
theorem zgJ {c:Expr}{body:List Stmt}{tc:TT}{tb:TS}(hp:PassesOwn (model X.prog X.w) X.A X.env X.xe)(hc:PT X c tc)(hb:PSs X body tb):PS X (.While c body [] pos) (tWhile tc tb) := by
 intro pins s σ H D I h
 obtain ⟨W,⟨m0,w0⟩,turn⟩ := h
 refine wpAny_While (codeAny_whileLoop (fun n s' => ∃σ' H',Inv X pins σ' H' s'/\W n σ' H') ?_ m0 ⟨σ,H,I,w0⟩)
 rintro n s1 ⟨σ1,H1,I1,w1⟩
 refine wpAny_passesOwn hp (thn (hc pins s1 σ1 H1 _ I1 (turn n σ1 H1 w1)) fun b s2 ⟨H2,I2,q2⟩ => ?_)
 cases b with
 |true =>
  obtain ⟨N,hN,q2⟩ := q2
  rw [if_pos rfl]
  refine wpAny_passesOwn hp (thn (hb pins s2 σ1 H2 _ I2 q2) fun f s3 q3 => ?_)
  cases f with
  |next =>
   obtain ⟨σ3,H3,I3,n3⟩ := q3
   obtain ⟨m',hm,w3⟩ := hN σ3 H3 n3
   exact ⟨m',hm,σ3,H3,I3,w3⟩
  |cont =>
   obtain ⟨σ3,H3,I3,n3⟩ := q3
   obtain ⟨m',hm,w3⟩ := hN σ3 H3 n3
   exact ⟨m',hm,σ3,H3,I3,w3⟩
  |brk => exact q3
  |ret v => exact q3
 |false =>
  rw [if_neg Bool.false_ne_true]
  exact wpAny_execs_nil ⟨σ1,H2,I2,q2⟩
end
structure It where
 go:Nat->Hp->Prop
 yld:Nat->Hp->V->Hp->Prop
 stop:Nat->Hp->Prop
def FpOk (X:Cx)(pins:List (Addr×Obj))(H:Hp)(b:Addr):Prop :=
 H b=none/\b≠X.env.locals/\b∉X.fs/\(b∈X.ex \/ X.s₀.heap.objs.size<=b)/\(∀x c,X.env.cells.lookup x=some c->c≠b)/\∀p∈X.pn++pins,p.1≠b
theorem Inv.fpOk {X:Cx}{pins:List (Addr×Obj)}{σ:St}{H H':Hp}{s:Shared}{b:Addr}(I:Inv X pins σ H s)(hb:s.heap.objs.size<=b)(hn:H' b=none):FpOk X pins H' b := by
 refine ⟨hn,Nat.ne_of_gt (Nat.lt_of_lt_of_le I.lt hb),I.nofs hb,.inr (Nat.le_trans I.sz hb),fun x c e z => ?_,fun p hp z => ?_⟩
 ·obtain ⟨v,q⟩ := I.cell x c e
  exact absurd (Nat.lt_of_lt_of_le q.lt (by rw [z];exact hb)) (Nat.lt_irrefl _)
 ·exact absurd (Nat.lt_of_lt_of_le (Heap.lt_size (I.pin p hp).1) (by rw [z];exact hb)) (Nat.lt_irrefl _)
structure Turn (P:Program)(w:World)(K:PySem.W.Frag)(tg:Expr)(J:It)(fp:List Addr)(it:Addr)(tn:Nat->Heap->Prop):Prop where
 mem:it∈fp
 obj:∀i h,tn i h->∀b∈fp,∃o,h.get? b=some o/\∀v,o.data ≠ .cell v
 keep:∀i h h',tn i h->(∀b∈fp,∀o,h.get? b=some o->h'.get? b=some o)->tn i h'
 item:∀(X:Cx),X.prog=P->X.w=w->X.K=K->X.calm=true->∀(i:Nat) (pins:List (Addr×Obj)) (s:Shared) (σ:St) (H:Hp) (E:Value->Shared->Prop),Inv X pins σ H s->(∀b∈fp,FpOk X pins H b)->tn i s.heap->J.go i H ->
  wpAny (model P w) X.A (pyNext (.ref it)) (fun r s1 => ∃u,r=some u /\
   wpAny (model P w) X.A (letOwnedTupleGo tg (.ref it) u) (fun _ s2 => ∃x H',Inv X pins σ H' s2/\RelV x u/\J.yld i H x H'/\tn (i+1) s2.heap/\∀b∈fp,H' b=none) E s1) E s
 done:∀(X:Cx),X.prog=P->X.w=w->X.K=K->X.calm=true->∀(i:Nat) (pins:List (Addr×Obj)) (s:Shared) (σ:St) (H:Hp) (E:Value->Shared->Prop),Inv X pins σ H s->(∀b∈fp,FpOk X pins H b)->tn i s.heap->J.stop i H ->
  wpAny (model P w) X.A (pyNext (.ref it)) (fun r s1 => r=none/\Inv X pins σ H s1) E s
 self:∀(A:Around) (i:Nat) (s:Shared) (Q:Value->Shared->Prop) (E:Value->Shared->Prop),tn i s.heap->Q (.ref it) s->wpAny (model P w) A (pyIter (.ref it)) Q E s
abbrev TI := St->Hp->(It->Hp->Prop)->Prop
def PIE (X:Cx)(pins:List (Addr×Obj))(σ:St)(tg:Expr)(R:It->Hp->Prop)(itv:Value)(s2:Shared):Prop :=
 ∃(it:Addr) (fp:List Addr) (tn:Nat->Heap->Prop) (J:It) (H':Hp),itv=.ref it/\Inv X pins σ H' s2/\Turn X.prog X.w X.K tg J fp it tn/\tn 0 s2.heap/\(∀b∈fp,FpOk X pins H' b)/\R J H'
def PI (X:Cx)(tg iter:Expr)(wi:TI):Prop :=
 ∀(pins:List (Addr×Obj)) (s:Shared) (σ:St) (H:Hp) (R:It->Hp->Prop),Inv X pins σ H s->wi σ H R ->
  wpAny (model X.prog X.w) X.A (eval iter X.env) (fun v s1 => wpAny (model X.prog X.w) X.A (pyIter v) (PIE X pins σ tg R) X.xe s1) X.xe s
theorem zin {M:Model}{A:Around}{E:Value->Shared->Prop}{s:Shared}{tg:Expr}{it:Addr}{u:Value}{o:Obj}{n:String}{vs:Array Value}{Q:Unit->Shared->Prop}(ho:s.heap.get? it=some o)(hc:o.cls=.type n)(hd:o.data=.fields vs)
  (hn:["enumerate","zip","dict_itemiterator","dict_reverseitemiterator","odict_iterator","itertools.zip_longest","itertools.pairwise"].contains n=false) (hQ:Q () s):wpAny M A (letOwnedTupleGo tg (.ref it) u) Q E s := by
 unfold letOwnedTupleGo
 cases tg <;> first
  | exact wpAny_pure hQ
  | (cases u <;> first
    | exact wpAny_pure hQ
    | (refine wpAny_bind (wpAny_load ho ?_)
       rw [hc,hd]
       show wpAny M A (if (["enumerate","zip","dict_itemiterator","dict_reverseitemiterator","odict_iterator","itertools.zip_longest","itertools.pairwise"].contains n && vs[0]? == some (rawInt _))=true then _ else _) Q E s
       rw [if_neg (by intro h;rw [hn,Bool.false_and] at h;cases h)]
       exact wpAny_pure hQ))
def Itl (K:PySem.W.Frag)(a:Addr):It :=
 ⟨fun i H => ∃xs x,SqL K H a xs/\xs[i]?=some x,fun i H x H' => H'=H/\∀xs,SqL K H a xs->xs[i]?=some x,fun i H => ∃xs,SqL K H a xs/\xs.length<=i⟩
def Itt (K:PySem.W.Frag)(a:Addr):It :=
 ⟨fun i H => ∃xs x,SqT K H a xs/\xs[i]?=some x,fun i H x H' => H'=H/\∀xs,SqT K H a xs->xs[i]?=some x,fun i H => ∃xs,SqT K H a xs/\xs.length<=i⟩
def Itr (lo:Int)(n:Nat):It := ⟨fun i _ => i<n,fun i H x H' => H'=H/\x=.int (lo+i),fun i _ => n<=i⟩
theorem ze4 {P:Program}{w:World}{K:PySem.W.Frag}{tg:Expr}(a it:Addr):Turn P w K tg (Itl K a) [it] it (fun i h => h.IsListIter it a i) where
 mem := by simp
 obj := fun i h st b hb => by
  have e:b=it := by simpa using hb
  subst e
  obtain ⟨o,e,c,d⟩ := st
  exact ⟨o,e,fun v z => by rw [d] at z;cases z⟩
 keep := fun i h h' st k => st.at fun o e => k it (by simp) o e
 item := by
  intro X hP hw hK hc i pins s σ H E I hf st hg
  subst hP hw hK
  obtain ⟨xs,x,hq,hx⟩ := hg
  obtain ⟨its,rv,p,hz⟩ := I.list hq
  obtain ⟨u,hu,ru⟩ := rv.get hx
  obtain ⟨f0,f1,f2,f3,f4,f5⟩ := hf it (by simp)
  refine wpAny_pyNext_list_item st p.isList (x := u) (by simpa using hu) fun h' st' sb => ?_
  have I1:Inv X pins σ H { s with heap := h' } := I.turned (t' := s.toks) (fun b o hb e => (sb.2 b hb).trans e) f0 f1 f3 f4 f5
  obtain ⟨o,e,c,d⟩ := id st'
  exact ⟨u,rfl,zin (s := { s with heap := h' }) e c d (by decide) ⟨x,H,I1,ru,⟨rfl,fun ys hy => by rw [I.list_inj hy hq];exact hx⟩,st',fun b hb => (hf b hb).1⟩⟩
 done := by
  intro X hP hw hK hc i pins s σ H E I hf st hg
  subst hP hw hK
  obtain ⟨xs,hq,hx⟩ := hg
  obtain ⟨its,rv,p,hz⟩ := I.list hq
  obtain ⟨f0,f1,f2,f3,f4,f5⟩ := hf it (by simp)
  have hl := rv.length
  exact wpAny_pyNext_list_end (I.ok.hd hc) st p.isList (by simp;omega) fun h' eb => ⟨rfl,I.turned (t' := s.toks) (fun b o hb e => eb b o hb e) f0 f1 f3 f4 f5⟩
 self := fun _ _ _ _ _ st h => wpAny_pyIter_listiter st h
theorem zeD {P:Program}{w:World}{K:PySem.W.Frag}{tg:Expr}(a it:Addr):Turn P w K tg (Itt K a) [it] it (fun i h => h.IsTupleIter it a i) where
 mem := by simp
 obj := fun i h st b hb => by
  have e:b=it := by simpa using hb
  subst e
  obtain ⟨o,e,c,d⟩ := st
  exact ⟨o,e,fun v z => by rw [d] at z;cases z⟩
 keep := fun i h h' st k => st.at fun o e => k it (by simp) o e
 item := by
  intro X hP hw hK hc i pins s σ H E I hf st hg
  subst hP hw hK
  obtain ⟨xs,x,hq,hx⟩ := hg
  obtain ⟨its,rv,p,hz⟩ := I.tuple hq
  obtain ⟨u,hu,ru⟩ := rv.get hx
  obtain ⟨f0,f1,f2,f3,f4,f5⟩ := hf it (by simp)
  refine wpAny_pyNext_tuple_item st (show s.heap.IsTuple a its.toArray from p) (x := u) (by simpa using hu) fun h' st' sb => ?_
  have I1:Inv X pins σ H { s with heap := h' } := I.turned (t' := s.toks) (fun b o hb e => (sb.2 b hb).trans e) f0 f1 f3 f4 f5
  obtain ⟨o,e,c,d⟩ := id st'
  exact ⟨u,rfl,zin (s := { s with heap := h' }) e c d (by decide) ⟨x,H,I1,ru,⟨rfl,fun ys hy => by rw [I.tuple_inj hy hq];exact hx⟩,st',fun b hb => (hf b hb).1⟩⟩
 done := by
  intro X hP hw hK hc i pins s σ H E I hf st hg
  subst hP hw hK
  obtain ⟨xs,hq,hx⟩ := hg
  obtain ⟨its,rv,p,hz⟩ := I.tuple hq
  obtain ⟨f0,f1,f2,f3,f4,f5⟩ := hf it (by simp)
  have hl := rv.length
  exact wpAny_pyNext_tuple_end (I.ok.hd hc) st (show s.heap.IsTuple a its.toArray from p) (by simp;omega) fun h' eb => ⟨rfl,I.turned (t' := s.toks) (fun b o hb e => eb b o hb e) f0 f1 f3 f4 f5⟩
 self := fun _ _ _ _ _ st h => wpAny_pyIter_tupleiter st h
theorem zep {P:Program}{w:World}{K:PySem.W.Frag}{tg:Expr}(it:Addr)(lo:Int)(n:Nat):Turn P w K tg (Itr lo n) [it] it (fun i h => IsRangeIter h it (lo+(i:Nat)*1) ((n:Int) - (i:Nat)) 1) where
 mem := by simp
 obj := fun i h st b hb => by
  have e:b=it := by simpa using hb
  subst e
  exact ⟨_,st,fun v z => by
   have z':Data.fields _=Data.cell v := z
   cases z'⟩
 keep := fun i h h' st k => k it (by simp) _ st
 item := by
  intro X hP hw hK hc i pins s σ H E I hf st hg
  subst hP hw hK
  obtain ⟨f0,f1,f2,f3,f4,f5⟩ := hf it (by simp)
  have W := Walks.range (prog := X.prog) (w := X.w) (I.ok.hd hc) it lo 1 n
  refine W.item i s _ _ hg st fun v h' tk hv st' kk => ?_
  obtain ⟨t,rfl⟩ := hv
  have I1:Inv X pins σ H { s with heap := h',toks := tk } := I.turned (fun b o hb e => kk b o (by simpa using hb) e) f0 f1 f3 f4 f5
  refine ⟨_,rfl,zin (s := { s with heap := h',toks := tk }) (n := "range_iterator") st' rfl rfl (by decide) ⟨.int (lo+i),H,I1,⟨t,?_⟩,⟨rfl,rfl⟩,st',fun b hb => (hf b hb).1⟩⟩
  rw [Int.mul_one]
 done := by
  intro X hP hw hK hc i pins s σ H E I hf st hg
  subst hP hw hK
  obtain ⟨f0,f1,f2,f3,f4,f5⟩ := hf it (by simp)
  exact wpAny_pyNext_range_end (I.ok.hd hc) st (by have:n<=i := hg;omega) fun h' eb => ⟨rfl,I.turned (t' := s.toks) (fun b o hb e => eb b o hb e) f0 f1 f3 f4 f5⟩
 self := fun _ _ _ _ _ st h => wpAny_pyIter_rangeiter st h
section
variable {X:Cx}{tg:Expr}
theorem zgR {pins:List (Addr×Obj)}{σ:St}{H:Hp}{s:Shared}{R:It->Hp->Prop}{E:Value->Shared->Prop}{lo hi:Int}{t u v:Tok}{tk:Nat}(I:Inv X pins σ H s)(h1:-(2 ^ 62)<=lo)(h2:lo<2 ^ 62)(h3:-(2 ^ 62)<=hi)(h4:hi<2 ^ 62)
  (q:R (Itr lo (hi - lo).toNat) H):wpAny (model X.prog X.w) X.A (pyIter (.ref s.heap.objs.size)) (PIE X pins σ tg R) E { s with heap := s.heap.push { cls := .type "range",data := .fields #[.int lo t,.int hi u,.int 1 v] },toks := tk } := by
 refine wpAny_pyIter_range (IsRange.new ..) (small_one h1 h2 h3 h4) ?_
 have I1:Inv X pins σ H { s with heap := s.heap.push { cls := .type "range",data := .fields #[.int lo t,.int hi u,.int 1 v] },toks := tk } := I.kept fun b o e => Heap.get?_push_of_some _ e
 refine ⟨(s.heap.push { cls := .type "range",data := .fields #[.int lo t,.int hi u,.int 1 v] }).objs.size,[(s.heap.push { cls := .type "range",data := .fields #[.int lo t,.int hi u,.int 1 v] }).objs.size],_,_,H,rfl,
  I1.kept (t' := tk) fun b o e => Heap.get?_push_of_some _ e,zep _ lo (hi - lo).toNat,?_,fun b hb => ?_,q⟩
 ·have e1:lo+((0:Nat):Int)*1=lo := by simp
  have e2:(((hi - lo).toNat:Nat):Int) - ((0:Nat):Int)=Builtin.Range.rangeSize lo hi 1 := by rw [rangeSize_one];split <;> omega
  show IsRangeIter _ _ (lo+((0:Nat):Int)*1) ((((hi - lo).toNat:Nat):Int) - ((0:Nat):Int)) 1
  rw [e1,e2]
  exact Heap.get?_push_size _ rfl
 ·have e:b=(s.heap.push { cls := .type "range",data := .fields #[.int lo t,.int hi u,.int 1 v] }).objs.size := by simpa using hb
  subst e
  exact I1.fpOk (Nat.le_refl _) (I1.hok.fresh (Nat.le_refl _))
def iRng1 (ta:TA):TI := fun σ H R => ta σ H fun vs H1 => ∃j:Int,vs=[.int j]/\-(2 ^ 62)<=j/\j<2 ^ 62/\R (Itr 0 j.toNat) H1
theorem zgb {a:Expr}{ta:TA}{p pos:Pos}(hg:Gl X "range")(hm:X.mg "range"=none)(ha:PA X [a] ta)(hs:starEach [a] X.env=[(false,eval a X.env)] := by rfl):PI X tg (.Call (.Name "range" p) [a] [] pos) (iRng1 ta) := by
 intro pins s σ H R I h
 refine Call_ (zdp I hg hm boot_range (PyProof.Rows.callWith_type1 (thn (ha pos pins s σ H _ I h) fun us s1 ⟨vs,H1,I1,r1,q1⟩ => ?_) hs rfl))
 obtain ⟨j,e,q1,q2,q⟩ := q1
 subst e
 cases r1 with
 |cons r rr =>
  cases rr
  obtain ⟨t,rfl⟩ := r
  exact call_range_1 (zgR I1 (by omega) (by omega) q1 q2 (by simpa using q))
def tFor (wi:TI)(g:TG)(tb:TS):TS := fun D σ H => wi σ H fun J H1 => ∃W:Nat->Nat->St->Hp->Prop,(∃m,W 0 m σ H1)/\∀i m σ H,W i m σ H ->
 (J.stop i H/\D.nx σ H) \/ (J.go i H/\∃N:St->Hp->Prop,(∀σ' H',N σ' H'->∃m',m' < m/\W (i+1) m' σ' H')/\∀x H',J.yld i H x H'->g x σ H' fun σ2 H2 => tb { D with nx := N,ct := N,bk := D.nx } σ2 H2)
def pinsAt (fp:List Addr)(h:Heap):List (Addr×Obj) := fp.filterMap fun b => (h.get? b).map fun o => (b,o)
theorem zaR {fp:List Addr}{h:Heap}{b:Addr}{o:Obj}(hb:b∈fp)(e:h.get? b=some o):(b,o)∈pinsAt fp h := List.mem_filterMap.mpr ⟨b,hb,by rw [e];rfl⟩
theorem zeU {fp:List Addr}{h:Heap}{p:Addr×Obj}(hp:p∈pinsAt fp h):p.1∈fp/\h.get? p.1=some p.2 := by
 obtain ⟨b,hb,e⟩ := List.mem_filterMap.mp hp
 cases q:h.get? b with
 |none => rw [q] at e;cases e
 |some o =>
  rw [q] at e
  have e':(b,o)=p := Option.some.inj e
  subst e'
  exact ⟨hb,q⟩
theorem Inv.pinned {pins:List (Addr×Obj)}{σ:St}{H:Hp}{s:Shared}{fp:List Addr}(I:Inv X pins σ H s)(hf:∀b∈fp,FpOk X pins H b)(ho:∀b∈fp,∃o,s.heap.get? b=some o/\∀v,o.data ≠ .cell v):Inv X (pins++pinsAt fp s.heap) σ H s :=
 I.pins_of fun p hp => (List.mem_append.mp hp).elim (fun z => I.pin p (List.mem_append_right _ z)) fun z => by
  obtain ⟨hb,e⟩ := zeU z
  obtain ⟨f0,f1,f2,_⟩ := hf p.1 hb
  obtain ⟨o,e',d⟩ := ho p.1 hb
  rw [e] at e';cases e'
  exact ⟨e,f0,f1,f2,d⟩
theorem Inv.unpinned {pins pl:List (Addr×Obj)}{σ:St}{H:Hp}{s:Shared}(I:Inv X (pins++pl) σ H s):Inv X pins σ H s := I.pins_of fun p hp => I.pin p (List.mem_append_right _ (List.mem_append_left _ hp))
theorem zho {iter:Expr}{body:List Stmt}{wi:TI}{g:TG}{tb:TS}{pos:Pos}(hp:PassesOwn (model X.prog X.w) X.A X.env X.xe)(hc:X.calm=true)(hi:PI X tg iter wi)(hg:PG X tg g)(hb:PSs X body tb)
  (hs:∀x,foldedSetIterable iter X.env x=pure x := by intro _;rfl):PS X (.For tg iter body [] pos) (tFor wi g tb) := by
 intro pins s σ H D I h
 refine wpAny_For (thn (hi pins s σ H _ I h) fun v s1 h1 => thn h1 fun itv s2 h2 => ?_) hs
 obtain ⟨it,fp,tn,J,H2,e,I2,T,st2,f2,W,⟨m0,w0⟩,turn⟩ := h2
 subst e
 have stat:∀{H':Hp},(∀b∈fp,H' b=none)->∀b∈fp,FpOk X pins H' b := fun hn b hb => ⟨hn b hb,(f2 b hb).2⟩
 refine codeAny_forLoop_any (fun n s' => ∃i σ' H',Inv X pins σ' H' s'/\tn i s'.heap/\(∀b∈fp,H' b=none)/\W i n σ' H') ?_ m0 ⟨0,σ,H2,I2,st2,fun b hb => (f2 b hb).1,w0⟩
 rintro n s3 ⟨i,σ3,H3,I3,st3,fr3,w3⟩
 rcases turn i n σ3 H3 w3 with ⟨stop,qn⟩|⟨go,N,hN,step⟩
 ·refine wpAny_passesOwn hp (thn (T.done X rfl rfl rfl hc i pins s3 σ3 H3 X.xe I3 (stat fr3) st3 stop) fun r s4 ⟨hr,I4⟩ => ?_)
  subst hr
  exact wpAny_execs_nil ⟨σ3,H3,I4,qn⟩
 ·refine wpAny_passesOwn hp (thn (T.item X rfl rfl rfl hc i pins s3 σ3 H3 X.xe I3 (stat fr3) st3 go) fun r s4 ⟨u,hr,h4⟩ => ?_)
  subst hr
  refine wpAny_passesOwn hp (thn h4 fun _ s5 ⟨x,H5,I5,r5,y5,st5,fr5⟩ => ?_)
  have I5' := I5.pinned (stat fr5) (T.obj _ _ st5)
  refine wpAny_passesOwn hp (thn (hg _ s5 σ3 H5 x u _ I5' r5 (step x H5 y5)) fun _ s6 ⟨σ6,H6,I6,q6⟩ => ?_)
  refine wpAny_passesOwn hp (thn (hb _ s6 σ6 H6 _ I6 q6) fun f s7 q7 => ?_)
  have again:∀{σ7:St} {H7:Hp},Inv X (pins++pinsAt fp s5.heap) σ7 H7 s7->N σ7 H7->∃m,m<n/\∃i σ' H',Inv X pins σ' H' s7/\tn i s7.heap/\(∀b∈fp,H' b=none)/\W i m σ' H' := fun {σ7 H7} I7 n7 => by
   obtain ⟨m',hm,w7⟩ := hN σ7 H7 n7
   refine ⟨m',hm,i+1,σ7,H7,I7.unpinned,T.keep _ _ _ st5 fun b hb o e => (I7.pin (b,o) (List.mem_append_right _ (List.mem_append_right _ (zaR hb e)))).1,fun b hb => ?_,w7⟩
   obtain ⟨o,e,d⟩ := T.obj _ _ st5 b hb
   exact (I7.pin (b,o) (List.mem_append_right _ (List.mem_append_right _ (zaR hb e)))).2.1
  cases f with
  |next => obtain ⟨σ7,H7,I7,n7⟩ := q7;exact again I7 n7
  |cont => obtain ⟨σ7,H7,I7,n7⟩ := q7;exact again I7 n7
  |brk => obtain ⟨σ7,H7,I7,q7⟩ := q7;exact ⟨σ7,H7,I7.unpinned,q7⟩
  |ret v => obtain ⟨x7,σ7,H7,I7,r7,q7⟩ := q7;exact ⟨x7,σ7,H7,I7.unpinned,r7,q7⟩
end
abbrev R2 := V->V->Hp->VK->Prop
def OpR (X:Cx)(f:Value->Value->Sem Value)(r:R2):Prop :=
 ∀(pins:List (Addr×Obj)) (s:Shared) (σ:St) (H:Hp) (x y:V) (v u:Value) (Q:VK),Inv X pins σ H s->RelV x v->RelV y u->r x y H Q ->
  wpAny (model X.prog X.w) X.A (f v u) (EP X pins σ Q) X.xe s
def CallR (X:Cx)(f:Value)(r:List V->Hp->VK->Prop):Prop :=
 ∀(pins:List (Addr×Obj)) (s:Shared) (σ:St) (H:Hp) (xs:List V) (us:List Value) (Q:VK),Inv X pins σ H s->Vals xs us->r xs H Q ->
  wpAny (model X.prog X.w) X.A (call f us) (EP X pins σ Q) X.xe s
def TruR (X:Cx)(r:V->Hp->(Bool->Hp->Prop)->Prop):Prop :=
 ∀(pins:List (Addr×Obj)) (s:Shared) (σ:St) (H:Hp) (x:V) (v:Value) (Q:Bool->Hp->Prop),Inv X pins σ H s->RelV x v->r x H Q ->
  wpAny (model X.prog X.w) X.A (truthy v) (TP X pins σ Q) X.xe s
def tOp (r:R2)(ta tb:TE):TE := fun σ H Q => ta σ H fun x H1 => tb σ H1 fun y H2 => r x y H2 Q
def rI (C:Int->Int->Prop)(g:Int->Int->V):R2 := fun x y H Q => ∃i j,x=.int i/\y=.int j/\C i j/\Q (g i j) H
def rI0 (g:Int->Int->V):R2 := fun x y H Q => ∃i j,x=.int i/\y=.int j/\Q (g i j) H
section
variable {X:Cx}{a b c:Expr}{ta tb tc:TE}{pos:Pos}
theorem binT (ha:PE X a ta)(hb:PE X b tb){pins:List (Addr×Obj)}{s:Shared}{σ:St}{H:Hp}{R:V->V->Hp->Prop}(I:Inv X pins σ H s)
  (h:ta σ H fun x H1 => tb σ H1 fun y H2 => R x y H2) {Q:Value->Shared->Prop} {f:Value->Value->Sem Value}
  (hf:∀v u s2 x y H2,Inv X pins σ H2 s2->RelV x v->RelV y u->R x y H2->wpAny (model X.prog X.w) X.A (f v u) Q X.xe s2) :
  wpAny (model X.prog X.w) X.A (eval a X.env) (fun v s₁ => wpAny (model X.prog X.w) X.A (eval b X.env) (fun u s₂ => wpAny (model X.prog X.w) X.A (f v u) Q X.xe s₂) X.xe s₁) X.xe s := by
 refine thn (ha pins s σ H _ I h) fun v s1 ⟨x,H1,I1,r1,q1⟩ => ?_
 refine thn (hb pins s1 σ H1 _ I1 q1) fun u s2 ⟨y,H2,I2,r2,q2⟩ => ?_
 exact hf v u s2 x y H2 I2 r1 r2 q2
theorem zks {op:Operator}{r:R2}(ho:OpR X (binaryOp op) r)(ha:PE X a ta)(hb:PE X b tb):PE X (.BinOp a op b pos) (tOp r ta tb) := by
 intro pins s σ H Q I h
 exact wpAny_BinOp (binT ha hb I h fun v u s2 x y H2 I2 rx ry q => ho pins s2 σ H2 x y v u Q I2 rx ry q)
theorem opI {f:Value->Value->Sem Value}{C:Int->Int->Prop}{g:Int->Int->Int}
  (rule:∀(i j:Int) (t u:Tok) (s:Shared) (Q:Value->Shared->Prop) (E:Value->Shared->Prop),C i j->Q (.int (g i j) s.toks) { s with toks := s.toks+1 }->wpAny (model X.prog X.w) X.A (f (.int i t) (.int j u)) Q E s) :
  OpR X f (rI C fun i j => .int (g i j)) := by
 intro pins s σ H x y v u Q I rx ry h
 obtain ⟨i,j,rfl,rfl,hc,q⟩ := h
 obtain ⟨t,rfl⟩ := rx
 obtain ⟨t',rfl⟩ := ry
 exact rule i j t t' s _ _ hc ⟨.int (g i j),H,I.tok _,⟨_,rfl⟩,q⟩
theorem opI0 {f:Value->Value->Sem Value}{g:Int->Int->Int}
  (rule:∀(i j:Int) (t u:Tok) (s:Shared) (Q:Value->Shared->Prop) (E:Value->Shared->Prop),Q (.int (g i j) s.toks) { s with toks := s.toks+1 }->wpAny (model X.prog X.w) X.A (f (.int i t) (.int j u)) Q E s) :
  OpR X f (rI0 fun i j => .int (g i j)) := by
 intro pins s σ H x y v u Q I rx ry h
 obtain ⟨i,j,rfl,rfl,q⟩ := h
 obtain ⟨t,rfl⟩ := rx
 obtain ⟨t',rfl⟩ := ry
 exact rule i j t t' s _ _ ⟨.int (g i j),H,I.tok _,⟨_,rfl⟩,q⟩
theorem opB0 {f:Value->Value->Sem Value}{g:Int->Int->Bool}
  (rule:∀(i j:Int) (t u:Tok) (s:Shared) (Q:Value->Shared->Prop) (E:Value->Shared->Prop),Q (.bool (g i j)) s->wpAny (model X.prog X.w) X.A (f (.int i t) (.int j u)) Q E s) :
  OpR X f (rI0 fun i j => .bl (g i j)) := by
 intro pins s σ H x y v u Q I rx ry h
 obtain ⟨i,j,rfl,rfl,q⟩ := h
 obtain ⟨t,rfl⟩ := rx
 obtain ⟨t',rfl⟩ := ry
 exact rule i j t t' s _ _ ⟨.bl (g i j),H,I,rfl,q⟩
def CPow (i j:Int):Prop := 0<=j/\j<=1000000/\i.natAbs<2 ^ 64
def CMul (i j:Int):Prop := (-(2 ^ 64)<i/\i<2 ^ 64) \/ (-(2 ^ 64)<j/\j<2 ^ 64)
theorem CMul.ok {i j:Int}(h:CMul i j):IntMulOk i j := by
 rcases h with ⟨h1,h2⟩|⟨h1,h2⟩
 ·exact .of_left (intBits_le_64 h1 h2)
 ·exact .of_right (intBits_le_64 h1 h2)
theorem zev (k:Nat):(0:Int)<=2 ^ k := by
 rw [two_pow_cast]
 exact Int.natCast_nonneg _
theorem zjI:OpR X (binaryOp .Add) (rI0 fun i j => .int (i+j)) := opI0 fun _ _ _ _ _ _ _ q => add_int q
theorem ziP:OpR X (binaryOp .Sub) (rI0 fun i j => .int (i - j)) := opI0 fun _ _ _ _ _ _ _ q => sub_int q
theorem zj1:OpR X (binaryOp .Mult) (rI CMul fun i j => .int (i*j)) := opI fun _ _ _ _ _ _ _ hc q => mul_int q hc.ok
theorem zj6:OpR X (binaryOp .Mod) (rI (fun _ j => 0<j) fun i j => .int (i % j)) := opI fun i j _ _ _ _ _ hc q => by
 have h1:(0:Int)<j := hc
 exact mod_int' (by omega) (by rw [Int.fmod_eq_emod_of_nonneg i (by omega)];exact q)
theorem zjt:OpR X (binaryOp .Pow) (rI CPow fun i j => .int (i ^ j.toNat)) := opI fun _ _ _ _ _ _ _ hc q => pow_int_small hc.1 hc.2.1 hc.2.2 q
theorem zjJ:OpR X (binaryOp .LShift) (rI CPow fun i j => .int (i*2 ^ j.toNat)) := opI fun _ _ _ _ _ _ _ hc q => lshift_int_small hc.1 hc.2.1 hc.2.2 q
theorem ziH:OpR X (binaryOp .RShift) (rI (fun _ j => 0<=j) fun i j => .int (i / 2 ^ j.toNat)) := opI fun i j _ _ _ _ _ hc q =>
 rshift_int hc (by rw [Int.fdiv_eq_ediv_of_nonneg i (zev _)];exact q)
theorem zjx:OpR X (binaryOp .BitAnd) (rI0 fun i j => .int (Builtin.bitAnd i j)) := opI0 fun _ _ _ _ _ _ _ q => and_int q
theorem zkt:OpR X (binaryOp .BitOr) (rI0 fun i j => .int (Builtin.bitOr i j)) := opI0 fun _ _ _ _ _ _ _ q => or_int q
theorem zjX:OpR X (binaryOp .BitXor) (rI0 fun i j => .int (Builtin.bitXor i j)) := opI0 fun _ _ _ _ _ _ _ q => xor_int q
theorem zfH:OpR X (binaryOp .Add) (fun x y H Q => ∃i k,x=.int i/\y=.bl k/\Q (.int (i+b2i k)) H) := by
 intro pins s σ H x y v u Q I rx ry h
 obtain ⟨i,k,rfl,rfl,q⟩ := h
 obtain ⟨t,rfl⟩ := rx
 cases ry
 exact add_int_bool ⟨.int (i+b2i k),H,I.tok _,⟨_,rfl⟩,q⟩
end
section
variable {X:Cx}{a b c:Expr}{ta tb tc:TE}{pos:Pos}
theorem zdX {pins:List (Addr×Obj)}{σ:St}{H:Hp}{s:Shared}{Q:VK}{k k':Bool}(I:Inv X pins σ H s)(q:Q (.bl k) H)(e:k=k'):EP X pins σ Q (.bool k') s := by
 subst e
 exact ⟨.bl k,H,I,rfl,q⟩
theorem zkO:OpR X (compareOp .Lt) (rI0 fun i j => .bl (decide (i<j))) := opB0 fun _ _ _ _ _ _ _ q => lt_int q
theorem zkC:OpR X (compareOp .LtE) (rI0 fun i j => .bl (decide (i<=j))) := opB0 fun _ _ _ _ _ _ _ q => le_int q
theorem zkI:OpR X (compareOp .Gt) (rI0 fun i j => .bl (decide (j<i))) := opB0 fun _ _ _ _ _ _ _ q => gt_int q
theorem zkN:OpR X (compareOp .GtE) (rI0 fun i j => .bl (decide (j<=i))) := opB0 fun _ _ _ _ _ _ _ q => ge_int q
theorem zgg:OpR X (compareOp .Lt) (fun x y H Q => ∃i j,x=.str i/\y=.str j/\Q (.bl (decide (i.cps.toList<j.cps.toList))) H) := by
 intro pins s σ H x y v u Q I rx ry h
 obtain ⟨i,j,rfl,rfl,q⟩ := h
 obtain ⟨t,rfl⟩ := rx
 obtain ⟨t',rfl⟩ := ry
 exact lt_str (zdX I q rfl)
theorem zfN:OpR X (compareOp .In) (fun x y H Q => ∃i j,x=.str i/\y=.str j/\Q (.bl (!(Builtin.Str.occurrences j i 0 j.length 1).isEmpty)) H) := by
 intro pins s σ H x y v u Q I rx ry h
 obtain ⟨i,j,rfl,rfl,q⟩ := h
 obtain ⟨t,rfl⟩ := rx
 obtain ⟨t',rfl⟩ := ry
 exact in_str (zdX I q rfl)
theorem zdb:OpR X (compareOp .NotIn) (fun x y H Q => ∃i j,x=.str i/\y=.str j/\Q (.bl (!(!(Builtin.Str.occurrences j i 0 j.length 1).isEmpty))) H) := by
 intro pins s σ H x y v u Q I rx ry h
 obtain ⟨i,j,rfl,rfl,q⟩ := h
 obtain ⟨t,rfl⟩ := rx
 obtain ⟨t',rfl⟩ := ry
 exact notIn_str (zdX I q rfl)
theorem nomark (b:Expr){op:CmpOp}(h:op ≠ .In := by decide)(h2:op ≠ .NotIn := by decide):behindInMarks op b=false := by
 have e1:(op == CmpOp.In)=false := by cases op <;> first|rfl|exact absurd rfl h
 have e2:(op == CmpOp.NotIn)=false := by cases op <;> first|rfl|exact absurd rfl h2
 cases b <;> simp [behindInMarks,e1,e2]
theorem zhP {op:CmpOp}{r:R2}(ho:OpR X (compareOp op) r)(ha:PE X a ta)(hb:PE X b tb)(hm:behindInMarks op b=false):PE X (.Compare a [op] [b] pos) (tOp r ta tb) := by
 intro pins s σ H Q I h
 exact wpAny_Compare1 (binT ha hb I h fun v u s2 x y H2 I2 rx ry q => ho pins s2 σ H2 x y v u Q I2 rx ry q) hm
def tTest (t:TE):TT := fun σ H Q => t σ H fun x H' => ∃k,x=.bl k/\Q k H'
theorem zhG {op:CmpOp}{r:R2}(ho:OpR X (compareOp op) r)(ha:PE X a ta)(hb:PE X b tb)(hm:behindInMarks op b=false):PT X (.Compare a [op] [b] pos) (tTest (tOp r ta tb)) := by
 intro pins s σ H Q I h
 refine wpAny_isTrue_Compare1 (thn (ha pins s σ H _ I h) fun v s1 ⟨x,H1,I1,r1,q1⟩ => thn (hb pins s1 σ H1 _ I1 q1) fun u s2 ⟨y,H2,I2,r2,q2⟩ =>
  thn (ho pins s2 σ H2 x y v u _ I2 r1 r2 q2) fun c s3 ⟨z,H3,I3,r3,k,e,q3⟩ => ?_) hm
 subst e
 cases r3
 exact wpAny_truthy_bool ⟨H3,I3,q3⟩
def tChain (r r':R2)(ta tb tc:TE):TE := fun σ H Q => ta σ H fun x H1 => tb σ H1 fun y H2 => r x y H2 fun z H3 => ∃k,z=.bl k /\
 (if k=true then tc σ H3 fun w' H4 => r' y w' H4 Q else Q (.bl false) H3)
theorem zha {op op':CmpOp}{r r':R2}(ho:OpR X (compareOp op) r)(ho':OpR X (compareOp op') r')(ha:PE X a ta)(hb:PE X b tb)(hc:PE X c tc)
  (hm:lastMarks [op,op'] [b,c]=false := by with_unfolding_all rfl):PE X (.Compare a [op,op'] [b,c] pos) (tChain r r' ta tb tc) := by
 intro pins s σ H Q I h
 refine Compare_chain (thn (ha pins s σ H _ I h) fun v s1 ⟨x,H1,I1,r1,q1⟩ => chain_link (thn (hb pins s1 σ H1 _ I1 q1) fun u s2 ⟨y,H2,I2,r2,q2⟩ =>
  thn (ho pins s2 σ H2 x y v u _ I2 r1 r2 q2) fun d s3 ⟨z,H3,I3,r3,k,e,q3⟩ => ?_)) hm
 subst e
 cases r3
 refine wpAny_truthy_bool ?_
 cases k with
 |false => exact ite_ff ⟨.bl false,H3,I3,rfl,q3⟩
 |true => exact ite_tt (chain_last (thn (hc pins s3 σ H3 _ I3 q3) fun w' s4 ⟨z',H4,I4,r4,q4⟩ => ho' pins s4 σ H4 y z' u w' Q I4 r2 r4 q4))
def TruV (K:PySem.W.Frag)(x:V)(H:Hp)(k:Bool):Prop :=
 match x with
 | .non => k=false
 | .bl b => k=b
 | .int i => k=(i != 0)
 | .str y => y.length<=sizeLine/\k=((y.length:Int) != 0)
 | .byt y => y.size<=sizeLine/\k=((y.size:Int) != 0)
 | .ref p => (∃xs,SqL K H p xs/\k=!xs.isEmpty) \/ (∃xs,SqT K H p xs/\k=!xs.isEmpty) \/ ∃kvs,H p=some (.dK kvs)/\k=!kvs.isEmpty
 |_ => False
theorem zeM {κ:Type}{kvs:List (κ×V)}{vs:List (κ×Value)}(r:KV kvs vs):(!vs.isEmpty)=!kvs.isEmpty := by
 cases r <;> rfl
theorem zcA {xs:List V}{its:List Value}(r:Vals xs its):(!its.toArray.isEmpty)=!xs.isEmpty := by
 cases r <;> simp
theorem line63:(sizeLine:Nat)<2 ^ 63 := by rw [sizeLine_eq];decide
theorem zjj:TruR X (fun x H Q => ∃k,TruV X.K x H k/\Q k H) := by
 intro pins s σ H x v Q I rx h
 obtain ⟨k,e,q⟩ := h
 have hl := line63
 have hs:sizeLine=16777216 := sizeLine_eq
 cases x with
 |non =>
  cases rx
  have e':k=false := e
  subst e'
  exact truthy_none ⟨H,I,q⟩
 |bl b =>
  cases rx
  have e':k=b := e
  subst e'
  exact wpAny_truthy_bool ⟨H,I,q⟩
 |int i =>
  obtain ⟨t,rfl⟩ := rx
  have e':k=(i != 0) := e
  subst e'
  exact PySem.P.truthy_int ⟨H,I,q⟩
 |str y =>
  obtain ⟨t,rfl⟩ := rx
  obtain ⟨hy,e'⟩:y.length<=sizeLine/\k=((y.length:Int) != 0) := e
  subst e'
  exact PySem.P.truthy_str (by omega) ⟨H,I.tok _,q⟩
 |byt y =>
  obtain ⟨t,rfl⟩ := rx
  obtain ⟨hy,e'⟩:y.size<=sizeLine/\k=((y.size:Int) != 0) := e
  subst e'
  exact PySem.W.truthy_bytes (by omega) ⟨H,I.tok _,q⟩
 |ref p =>
  cases rx
  have e':(∃xs,SqL X.K H p xs/\k=!xs.isEmpty) \/ (∃xs,SqT X.K H p xs/\k=!xs.isEmpty) \/ ∃kvs,H p=some (.dK kvs)/\k=!kvs.isEmpty := e
  rcases e' with ⟨xs,hx,e'⟩|⟨xs,hx,e'⟩|⟨kvs,hx,e'⟩
  ·subst e'
   obtain ⟨its,r,pl,hz⟩ := I.list hx
   have hlen := r.length
   exact wpAny_truthy_list pl.isList (by simp only [List.size_toArray];omega) ⟨H,I.tok _,by rw [zcA r];exact q⟩
  ·subst e'
   obtain ⟨its,r,pl,hz⟩ := I.tuple hx
   have hlen := r.length
   exact truthy_tuple pl (by simp only [List.size_toArray];omega) ⟨H,I.tok _,by rw [zcA r];exact q⟩
  ·subst e'
   obtain ⟨hz,hS,vs,r,m⟩:kvs.length<=sizeLine/\(p == sysModules)=false/\∃vs,KV kvs vs/\s.heap.DictOf (mixKind X.prog X.w) p vs := I.hok p _ hx
   have hlen:kvs.length=vs.length := Paired.length r
   exact wpAny_truthy_dict hS m (by omega) ⟨H,I.tok _,by rw [zeM r];exact q⟩
 |_ => exact (show False from e).elim
theorem zgB (ha:PE X a ta)(he:∀whole,isTrue a X.env whole=(do let v <- whole;standAt a.pos;holding [v] (truthy v))) :
  PT X a (fun σ H Q => ta σ H fun x H' => ∃k,TruV X.K x H' k/\Q k H') := by
 intro pins s σ H Q I h
 exact isTrue_plain (thn (ha pins s σ H _ I h) fun v s1 ⟨x,H1,I1,r1,q1⟩ => zjj pins s1 σ H1 x v Q I1 r1 q1) (he _)
theorem zeq:OpR X (binaryOp .Add) (fun x y H Q => ∃i j,x=.str i/\y=.str j/\i.length+j.length<=sizeLine/\Q (.str (i++j)) H) := by
 intro pins s σ H x y v u Q I rx ry h
 obtain ⟨i,j,rfl,rfl,hz,q⟩ := h
 obtain ⟨t,rfl⟩ := rx
 obtain ⟨t',rfl⟩ := ry
 exact add_str (fun t' tk => ⟨.str (i++j),H,I.tok _,⟨_,rfl⟩,q⟩) hz
theorem vals1 {x:V}{us:List Value}(r:Vals [x] us):∃u,us=[u]/\RelV x u := by
 cases r with
 |cons r1 r2 => cases r2;exact ⟨_,rfl,r1⟩
theorem vals2 {x y:V}{us:List Value}(r:Vals [x,y] us):∃u w',us=[u,w']/\RelV x u/\RelV y w' := by
 cases r with
 |cons r1 r2 =>
  cases r2 with
  |cons r3 r4 => cases r4;exact ⟨_,_,rfl,r1,r3⟩
theorem zdi:CallR X (.type "int") (fun xs H Q => (∃i,xs=[.int i]/\Q (.int i) H) \/ ∃k,xs=[.bl k]/\Q (.int (if k then 1 else 0)) H) := by
 intro pins s σ H xs us Q I r h
 rcases h with ⟨i,rfl,q⟩|⟨k,rfl,q⟩
 ·obtain ⟨u,rfl,t,rfl⟩ := vals1 r
  exact call_int_int ⟨.int i,H,I,⟨_,rfl⟩,q⟩
 ·obtain ⟨u,rfl,r1⟩ := vals1 r
  cases r1
  exact call_int_bool ⟨.int (if k then 1 else 0),H,I.tok _,⟨_,rfl⟩,q⟩
end
section
variable {prog:Program}{w:World}{A:Around}{E:Value->Shared->Prop}{s:Shared}{K:PySem.W.Frag}{x dx C f:Addr}{mA:Str->Option Value}{name:Str}{v:Value}
end
def putF (f:Str)(v:V):List (Str×V)->List (Str×V)
 | [] => [(f,v)]
 | (g,x)::r => if g=f then (g,v)::r else (g,x)::putF f v r
theorem RelO.some_of {v:V}{o:Option Value}(r:RelO (some v) o):∃u,o=some u/\RelV v u := by
 cases o with
 |none => exact (show False from r).elim
 |some u => exact ⟨u,rfl,r⟩
section
variable {P:Program}{w:World}{H H':Hp}{h h':Heap}{a C dx:Addr}{fs fs':List (Str×V)}
end
section
variable {X:Cx}{pins:List (Addr×Obj)}{σ:St}{H:Hp}{s:Shared}{a C dx:Addr}{fs:List (Str×V)}{f:Str}{v:V}{A:Around}{E:Value->Shared->Prop}
end
section
variable {X:Cx}{o e value:Expr}{f:Str}{pos pos' tpos:Pos}{ta tv:TE}
end
section
variable {X:Cx}{pins:List (Addr×Obj)}{σ:St}{H:Hp}{s:Shared}{A:Around}{E:Value->Shared->Prop}{Q:Value->Shared->Prop}{c:Value}{b:Bool}
end
structure Room (k:Nat)(A:Around):Prop where
 hd:A.handled=none
 dp:A.depth+3*k+5<recursionLimit
 un:A.units+16*k+200<cLine
theorem Room.mono {j k:Nat}{A:Around}(r:Room k A)(h:j<=k):Room j A := ⟨r.hd,by have := r.dp;omega,by have := r.un;omega⟩
theorem Room.deeper {k:Nat}{A:Around}(r:Room (k+1) A)(env:Env):Room k (A.deeper env) :=
 ⟨r.hd,by have := r.dp;show A.depth+1+3*k+5<_;omega,by have := r.un;show A.units+3+16*k+200<_;omega⟩
theorem Room.depth {k:Nat}{A:Around}(r:Room k A):A.depth<recursionLimit := by have := r.dp;omega
theorem Room.units {k:Nat}{A:Around}(r:Room k A):A.units+64<cLine := by have := r.un;omega
def tNil:TA := fun _ H Q => Q [] H
def tCons (ta:TE)(tr:TA):TA := fun σ H Q => ta σ H fun x H1 => tr σ H1 fun xs H2 => Q (x::xs) H2
section
variable {X:Cx}{e:Expr}{es:List Expr}{te:TE}{t:TA}{pos:Pos}
theorem pa_nil:PA X [] tNil := fun _ _ _ _ H Q I h => Calls.spliced_nil ⟨[],H,I,.nil,h⟩
theorem zba (ha:PE X e te)(hr:PA X es t)(hs:starEach (e::es) X.env=(false,eval e X.env)::starEach es X.env := by rfl):PA X (e::es) (tCons te t) := by
 intro pos pins s σ H Q I h
 rw [hs]
 show wpAny _ _ (spliced ((false,eval e X.env)::backTo pos (starEach es X.env))) _ _ s
 refine Calls.spliced_cons (thn (ha pins s σ H _ I h) fun u s1 ⟨x,H1,I1,r1,q1⟩ => ?_)
 exact thn (hr pos pins s1 σ H1 _ I1 q1) fun us s2 ⟨xs,H2,I2,r2,q2⟩ => ⟨x::xs,H2,I2,.cons r1 r2,q2⟩
def tTup (t:TA):TE := fun σ H Q => t σ H fun xs H1 => xs.length<=sizeLine/\∀p,H1 p=none->Q (.ref p) (upd H1 p (.tup xs))
def tLst (t:TA):TE := fun σ H Q => t σ H fun xs H1 => xs.length<=sizeLine/\∀p,H1 p=none->Q (.ref p) (upd H1 p (.lst xs))
theorem zjC {x1}(h:PA X es t):PE X (.Tuple es x1 pos) (tTup t) := by
 intro pins s σ H Q I hq
 refine wpAny_Tuple_spliced (thn (h pos pins s σ H _ I hq) fun us s1 ⟨xs,H1,I1,r,z,q⟩ => ⟨by rw [<- r.length];exact z,?_⟩)
 have hf:H1 s1.heap.objs.size=none := I1.hok.fresh (Nat.le_refl _)
 refine ⟨.ref s1.heap.objs.size,upd H1 s1.heap.objs.size (.tup xs),I1.laid (t' := s1.toks) (fun b u e => Heap.get?_push_of_some _ e) (Nat.le_refl _) ?_,rfl,q _ hf⟩
 exact ⟨z,us,r,⟨_,Heap.get?_push_size _ rfl,rfl,_,rfl⟩⟩
theorem zhw (h:PA X es t):PE X (.List es pos) (tLst t) := by
 intro pins s σ H Q I hq
 refine wpAny_List_spliced (thn (h pos pins s σ H _ I hq) fun us s1 ⟨xs,H1,I1,r,z,q⟩ => ⟨by rw [<- r.length];exact z,?_⟩)
 have hf:H1 s1.heap.objs.size=none := I1.hok.fresh (Nat.le_refl _)
 refine ⟨.ref s1.heap.objs.size,upd H1 s1.heap.objs.size (.lst xs),I1.laid (t' := s1.toks) (fun b u e => Heap.get?_push_of_some _ e) (Nat.le_refl _) ?_,rfl,q _ hf⟩
 exact ⟨z,us,0,r,Heap.get?_push_size _ rfl⟩
end
abbrev Sp := List V->Hp->VK->XK->Prop
abbrev CXT := List Env->Hp->Shared->XK->Value->Shared->Prop
structure Env0 (P:Program)(w:World)(K:PySem.W.Frag)(mg:Str->Option Value)(base:Heap)(A:Around)(outer:List Env)(s:Shared)(H:Hp):Prop where
 frames:A.frames=some outer
 mod:Mod K mg base
 bs:∀b o,base.get? b=some o->s.heap.get? b=some o/\H b=none
 bsz:base.objs.size<=s.heap.objs.size
 funs:s.heap.FunFrames base outer
 frf:∀b∈frs outer,H b=none
 hok:HOk P w H s.heap
 bare:AllBare s.gens
def CE (outer:List Env)(P:Program)(w:World)(H:Hp)(s:Shared)(Q:VK)(u:Value)(s':Shared):Prop :=
 ∃v H',s'.os=s.os/\AllBare s'.gens/\Un (frs outer) [] H H' s.heap s'.heap/\HOk P w H' s'.heap/\RelV v u/\Q v H'
def CR (CX:CXT)(outer:List Env)(P:Program)(w:World)(H:Hp)(s:Shared)(Q:VK)(E:XK)(r:Result)(s':Shared):Prop :=
 match r with
 | .ok (.ret u) => CE outer P w H s Q u s'
 | .ok _ => False
 | .error e => CX outer H s E e s'
structure FnOk (P:Program)(w:World)(K:PySem.W.Frag)(mg:Str->Option Value)(base:Heap)(CX:CXT)(k:Nat)(f:Addr)(fd:FuncData)(ps:List Str)(sp:Sp):Prop where
 len:∀vs H Q E,sp vs H Q E->vs.length=ps.length
 run:∀(A:Around) (outer:List Env) (s:Shared) (H:Hp) (args:Args) (us:List Value) (vs:List V) (Q:VK) (E:XK),Room k A->Env0 P w K mg base A outer s H->BindsTo s fd args (ps.zip us)->Vals vs us->sp vs H Q E ->
  codeAny (model P w) A (.call (.ref f) args) (CR CX outer P w H s Q E) s
theorem FnOk.imp {P:Program}{w:World}{K:PySem.W.Frag}{mg:Str->Option Value}{base:Heap}{CX:CXT}{k:Nat}{f:Addr}{fd:FuncData}{ps:List Str}{sp sp':Sp}(F:FnOk P w K mg base CX k f fd ps sp)
  (h:∀vs H Q E,sp' vs H Q E->sp vs H Q E):FnOk P w K mg base CX k f fd ps sp' :=
 ⟨fun vs H Q E q => F.len vs H Q E (h _ _ _ _ q),fun A outer s H args us vs Q E hr he hb hv hs => F.run A outer s H args us vs Q E hr he hb hv (h _ _ _ _ hs)⟩
section
variable {X:Cx}{pins:List (Addr×Obj)}{σ:St}{H:Hp}{s s':Shared}
theorem Inv.env0 (I:Inv X pins σ H s):Env0 X.prog X.w X.K X.mg X.base X.A X.stack s H :=
 ⟨I.ok.frames,I.ok.mod,I.bs,Nat.le_trans I.ok.bsz I.sz,I.stack,I.stkFree,I.hok,I.bare⟩
theorem Inv.after {Q:VK}{u:Value}(I:Inv X pins σ H s)(h:CE X.stack X.prog X.w H s Q u s'):EP X pins σ Q u s' := by
 obtain ⟨v,H',os,bare,un,hok,r,q⟩ := h
 obtain ⟨hh,g,d,t,os'⟩ := s'
 obtain rfl:os'=s.os := os
 exact ⟨v,H',I.call (h' := hh) (g' := g) (d' := d) (t' := t) (ch := []) un hok bare (fun b z => absurd z (by simp)),r,q⟩
end
def Binds (K:PySem.W.Frag)(fd:FuncData)(ps:List Str)(ds:List Value):Prop :=
 ∀(s:Shared) (us:List Value),K.In s.heap->(us++ds).length=ps.length->BindsTo s fd ⟨us,[]⟩ (ps.zip (us++ds))
theorem Binds.all {K:PySem.W.Frag}{fd:FuncData}{ps:List Str}(h:∀us:List Value,us.length=ps.length->bindArgs fd ⟨us,[]⟩=pure (ps.zip us)):Binds K fd ps [] := fun s us _ hl => by
 rw [List.append_nil] at hl ⊢
 exact .of_eq (h us hl)
def Passes (CX:CXT)(X:Cx)(E:XK):Prop := ∀(pins:List (Addr×Obj)) (σ:St) (H:Hp) (s:Shared) (e:Value) (s':Shared),Inv X pins σ H s->CX X.stack H s E e s'->X.xe e s'
section
variable {X:Cx}{CX:CXT}{k:Nat}{f C:Addr}{fd:FuncData}{ps:List Str}{sp:Sp}{dvs:List V}{ds:List Value}{E:XK}{x m:Str}{p pos apos:Pos}{e o:Expr}{es:List Expr}{ta:TE}{t:TA}
end
def PK (X:Cx)(kws:List Keyword)(t:TA):Prop :=
 ∀(pos:Pos) (pins:List (Addr×Obj)) (s:Shared) (σ:St) (H:Hp) (Q:List V->Hp->Prop),Inv X pins σ H s->t σ H Q->wpAny (model X.prog X.w) X.A (evalAll ((backToKw pos (keywordEach kws X.env)).map (·.2))) (AP X pins σ Q) X.xe s
section
variable {X:Cx}{CX:CXT}{k:Nat}{f C:Addr}{fd:FuncData}{ps ks:List Str}{sp:Sp}{E:XK}{x m:Str}{p pos apos kpos:Pos}{e o:Expr}{es:List Expr}{kws:List Keyword}{te ta:TE}{t tk:TA}{nm:Option Str}
variable {g:List Value->List Value->List Value}{gV:List V->List V->List V}
end
structure FnScope (N P:List Str)(sc:Scope):Prop where
 kind:sc.kind=.function
 co:sc.isCoroutine=false
 gen:sc.isGenerator=false
 nd:N.Nodup
 pre:N.take P.length=P
 par:∀x∈P,sc.names.lookup x=some .local \/ sc.names.lookup x=some .cell
 nofree:∀y∈sc.names,y.2 ≠ .free
theorem zdx {kindOf:Str->Option NameKind}{x:Str}:∀{binds:List (Str×Value)} {m:Str->Option Value},(∀v,(x,v)∉binds)->bindL kindOf binds m x=m x
 | [],_,_ => rfl
 | (n,v)::r,m,h => by
  unfold bindL
  rw [zdx fun w hw => h w (List.mem_cons_of_mem _ hw)]
  split
  ·have:x≠n := by rintro rfl;exact h v List.mem_cons_self
   simp [this]
  ·rfl
theorem zds {kindOf:Str->Option NameKind}{x:Str}:∀{binds:List (Str×Value)} {m:Str->Option Value},(∀v,(x,v)∉binds)->bindC kindOf binds m x=m x
 | [],_,_ => rfl
 | (n,v)::r,m,h => by
  unfold bindC
  rw [zds fun w hw => h w (List.mem_cons_of_mem _ hw)]
  split
  ·rfl
  ·have:x≠n := by rintro rfl;exact h v List.mem_cons_self
   simp [this]
theorem zdq {kindOf:Str->Option NameKind}{x:Str}{v:Value}:∀{P:List Str} {vs:List Value} {i:Nat} {m:Str->Option Value},P.Nodup->P[i]?=some x->vs[i]?=some v->kindOf x=some .local ->
  bindL kindOf (P.zip vs) m x=some v
 | [],_,_,_,_,h,_,_ => by simp at h
 |_::_,[],_,_,_,_,h,_ => by simp at h
 |p::P,w::vs,0,m,nd,h1,h2,hk => by
  simp at h1 h2;subst h1;subst h2
  show bindL kindOf ((p,w)::P.zip vs) m p=_
  unfold bindL
  rw [zdx fun v hv => (List.nodup_cons.mp nd).1 (List.of_mem_zip hv).1,if_pos hk]
  simp
 |p::P,w::vs,i+1,m,nd,h1,h2,hk => by
  show bindL kindOf ((p,w)::P.zip vs) m x=_
  unfold bindL
  exact zdq (i := i) (List.nodup_cons.mp nd).2 (by simpa using h1) (by simpa using h2) hk
theorem zdw {kindOf:Str->Option NameKind}{x:Str}{v:Value}:∀{P:List Str} {vs:List Value} {i:Nat} {m:Str->Option Value},P.Nodup->P[i]?=some x->vs[i]?=some v->kindOf x≠some .local ->
  bindC kindOf (P.zip vs) m x=some v
 | [],_,_,_,_,h,_,_ => by simp at h
 |_::_,[],_,_,_,_,h,_ => by simp at h
 |p::P,w::vs,0,m,nd,h1,h2,hk => by
  simp at h1 h2;subst h1;subst h2
  show bindC kindOf ((p,w)::P.zip vs) m p=_
  unfold bindC
  rw [zds fun v hv => (List.nodup_cons.mp nd).1 (List.of_mem_zip hv).1,if_neg hk]
  simp
 |p::P,w::vs,i+1,m,nd,h1,h2,hk => by
  show bindC kindOf ((p,w)::P.zip vs) m x=_
  unfold bindC
  exact zdw (i := i) (List.nodup_cons.mp nd).2 (by simpa using h1) (by simpa using h2) hk
def start (N:List Str)(vs:List V):St := vs.map some++List.replicate (N.length - vs.length) none
def cxOf (CX:CXT)(P:Program)(w:World)(K:PySem.W.Frag)(mg:Str->Option Value)(base:Heap)(N:List Str)(qual:Str)(scope:Scope)(f:Addr)(cd:Value)(A:Around)(outer:List Env)(s:Shared)(H:Hp)(E:XK):Cx where
 prog := P
 w := w
 K := K
 mg := mg
 base := base
 A := A.deeper (envOfC qual scope s.heap.objs.size f cd)
 N := N
 s₀ := s
 H₀ := H
 env := envOfC qual scope s.heap.objs.size f cd
 outer := outer
 stack := envOfC qual scope s.heap.objs.size f cd::outer
 ex := []
 calm := true
 fn := fun _ => true
 pn := []
 xe := fun e s' => wpAny (model P w) (A.deeper (envOfC qual scope s.heap.objs.size f cd)) (leaving (envOfC qual scope s.heap.objs.size f cd) e) (fun _ s'' => CX outer H s E e s'') (fun e' s'' => CX outer H s E e' s'') s'
theorem zd7 {sc:Scope}{n:Nat}{x:Str}(h:sc.names.lookup x=some .cell):∃c,(cellsFrom n sc.names []).lookup x=some c := by
 have q := PySem.W.cellsFrom_some sc.names n [] (.inl h)
 exact Option.isSome_iff_exists.mp q
theorem zff {CX:CXT}{P:Program}{w:World}{K:PySem.W.Frag}{mg:Str->Option Value}{base:Heap}{N ps:List Str}{qual:Str}{scope:Scope}{f:Addr}{cd:Value}{A:Around}{outer:List Env}{s s1:Shared}{H:Hp}{E:XK}{us:List Value}{vs:List V}
  (S:FnScope N ps scope) (hd:A.handled=none) (e0:Env0 P w K mg base A outer s H) (hl:vs.length=ps.length) (r:Vals vs us)
  (x:InCallC s s.heap.objs.size (bindL (envOfC qual scope s.heap.objs.size f cd).kindOf (ps.zip us) fun _ => none) (cellsFrom (s.heap.objs.size+1) scope.names []) (bindC (envOfC qual scope s.heap.objs.size f cd).kindOf (ps.zip us) fun _ => none) s1) :
  Inv (cxOf CX P w K mg base N qual scope f cd A outer s H E) [] (start N vs) H s1 := by
 have hpl:ps.length<=N.length := by have := congrArg List.length S.pre;rw [List.length_take] at this;omega
 obtain ⟨h1,tk,rfl,hk⟩ := x.done
 have noA:∀b:Addr,b∉(cxOf CX P w K mg base N qual scope f cd A outer s H E).ex := fun b z => absurd (show b∈([]:List Addr) from z) (by simp)
 refine ⟨⟨e0.mod,S.kind,rfl,rfl,Nat.le_refl _,fun y z c h1 h2 => ?_,fun y hy => ?_,fun y c _ h => ?_,fun _ => hd,Around.frames_deeper e0.frames,.inr ⟨rfl,rfl⟩,fun b z => absurd z (noA b),e0.bs,e0.bsz,fun b _ _ => noA b,fun b z => absurd z (noA b),e0.funs,e0.frf⟩,
  rfl,e0.bare,Un.kept hk,⟨_,x.toInCall.ns,fun i y v h1 h2 h3 => ?_⟩,fun y c h => ⟨_,x.cell y c h⟩,e0.hok.fresh (Nat.le_refl _),fun y c h => ?_,fun p hp => absurd (show p∈([]:List (Addr×Obj)) from hp) (by simp),e0.hok.kept hk,?_⟩
 ·exact name_of_addr x.apart (PySem.mem_of_lookup h1) (PySem.mem_of_lookup h2)
 ·have hy:scope.names.lookup y=some .cell \/ scope.names.lookup y=some .free := hy
  rcases hy with hy|hy
  ·exact zd7 hy
  ·exact absurd rfl (S.nofree _ (PySem.mem_of_lookup hy))
 ·exact Nat.le_of_lt (x.above y c (PySem.mem_of_lookup h))
 ·have hi:i<vs.length := by
   unfold start at h2
   by_cases hi:i<vs.length
   ·exact hi
   ·rw [List.getElem?_append_right (by simpa using hi)] at h2
    rw [List.getElem?_replicate] at h2
    split at h2 <;> cases h2
  have ha:vs[i]?=some v := by
   unfold start at h2
   rw [List.getElem?_append_left (by simpa using hi),List.getElem?_map] at h2
   cases e:vs[i]? with
   |none => rw [e] at h2;cases h2
   |some a => rw [e] at h2;cases h2;rfl
  obtain ⟨u,hu,rv⟩ := r.get ha
  have hp:ps[i]?=some y := by
   rw [<- S.pre,List.getElem?_take_of_lt (by omega)];exact h1
  have ndP:ps.Nodup := by rw [<- S.pre];exact S.nd.sublist (List.take_sublist _ _)
  refine ⟨u,rv,?_⟩
  rcases S.par y (List.mem_of_getElem? hp) with k|k
  ·exact .inl ⟨k,zdq ndP hp hu k⟩
  ·obtain ⟨c,e⟩ := zd7 (n := s.heap.objs.size+1) k
   refine .inr ⟨.inl k,c,e,?_⟩
   have q := x.cell y c e
   rw [zdw ndP hp hu (by show scope.names.lookup y≠_;rw [k];decide)] at q
   exact q
 ·exact e0.hok.fresh (Nat.le_of_lt (x.above y c (PySem.mem_of_lookup h)))
 ·unfold start
  show _=N.length
  rw [List.length_append,List.length_map,List.length_replicate]
  omega
theorem zke {CX:CXT}{P:Program}{w:World}{K:PySem.W.Frag}{mg:Str->Option Value}{base:Heap}{k:Nat}{f:Addr}{name qual:Str}{params:Arguments}{body:List Stmt}{scope:Scope}{dV kV doc pm cdv ct oc:Value}{an od:Option Addr}
  {osl:Array (Option Value)} {N ps:List Str} {sp:Sp} (lk:K.lookup f=some ⟨oc,od,.func (PySem.W.fnOf name qual params body scope dV kV doc pm an cdv ct),osl⟩) (hcd:PySem.W.codeIn K cdv qual=true) (S:FnScope N ps scope)
  (len:∀vs H Q E,sp vs H Q E->vs.length=ps.length)
  (hbody:∀(A:Around) (outer:List Env) (s:Shared) (H:Hp) (vs:List V) (Q:VK) (E:XK),Room k (A.deeper (envOfC qual scope s.heap.objs.size f cdv))->sp vs H Q E ->
   ∃t,PSs (cxOf CX P w K mg base N qual scope f cdv A outer s H E) body t/\t { nx := fun _ H' => Q .non H',rt := Q } (start N vs) H) :
  FnOk P w K mg base CX (k+1) f (PySem.W.fnOf name qual params body scope dV kV doc pm an cdv ct) ps sp := by
 refine ⟨len,fun A outer s H args us vs Q E hr e0 hb r hsp => ?_⟩
 have hl := len _ _ _ _ hsp
 have KX:K.In s.heap := e0.mod.kin.keeps fun b o e => (e0.bs b o e).1
 have lim:s.heap.NoLimit := e0.mod.nolimit.keeps fun b o e => (e0.bs b o e).1
 have hkind:∀y∈ps.zip us,scope.names.lookup y.1=some .local \/ (scope.names.lookup y.1=some .cell/\((cellsFrom (s.heap.objs.size+1) scope.names []).lookup y.1).isSome=true) := fun ⟨n,v⟩ hy => by
  rcases S.par n (List.of_mem_zip hy).1 with q|q
  ·exact .inl q
  ·exact .inr ⟨q,PySem.W.cellsFrom_some _ _ _ (.inl q)⟩
 refine codeAny_call_function hr.depth (KX _ _ lk) rfl S.co S.gen rfl (PySem.W.codeRec_of KX hcd) (hb _ _ _ _ ?_)
 refine wpAny_newFunctionEnv_cells S.kind hkind fun env he s1 x => ?_
 subst he
 refine ⟨lim.keeps x.toInCall.keep,codeAny_func ?_⟩
 obtain ⟨t,ht,hq⟩ := hbody A outer s H vs Q E (hr.deeper _) hsp
 have I:Inv (cxOf CX P w K mg base N qual scope f cdv A outer s H E) [] (start N vs) H s1 := zff S hr.hd e0 hl r x
 refine wpAny_mono (ht [] s1 (start N vs) H _ I hq) (fun fl s' hs => ?_) fun e s' hs => hs
 have fin:∀{σ':St} {H':Hp} {v:V} {u:Value},Inv (cxOf CX P w K mg base N qual scope f cdv A outer s H E) [] σ' H' s'->RelV v u->Q v H'->CE outer P w H s Q u s' :=
  fun {σ' H' v u} J rv q => ⟨v,H',J.os,J.bare,J.base,J.hok,rv,q⟩
 cases fl with
 |ret u =>
  obtain ⟨v,σ',H',J,rv,q⟩ := hs
  exact fin J rv q
 |next =>
  obtain ⟨σ',H',J,q⟩ := hs
  exact fin (v := V.non) (u := Value.none) J rfl q
 |brk =>
  obtain ⟨_,_,_,q⟩ := hs
  exact False.elim q
 |cont =>
  obtain ⟨_,_,_,q⟩ := hs
  exact False.elim q
section
variable {X:Cx}{x:Str}{p pos:Pos}{e:Expr}{es:List Expr}{t:TA}{id T:String}{r:List V->Hp->VK->Prop}
def tCB (r:List V->Hp->VK->Prop)(t:TA):TE := fun σ H Q => t σ H fun vs H1 => r vs H1 Q
theorem zcG (hc:CallR X (.builtin id) r)(hg:Gl X x)(hm:X.mg x=none)(hv:bootBuiltins x=some (.builtin id))(ha:PA X (e::es) t)(hn:x ≠ "__name__" := by decide)(hdb:(x == ("__debug__":Str))=false := by decide)
  (he:starEach (e::es) X.env=(false,eval e X.env)::starEach es X.env := by rfl) (hpl:(backTo pos (starEach es X.env)).any (·.1)=false := by rfl):PE X (.Call (.Name x p) (e::es) [] pos) (tCB r t) := by
 intro pins s σ H Q I h
 refine wpAny_Call_Name_kw (zdp I hg hm hv ?_ hn hdb)
 exact PyProof.Rows.callWith_builtin1 (thn (ha pos pins s σ H _ I h) fun us s1 ⟨vs,H1,I1,r1,q1⟩ => hc pins s1 σ H1 vs us Q I1 r1 q1) he hpl
theorem zdk (hc:CallR X (.type T) r)(hg:Gl X x)(hm:X.mg x=none)(hv:bootBuiltins x=some (.type T))(ha:PA X (e::es) t)(hn:x ≠ "__name__" := by decide)(hdb:(x == ("__debug__":Str))=false := by decide)
  (he:starEach (e::es) X.env=(false,eval e X.env)::starEach es X.env := by rfl) (hpl:(backTo pos (starEach es X.env)).any (·.1)=false := by rfl):PE X (.Call (.Name x p) (e::es) [] pos) (tCB r t) := by
 intro pins s σ H Q I h
 refine wpAny_Call_Name_kw (zdp I hg hm hv ?_ hn hdb)
 exact PyProof.Rows.callWith_type1 (thn (ha pos pins s σ H _ I h) fun us s1 ⟨vs,H1,I1,r1,q1⟩ => hc pins s1 σ H1 vs us Q I1 r1 q1) he hpl
end
end L2
namespace HT
open PySem PyProof.Rows
section
open PySem.SeqAt
open PySem.AutoSeq1 (wpAny_loadPart')
open PySem.MeetsSeq PySem.MeetsSeq2 PySem.MeetsSeq3
end
section
variable {prog:Program}{w:World}{A:Around}{E:Value->Shared->Prop}{s:Shared}
theorem cat_tup {t b:Addr}{vs ws:List Value}{Q:Value->Shared->Prop}(ht:IsTup s.heap t vs.toArray)(hb:IsTup s.heap b ws.toArray)(hv:vs≠[])
  (h1:ws=[]->Q (.ref t) s) (h2:ws≠[]->Q (.ref s.heap.objs.size) { s with heap := s.heap.push { cls := .type "tuple",data := .seq (vs++ws).toArray } })
  (hsz:vs.length+ws.length<=sizeLine):wpAny (model prog w) A (binaryOp .Add (.ref t) (.ref b)) Q E s := by
 obtain ⟨⟨cls,dd,data,sl⟩,ho,hc,n,hd⟩ := id ht
 obtain ⟨⟨cls2,dd2,data2,sl2⟩,ho2,hc2,n2,hd2⟩ := id hb
 simp only at hc hd hc2 hd2
 subst hc hd hc2 hd2
 have e:vs.toArray++ws.toArray=(vs++ws).toArray := by simp
 by_cases hw:ws=[]
 ·exact concat_meets ⟨_,ho,rfl⟩ ⟨_,ho2,rfl⟩ noFill_tuple_add seq_tuple_add PySem.F.slot_tuple_add PySem.F.entry_tuple_add (PySem.F.args_tuple_add_2 _ _)
   (tuple_addW1 t b vs.toArray ws.toArray n n2 dd dd2 sl sl2 (by simpa using hv) (by simp [hw])) ⟨ho,ho2,h1 hw⟩
 ·refine concat_meets ⟨_,ho,rfl⟩ ⟨_,ho2,rfl⟩ noFill_tuple_add seq_tuple_add PySem.F.slot_tuple_add PySem.F.entry_tuple_add (PySem.F.args_tuple_add_2 _ _)
   (tuple_addW2 t b vs.toArray ws.toArray n n2 dd dd2 sl sl2 (by simpa using hv) (by simpa using hw) (by rw [List.size_toArray,List.size_toArray];exact hsz)) ⟨ho,ho2,?_⟩
  rw [e]
  exact h2 hw
def sIx (n d:Nat):Option Int->Nat
 |none => d
 |some v => if v<0 then (v+(n:Int)).toNat else min v.toNat n
theorem sIx_le (n d:Nat)(hd:d<=n)(o:Option Int):sIx n d o<=n := by
 cases o with
 |none => exact hd
 |some v =>
  show (if v<0 then (v+(n:Int)).toNat else min v.toNat n)<=n
  by_cases hv:v<0
  ·rw [if_pos hv];omega
  ·rw [if_neg hv];exact Nat.min_le_right _ _
theorem zfE (v:Int)(n d:Nat):(if v<0 then max (v+(n:Int)) 0 else min v (n:Int))=((sIx n d (some v):Nat):Int) := by
 show (if v<0 then max (v+(n:Int)) 0 else min v (n:Int))=(((if v<0 then (v+(n:Int)).toNat else min v.toNat n):Nat):Int)
 by_cases hv:v<0
 ·simp only [if_pos hv];omega
 ·simp only [if_neg hv];omega
theorem zeL (lo hi:Option Int)(n:Nat):Builtin.Slice.sliceAdjust lo hi 1 (n:Int)=(((sIx n 0 lo:Nat):Int),((sIx n n hi:Nat):Int)) := by
 have h1:¬((1:Int)<0) := by omega
 unfold Builtin.Slice.sliceAdjust
 simp only [h1,if_false]
 refine Prod.ext ?_ ?_
 ·cases lo with
  |none => rfl
  |some v => exact zfE v n 0
 ·cases hi with
  |none => rfl
  |some v => exact zfE v n n
theorem zeI (i j:Nat):Builtin.Slice.slicePlaces (i:Int) (j:Int) 1=j - i := by
 unfold Builtin.Slice.slicePlaces
 have h1:(1:Int) > 0 := by omega
 simp only [h1,if_true,Int.ediv_one]
 split <;> omega
theorem zcq {v:Value}{o:Option Int}{Q:Option Int->Shared->Prop}(p:IsPart v o)(h:Q o s):wpAny (model prog w) A (Builtin.Slice.slicePartIndex v) Q E s := by
 cases p with
 |none => exact slicePart_none h
 |int i t => exact slicePart_int h
theorem sliceApplied_gen {sl:Addr}{vl vu:Value}{lo hi:Option Int}{n:Nat}{Q:Int×Int×Nat->Shared->Prop}(hs:s.heap.IsSliceOf sl vl vu .none)(pl:IsPart vl lo)(pu:IsPart vu hi)
  (h:Q (((sIx n 0 lo:Nat):Int),1,sIx n n hi - sIx n 0 lo) s):wpAny (model prog w) A (Builtin.Slice.sliceApplied (.ref sl) (pure (n:Int))) Q E s := by
 obtain ⟨os,hos,hcs,hds⟩ := id hs
 unfold Builtin.Slice.sliceApplied Builtin.Slice.sliceFields
 refine wpAny_bind (wpAny_bind (wpAny_field hos hds (x := vl) rfl (wpAny_bind (wpAny_field hos hds (x := vu) rfl (wpAny_bind (wpAny_field hos hds (x := .none) rfl (wpAny_pure ?_)))))))
 refine wpAny_bind (slicePart_none ?_)
 show wpAny _ _ (if ((1:Int) == 0)=true then _ else _) _ _ s
 rw [if_neg (by decide)]
 refine wpAny_bind (zcq pl (wpAny_bind (zcq pu (wpAny_bind (wpAny_pure ?_)))))
 show wpAny _ _ (match Builtin.Slice.sliceAdjust lo hi 1 (n:Int) with|(lo,hi) => pure (lo,(1:Int),Builtin.Slice.slicePlaces lo hi 1)) _ _ s
 rw [zeL lo hi n]
 show wpAny _ _ (pure (((sIx n 0 lo:Nat):Int),(1:Int),Builtin.Slice.slicePlaces ((sIx n 0 lo:Nat):Int) ((sIx n n hi:Nat):Int) 1)) _ _ s
 rw [zeI]
 exact wpAny_pure h
theorem zg1 (xs:Array Value)(i k:Nat):((List.range k).filterMap fun (m:Nat) => xs[((i:Int)+(m:Int)*1).toNat]?).toArray=((xs.toList.drop i).take k).toArray := by
 have e:(fun (m:Nat) => xs[((i:Int)+(m:Int)*1).toNat]?)=fun m => xs[i+m]? := by
  funext m
  have:((i:Int)+(m:Int)*1).toNat=i+m := by omega
  rw [this]
 rw [e]
 have := pick_run xs i k
 rw [List.filterMap_map] at this
 have e2:((fun x => xs[x]?) ∘ fun x => i+x)=fun m => xs[i+m]? := rfl
 rw [e2] at this
 rw [this]
theorem getItem_tuple_cut {t sl:Addr}{items:Array Value}{vl vu:Value}{lo hi:Option Int}{Q:Value->Shared->Prop}(ht:IsTup s.heap t items)(hs:s.heap.IsSliceOf sl vl vu .none)(pl:IsPart vl lo)(pu:IsPart vu hi)
  (hw:¬(sIx items.size 0 lo=0/\sIx items.size items.size hi=items.size))
  (h:Q (.ref s.heap.objs.size) { s with heap := s.heap.push { cls := .type "tuple",data := .seq ((items.toList.drop (sIx items.size 0 lo)).take (sIx items.size items.size hi - sIx items.size 0 lo)).toArray } })
  (hsz:items.size<=sizeLine):wpAny (model prog w) A (getItem (.ref t) (.ref sl)) Q E s := by
 have htake:sizeOk (.seq ((items.toList.drop (sIx items.size 0 lo)).take (sIx items.size items.size hi - sIx items.size 0 lo)).toArray) := by
  show ((items.toList.drop (sIx items.size 0 lo)).take (sIx items.size items.size hi - sIx items.size 0 lo)).toArray.size<=sizeLine
  rw [List.size_toArray,List.length_take,List.length_drop,Array.length_toList]
  omega
 have hj:sIx items.size items.size hi<=items.size := sIx_le _ _ (Nat.le_refl _) hi
 obtain ⟨os,hos,hcs,hds⟩ := id hs
 have hTs:s.TypeIs (.ref sl) "slice" := ⟨os,hos,hcs⟩
 unfold getItem
 try with_reducible refine wpAny_holding ?_
 first|refine wpAny_bind (wpAny_pure ?_)|skip
 refine wpAny_bind (wpAny_sequenceKey ht.typeIs (by decide) ?_)
 refine wpAny_bind (wpAny_callSpecial?_slot (name := Str.ofString "__getitem__") ht.typeIs PyProof.Rows.slot_tuple_getitem
  (wpAny_call_entry PyProof.Rows.slot_tuple_getitem ht.typeIs entry_tuple_getitem ?_ (args_tuple_getitem _ _)))
 show wpAny _ _ (Builtin.Tuple.tupleItemsOf (.ref t) >>= _) _ _ s
 refine wpAny_bind (tupleItemsOf_ ht ?_)
 refine wpAny_bind (wpAny_typeOf hTs ?_)
 rw [if_pos (by decide)]
 refine wpAny_bind (sliceApplied_gen hs pl pu ?_)
 have hno:¬((((sIx items.size 0 lo:Nat):Int) == 0 && (1:Int) == 1 && (sIx items.size items.size hi - sIx items.size 0 lo) == items.size)=true) := by
  intro q
  rw [Bool.and_eq_true,Bool.and_eq_true] at q
  have q1:((sIx items.size 0 lo:Nat):Int)=0 := eq_of_beq q.1.1
  have q2:sIx items.size items.size hi - sIx items.size 0 lo=items.size := eq_of_beq q.2
  exact hw ⟨by omega,by omega⟩
 show wpAny _ _ (if (((sIx items.size 0 lo:Nat):Int) == 0 && (1:Int) == 1 && (sIx items.size items.size hi - sIx items.size 0 lo) == items.size)=true then _ else _) _ _ s
 rw [if_neg hno,zg1]
 first
  | exact wpAny_bind (m := Builtin.Tuple.tupleExact _) (wpAny_newObj_type (wpAny_pure ⟨_,rfl,wpAny_pure h⟩) htake)
  | exact wpAny_bind (m := Builtin.Tuple.tupleExact _) (wpAny_newObj_type (wpAny_bind (wpAny_pure (wpAny_pure ⟨_,rfl,wpAny_pure h⟩))) htake)
  | exact wpAny_bind (wpAny_bind (m := Builtin.Tuple.tupleExact _) (wpAny_newObj_type (wpAny_pure (wpAny_pure ⟨_,rfl,wpAny_pure h⟩)) htake))
  | exact wpAny_bind (wpAny_bind (m := Builtin.Tuple.tupleExact _) (wpAny_newObj_type (wpAny_pure ⟨_,rfl,wpAny_pure h⟩) htake))
end
end HT
namespace L2
open PySem PySem.Spec PyProof.Rows
abbrev TO := St->Hp->(Option Int->Hp->Prop)->Prop
def PO (X:Cx)(e:Option Expr)(t:TO):Prop :=
 ∀(pins:List (Addr×Obj)) (s:Shared) (σ:St) (H:Hp) (Q:Option Int->Hp->Prop),Inv X pins σ H s->t σ H Q ->
  wpAny (model X.prog X.w) X.A (evalPart e X.env) (fun u s' => ∃o H',Inv X pins σ H' s'/\IsPart u o/\Q o H') X.xe s
def tNoPart:TO := fun _ H Q => Q none H
section
variable {X:Cx}{e:Expr}{te:TE}{lo hi:Option Expr}{tl th:TO}{pos p2:Pos}
theorem zil:PO X none tNoPart := by
 intro pins s σ H Q I h
 rw [evalPart_none]
 exact wpAny_pure ⟨none,H,I,.none,h⟩
def SlR (X:Cx)(r:V->Option Int->Option Int->Hp->VK->Prop):Prop :=
 ∀(pins:List (Addr×Obj)) (s:Shared) (σ:St) (H:Hp) (x:V) (v vl vu:Value) (lo hi:Option Int) (sl:Addr) (Q:VK),Inv X pins σ H s->RelV x v->s.heap.IsSliceOf sl vl vu .none->IsPart vl lo->IsPart vu hi->r x lo hi H Q ->
  ∃T id,typeLookup (.type T) "__getitem__"=pure (some (.builtin id))/\s.TypeIs v T/\wpAny (model X.prog X.w) X.A (getItem v (.ref sl)) (EP X pins σ Q) X.xe s
def tSl (r:V->Option Int->Option Int->Hp->VK->Prop)(te:TE)(tl th:TO):TE := fun σ H Q => te σ H fun x H1 => tl σ H1 fun l H2 => th σ H2 fun u H3 => r x l u H3 Q
theorem zhg {r:V->Option Int->Option Int->Hp->VK->Prop}(hr:SlR X r)(he:PE X e te)(hl:PO X lo tl)(hu:PO X hi th):PE X (.Subscript e (.Slice lo hi none p2) pos) (tSl r te tl th) := by
 intro pins s σ H Q I h
 refine Subscript_ (thn (he pins s σ H _ I h) fun v s1 ⟨x,H1,I1,r1,q1⟩ => ?_)
 refine wpAny_Slice (thn (hl pins s1 σ H1 _ I1 q1) fun vl s2 ⟨l,H2,I2,pl,q2⟩ => thn (hu pins s2 σ H2 _ I2 q2) fun vu s3 ⟨u,H3,I3,pu,q3⟩ => ?_)
 rw [evalPart_none]
 refine wpAny_pure ?_
 have I4:Inv X pins σ H3 { s3 with heap := s3.heap.push { cls := .type "slice",data := .fields #[vl,vu,.none] } } := I3.kept (t' := s3.toks) fun b ob q => Heap.get?_push_of_some _ q
 obtain ⟨T,id,hT,ht,hg⟩ := hr pins { s3 with heap := s3.heap.push { cls := .type "slice",data := .fields #[vl,vu,.none] } } σ H3 x v vl vu l u s3.heap.objs.size Q I4 r1 (Heap.IsSliceOf.new ..) pl pu q3
 show wpAny (model X.prog X.w) X.A (subscriptTail e (.Slice lo hi none p2) v (.ref s3.heap.objs.size)) (EP X pins σ Q) X.xe { s3 with heap := s3.heap.push { cls := .type "slice",data := .fields #[vl,vu,.none] } }
 exact tail_any (ops := [.ref s3.heap.objs.size,v]) ht hT hg (by with_unfolding_all rfl)
def cutV (xs:List V)(lo hi:Option Int):List V := (xs.drop (HT.sIx xs.length 0 lo)).take (HT.sIx xs.length xs.length hi - HT.sIx xs.length 0 lo)
theorem zbX (xs:List V)(lo hi:Option Int):(cutV xs lo hi).length<=xs.length := by
 unfold cutV
 rw [List.length_take,List.length_drop]
 omega
def rSlT (K:PySem.W.Frag):V->Option Int->Option Int->Hp->VK->Prop := fun x lo hi H Q => ∃a xs,x=.ref a/\SqT K H a xs /\
 ¬(HT.sIx xs.length 0 lo=0/\HT.sIx xs.length xs.length hi=xs.length)/\∀p,H p=none->Q (.ref p) (upd H p (.tup (cutV xs lo hi)))
theorem zj2:SlR X (rSlT X.K) := by
 intro pins s σ H x v vl vu lo hi sl Q I rx hs pl pu h
 obtain ⟨a,xs,rfl,hx,hw,q⟩ := h
 cases rx
 obtain ⟨its,r,ht,hz⟩ := I.tuple hx
 have hlen:its.toArray.size=xs.length := by rw [List.size_toArray];exact r.length.symm
 refine ⟨"tuple",_,PyProof.Rows.slot_tuple_getitem.lookup,ht.typeIs,?_⟩
 refine HT.getItem_tuple_cut ht hs pl pu (by rw [hlen];exact hw) ?_ (by rw [hlen];exact hz)
 rw [hlen]
 refine ⟨.ref s.heap.objs.size,_,I.laid (t' := s.toks) (o := .tup (cutV xs lo hi)) (fun b ob q => Heap.get?_push_of_some _ q) (Nat.le_refl _) ?_,rfl,q _ (I.hok.fresh (Nat.le_refl _))⟩
 exact ⟨Nat.le_trans (zbX xs lo hi) hz,_,(r.drop (HT.sIx xs.length 0 lo)).take (HT.sIx xs.length xs.length hi - HT.sIx xs.length 0 lo),IsTup.new _ _⟩
def rCatT (K:PySem.W.Frag):R2 := fun x y H Q => ∃a b xs ys,x=.ref a/\y=.ref b/\SqT K H a xs/\SqT K H b ys/\xs≠[]/\xs.length+ys.length<=sizeLine /\
 (ys=[]->Q (.ref a) H)/\(ys≠[]->∀p,H p=none->Q (.ref p) (upd H p (.tup (xs++ys))))
theorem Vals.nil_iff {xs:List V}{us:List Value}(r:Vals xs us):us=[] ↔ xs=[] := by
 cases r with
 |nil => simp
 |cons _ _ => simp
theorem zh9:OpR X (binaryOp .Add) (rCatT X.K) := by
 intro pins s σ H x y v u Q I rx ry h
 obtain ⟨a,b,xs,ys,rfl,rfl,ha,hb,hx,hz,q1,q2⟩ := h
 cases rx
 cases ry
 obtain ⟨its,r1,p1,_⟩ := I.tuple ha
 obtain ⟨its2,r2,p2,_⟩ := I.tuple hb
 refine HT.cat_tup p1 p2 (fun z => hx (r1.nil_iff.mp z)) (fun z => ⟨.ref a,H,I,rfl,q1 (r2.nil_iff.mp z)⟩) (fun z => ?_) (by rw [<- r1.length,<- r2.length];exact hz)
 refine ⟨.ref s.heap.objs.size,_,I.laid (t' := s.toks) (o := .tup (xs++ys)) (fun b ob q => Heap.get?_push_of_some _ q) (Nat.le_refl _) ?_,rfl,q2 (fun w => z (r2.nil_iff.mpr w)) _ (I.hok.fresh (Nat.le_refl _))⟩
 exact ⟨by rw [List.length_append];exact hz,_,r1.append r2,IsTup.new _ _⟩
end
def ixN (n:Nat)(i:Int):Option Nat := if 0<=i then (if i<n then some i.toNat else none) else if -(n:Int)<=i then some (i+n).toNat else none
def atI {α:Type}(xs:List α)(i:Int):Option α := (ixN xs.length i).bind fun j => xs[j]?
theorem zeZ {n:Nat}{i:Int}{j:Nat}(h:ixN n i=some j):seqIndex? i n=some j/\j<n/\-(n:Int)<=i/\i<n := by
 unfold ixN at h
 by_cases h0:0<=i
 ·rw [if_pos h0] at h
  by_cases h1:i<n
  ·rw [if_pos h1] at h
   have e:i.toNat=j := Option.some.inj h
   exact ⟨by rw [seqIndex_of h0 h1,e],by omega,by omega,h1⟩
  ·rw [if_neg h1] at h;cases h
 ·rw [if_neg h0] at h
  by_cases h1:-(n:Int)<=i
  ·rw [if_pos h1] at h
   have e:(i+n).toNat=j := Option.some.inj h
   exact ⟨by rw [seqIndex_neg (by omega) h1,e],by omega,h1,by omega⟩
  ·rw [if_neg h1] at h;cases h
theorem zdO {α:Type}{xs:List α}{i:Int}{v:α}(h:atI xs i=some v):∃j,seqIndex? i xs.length=some j/\xs[j]?=some v/\j<xs.length/\-(xs.length:Int)<=i/\i<xs.length := by
 unfold atI at h
 cases e:ixN xs.length i with
 |none => rw [e] at h;cases h
 |some j =>
  rw [e] at h
  obtain ⟨h1,h2,h3,h4⟩ := zeZ e
  exact ⟨j,h1,h,h2,h3,h4⟩
def PlainIx (b:Expr):Prop := ∀o i,subscripted b false o i=operate [o,i] (getItem o i)
def IxR (X:Cx)(r:R2):Prop :=
 ∀(value slice:Expr) (pins:List (Addr×Obj)) (s:Shared) (σ:St) (H:Hp) (x y:V) (v u:Value) (Q:VK),Inv X pins σ H s->RelV x v->RelV y u->r x y H Q ->
  subscripted slice false v u=operate [v,u] (getItem v u)->wpAny (model X.prog X.w) X.A (subscriptTail value slice v u) (EP X pins σ Q) X.xe s
def MtR (X:Cx)(id:String)(r:V->List V->Hp->VK->Prop):Prop :=
 ∀(pins:List (Addr×Obj)) (s:Shared) (σ:St) (H:Hp) (x:V) (xs:List V) (v:Value) (us:List Value) (Q:VK),Inv X pins σ H s->RelV x v->Vals xs us->r x xs H Q ->
  wpAny (model X.prog X.w) X.A (call (.builtin id) (v::us)) (EP X pins σ Q) X.xe s
section
variable {X:Cx}{a b:Expr}{ta tb:TE}{pos:Pos}
theorem IxR.or {r r':R2}(h:IxR X r)(h':IxR X r'):IxR X (fun x y H Q => r x y H Q \/ r' x y H Q) := by
 intro value slice pins s σ H x y v u Q I rx ry q hs
 rcases q with q|q
 ·exact h value slice pins s σ H x y v u Q I rx ry q hs
 ·exact h' value slice pins s σ H x y v u Q I rx ry q hs
theorem zkF {r:R2}(hr:IxR X r)(ha:PE X a ta)(hb:PE X b tb)(hs:PlainIx b):PE X (.Subscript a b pos) (tOp r ta tb) := by
 intro pins s σ H Q I h
 exact Subscript_ (binT ha hb I h fun v u s2 x y H2 I2 rx ry q => hr a b pins s2 σ H2 x y v u Q I2 rx ry q (hs _ _))
def rIxL (K:PySem.W.Frag):R2 := fun x y H Q => ∃p xs i v,x=.ref p/\y=.int i/\SqL K H p xs/\atI xs i=some v/\Q v H
def rIxT (K:PySem.W.Frag):R2 := fun x y H Q => ∃p xs i v,x=.ref p/\y=.int i/\SqT K H p xs/\atI xs i=some v/\Q v H
def rIxS:R2 := fun x y H Q => ∃z i c,x=.str z/\y=.int i/\z.length<=sizeLine/\atI z.cps.toList i=some c/\Q (.str ⟨#[c]⟩) H
theorem ix_list:IxR X (rIxL X.K) := by
 intro value slice pins s σ H x y v u Q I rx ry h hs
 obtain ⟨p,xs,i,z,rfl,rfl,hq,he,q⟩ := h
 cases rx
 obtain ⟨t,rfl⟩ := ry
 obtain ⟨its,r,pl,hz⟩ := I.list hq
 obtain ⟨j,h1,h2,h3,h4,h5⟩ := zdO he
 obtain ⟨w,ew,rw'⟩ := r.get h2
 have hl := r.length
 have hn := line63
 have fin:EP X pins σ Q w s := ⟨z,H,I,rw',q⟩
 by_cases h0:0<=i
 ·have hj:i.toNat=j := by
   rw [seqIndex_of h0 h5] at h1
   exact Option.some.inj h1
  exact item_listR pl.isList h0 (by omega) (by rw [hj];simpa using ew) fin hs
 ·have hj:(i+(its.toArray.size:Int)).toNat=j := by
   rw [seqIndex_neg (by omega) h4] at h1
   rw [List.size_toArray,<- hl]
   exact Option.some.inj h1
  exact subscriptTail_builtinR (x := w) pl.isList.typeIs slot_list_getitem.lookup
   (wpAny_getItem_list_neg (Q := fun r s' => r=w/\EP X pins σ Q r s') pl.isList (by omega) (by rw [List.size_toArray] <;> omega) (by omega) (by rw [hj];simpa using ew) ⟨rfl,fin⟩) hs
theorem ix_tup:IxR X (rIxT X.K) := by
 intro value slice pins s σ H x y v u Q I rx ry h hs
 obtain ⟨p,xs,i,z,rfl,rfl,hq,he,q⟩ := h
 cases rx
 obtain ⟨t,rfl⟩ := ry
 obtain ⟨its,r,pl,hz⟩ := I.tuple hq
 obtain ⟨j,h1,h2,h3,h4,h5⟩ := zdO he
 obtain ⟨w,ew,rw'⟩ := r.get h2
 have hl := r.length
 have hn := line63
 have fin:EP X pins σ Q w s := ⟨z,H,I,rw',q⟩
 exact subscriptTail_builtinR (x := w) pl.typeIs slot_tuple_getitem.lookup
  (getItem_tuple (j := j) (Q := fun r s' => r=w/\EP X pins σ Q r s') pl (by omega) (by omega) (by rw [List.size_toArray,<- hl];exact h1) (by simpa using ew) ⟨rfl,fin⟩) hs
theorem zjk:IxR X rIxS := by
 intro value slice pins s σ H x y v u Q I rx ry h hs
 obtain ⟨z,i,c,rfl,rfl,hz,he,q⟩ := h
 obtain ⟨t,rfl⟩ := rx
 obtain ⟨t',rfl⟩ := ry
 obtain ⟨j,h1,h2,h3,h4,h5⟩ := zdO he
 have hl:z.cps.toList.length=z.length := by simp [Str.length]
 rw [hl] at h1 h4 h5
 have hn := line63
 exact tail_any (typeIs_str s z t) slot_str_getitem.lookup (getItem_str (c := c) (by
  have e1:decide (i < -(2 ^ 63:Int))=false := decide_eq_false (by omega)
  have e2:decide (i ≥ 2 ^ 63)=false := decide_eq_false (by omega)
  rw [e1,e2,Bool.or_false]) (by rw [h1];simpa using h2) ⟨.str ⟨#[c]⟩,H,I.tok _,⟨_,rfl⟩,q⟩) hs
def rIx (K:PySem.W.Frag):R2 := fun x y H Q => rIxL K x y H Q \/ rIxT K x y H Q \/ rIxS x y H Q
theorem zej:IxR X (rIx X.K) := ix_list.or (ix_tup.or zjk)
theorem zeo (its:List Value)(n j:Nat)(u:Value):Obj.mapSeq (·.setIfInBounds j u) { cls := .type "list",data := .seq its.toArray n }={ cls := .type "list",data := .seq (its.set j u).toArray n } := by
 simp [Obj.mapSeq]
theorem Inv.lst {pins:List (Addr×Obj)}{σ:St}{H:Hp}{s:Shared}{p:Addr}{xs:List V}(I:Inv X pins σ H s)(h:H p=some (.lst xs)) :
  ∃(its:List Value) (n:Nat),Vals xs its/\s.heap.get? p=some { cls := .type "list",data := .seq its.toArray n }/\xs.length<=sizeLine := by
 obtain ⟨z,its,n,r,e⟩ := I.hok p _ h
 exact ⟨its,n,r,e,z⟩
theorem Inv.lstUpd {pins:List (Addr×Obj)}{σ:St}{H:Hp}{s:Shared}{p:Addr}{xs ys:List V}{its its':List Value}{n n':Nat}{f:Obj->Obj}(I:Inv X pins σ H s)(h:H p=some (.lst xs))
  (ho:s.heap.get? p=some { cls := .type "list",data := .seq its.toArray n }) (hf:f { cls := .type "list",data := .seq its.toArray n }={ cls := .type "list",data := .seq its'.toArray n' }) (r:Vals ys its') (hz:ys.length<=sizeLine) (t:Nat) :
  Inv X pins σ (upd H p (.lst ys)) { s with heap := s.heap.update p f,toks := t } := by
 have e:(s.heap.update p f).get? p=some { cls := .type "list",data := .seq its'.toArray n' } := by
  rw [Heap.get?_update_self f ho (by rw [hf] <;> rfl),hf]
 refine I.write (x := p) (e := p) (by rw [h];trivial) (.inl rfl) (fun b u hb q => (Heap.get?_update_other _ _ (Ne.symm hb)).trans q) ⟨_,e⟩ ?_
 exact ⟨hz,its',n',r,e⟩
def rSetL:V->V->V->Hp->(Hp->Prop)->Prop := fun o i v H Q => ∃p xs k j,o=.ref p/\i=.int k/\H p=some (.lst xs)/\ixN xs.length k=some j/\Q (upd H p (.lst (xs.set j v)))
theorem zab:PSet X rSetL := by
 intro pins s σ H o i v ov iv u Q I ro ri rv h
 obtain ⟨p,xs,k,j,rfl,rfl,hp,hj,q⟩ := h
 cases ro
 obtain ⟨t,rfl⟩ := ri
 obtain ⟨its,n,r,ho,hz⟩ := I.lst hp
 obtain ⟨h1,h2,h3,h4⟩ := zeZ hj
 have hl := r.length
 have hn := line63
 have I':Inv X pins σ (upd H p (.lst (xs.set j v))) { s with heap := s.heap.update p (Obj.mapSeq (·.setIfInBounds j u)) } :=
  I.lstUpd hp ho (zeo its n j u) (r.set rv j) (by rw [List.length_set];exact hz) s.toks
 by_cases h0:0<=k
 ·have hk:k.toNat=j := by
   rw [seqIndex_of h0 h4] at h1
   exact Option.some.inj h1
  exact PySem.W.ki_setAt ho h0 (by omega) (by rw [List.size_toArray,<- hl];exact h4) (by rw [hk];exact ⟨_,I',q⟩)
 ·have hk:(k+(its.toArray.size:Int)).toNat=j := by
   rw [seqIndex_neg (by omega) h3] at h1
   rw [List.size_toArray,<- hl]
   exact Option.some.inj h1
  exact PySem.W.ki_setBack ho (by omega) (by rw [List.size_toArray,<- hl];exact h3) (by omega) (by rw [hk];exact ⟨_,I',q⟩)
theorem zde (lo hi:Option Int)(n:Nat):(sliceBounds lo hi none n).1=((HT.sIx n 0 lo:Nat):Int)/\(sliceBounds lo hi none n).2.1=((HT.sIx n n hi:Nat):Int)/\(sliceBounds lo hi none n).2.2=1 := by
 refine ⟨?_,?_,rfl⟩
 ·cases lo with
  |none => simp [sliceBounds,HT.sIx]
  |some i =>
   simp only [sliceBounds,HT.sIx,Option.getD_none,show (1:Int) > 0 by decide,if_true]
   by_cases h:i<0
   ·simp only [h,if_true] <;> omega
   ·simp only [h,if_false] <;> omega
 ·cases hi with
  |none => simp [sliceBounds,HT.sIx]
  |some i =>
   simp only [sliceBounds,HT.sIx,Option.getD_none,show (1:Int) > 0 by decide,if_true]
   by_cases h:i<0
   ·simp only [h,if_true] <;> omega
   ·simp only [h,if_false] <;> omega
theorem zcY (its:List Value)(lo hi:Option Int):slicePick its.toArray lo hi none=((its.drop (HT.sIx its.length 0 lo)).take (HT.sIx its.length its.length hi - HT.sIx its.length 0 lo)).toArray := by
 obtain ⟨h1,h2,h3⟩ := zde lo hi its.toArray.size
 unfold slicePick
 rw [h1,h2,h3]
 simp only [sliceRange_one,pick_run,List.size_toArray] <;> rfl
def rSlL (K:PySem.W.Frag):V->Option Int->Option Int->Hp->VK->Prop := fun x lo hi H Q => ∃a xs,x=.ref a/\SqL K H a xs/\∀p,H p=none->Q (.ref p) (upd H p (.lst (cutV xs lo hi)))
theorem zfY:SlR X (rSlL X.K) := by
 intro pins s σ H x v vl vu lo hi sl Q I rx hs pl pu h
 obtain ⟨a,xs,rfl,hx,q⟩ := h
 cases rx
 obtain ⟨its,r,ht,hz⟩ := I.list hx
 have hlen := r.length
 refine ⟨"list",_,slot_list_getitem.lookup,ht.isList.typeIs,?_⟩
 refine wpAny_getItem_list_slice ht.isList hs pl pu .none (by simp) ?_ (by rw [List.size_toArray] <;> omega)
 rw [zcY,<- hlen]
 refine ⟨.ref s.heap.objs.size,_,I.laid (t' := s.toks) (o := .lst (cutV xs lo hi)) (fun b ob q => Heap.get?_push_of_some _ q) (Nat.le_refl _) ?_,rfl,q _ (I.hok.fresh (Nat.le_refl _))⟩
 exact ⟨Nat.le_trans (zbX xs lo hi) hz,_,0,(r.drop (HT.sIx xs.length 0 lo)).take (HT.sIx xs.length xs.length hi - HT.sIx xs.length 0 lo),Heap.get?_push_size _ rfl⟩
def flatV:V->Bool
 | .non => true
 | .bl _ => true
 | .int _ => true
 | .str _ => true
 |_ => false
def eqV:V->V->Bool
 | .non,.non => true
 | .bl a,.bl b => a == b
 | .bl a,.int b => (if a then 1 else 0) == b
 | .int a,.bl b => a == (if b then 1 else 0)
 | .int a,.int b => a == b
 | .str a,.str b => a == b
 |_,_ => false
theorem zjd {A:Around}{s:Shared}{y x:V}{u v:Value}(ry:RelV y u)(rx:RelV x v)(fy:flatV y=true)(fx:flatV x=true):SeqAt.EqAt A s u v (eqV y x) := by
 cases y with
 |non =>
  cases ry
  cases x with
  |non => cases rx;exact SeqAt.EqAt.same _
  |bl b => cases rx;exact SeqAt.EqAt.none_bool b
  |int b => obtain ⟨t,rfl⟩ := rx;exact SeqAt.EqAt.none_int b t
  |str b => obtain ⟨t,rfl⟩ := rx;exact SeqAt.EqAt.none_str b t
  |_ => exact absurd (show false=true from fx) Bool.false_ne_true
 |bl a =>
  cases ry
  cases x with
  |non => cases rx;exact SeqAt.EqAt.bool_none a
  |bl b => cases rx;exact SeqAt.EqAt.bool_bool a b
  |int b => obtain ⟨t,rfl⟩ := rx;exact SeqAt.EqAt.bool_int a b t
  |str b => obtain ⟨t,rfl⟩ := rx;exact SeqAt.EqAt.bool_str a b t
  |_ => exact absurd (show false=true from fx) Bool.false_ne_true
 |int a =>
  obtain ⟨t',rfl⟩ := ry
  cases x with
  |non => cases rx;exact SeqAt.EqAt.int_none a t'
  |bl b => cases rx;exact SeqAt.EqAt.int_bool a t' b
  |int b => obtain ⟨t,rfl⟩ := rx;exact SeqAt.EqAt.int_int a t' b t
  |str b => obtain ⟨t,rfl⟩ := rx;exact SeqAt.EqAt.int_str a t' b t
  |_ => exact absurd (show false=true from fx) Bool.false_ne_true
 |str a =>
  obtain ⟨t',rfl⟩ := ry
  cases x with
  |non => cases rx;exact SeqAt.EqAt.str_none a t'
  |bl b => cases rx;exact SeqAt.EqAt.str_bool a t' b
  |int b => obtain ⟨t,rfl⟩ := rx;exact SeqAt.EqAt.str_int a t' b t
  |str b => obtain ⟨t,rfl⟩ := rx;exact SeqAt.EqAt.str_str a t' b t
  |_ => exact absurd (show false=true from fx) Bool.false_ne_true
 |_ => exact absurd (show false=true from fy) Bool.false_ne_true
def eqU (x:V)(u:Value):Bool := match u with
 | .none => eqV .non x
 | .bool b => eqV (.bl b) x
 | .int i _ => eqV (.int i) x
 | .str z _ => eqV (.str z) x
 |_ => false
theorem zhk {x y:V}{u:Value}(r:RelV y u)(f:flatV y=true):eqU x u=eqV y x := by
 cases y with
 |non => cases r;rfl
 |bl b => cases r;rfl
 |int i => obtain ⟨t,rfl⟩ := r;rfl
 |str z => obtain ⟨t,rfl⟩ := r;rfl
 |_ => exact absurd (show false=true from f) Bool.false_ne_true
theorem zbZ {x:V}:∀{xs:List V} {us:List Value},Vals xs us->xs.all flatV=true->us.any (eqU x)=xs.any fun y => eqV y x
 |_,_,.nil,_ => rfl
 |y::xs,u::us,.cons r t,f => by
  rw [List.all_cons,Bool.and_eq_true] at f
  rw [List.any_cons,List.any_cons,zhk r f.1,zbZ t f.2]
theorem zbl {A:Around}{s:Shared}{x:V}{v:Value}(rx:RelV x v)(fx:flatV x=true):∀{xs:List V} {us:List Value},Vals xs us->xs.all flatV=true->∀u∈us,SeqAt.EqAt A s u v (eqU x u)
 |_,_,.nil,_ => fun u hu => by cases hu
 |y::xs,u::us,.cons r t,f => fun u' hu => by
  rw [List.all_cons,Bool.and_eq_true] at f
  rcases List.mem_cons.mp hu with rfl|hu
  ·rw [zhk r f.1];exact zjd r rx f.1 fx
  ·exact zbl rx fx t f.2 u' hu
def inV (x:V)(xs:List V):Bool := xs.any fun y => eqV y x
def rIn (K:PySem.W.Frag)(neg:Bool):R2 := fun x y H Q => ∃p xs,y=.ref p/\(SqL K H p xs \/ SqT K H p xs)/\flatV x=true/\xs.all flatV=true/\Q (.bl (if neg then !inV x xs else inV x xs)) H
theorem zc7:OpR X (compareOp .In) (rIn X.K false) := by
 intro pins s σ H x y v u Q I rx ry h
 obtain ⟨p,xs,rfl,hq,fx,fs,q⟩ := h
 cases ry
 rcases hq with hq|hq
 ·obtain ⟨its,r,pl,hz⟩ := I.list hq
  refine SeqAt.in_listAt (eqU x) pl.isList (fun w hw => zbl rx fx r fs w (by simpa using hw)) ⟨.bl _,H,I,rfl,?_⟩
  rw [show its.toArray.any (eqU x)=its.any (eqU x) by simp,zbZ r fs]
  exact q
 ·obtain ⟨its,r,pl,hz⟩ := I.tuple hq
  refine SeqAt.in_tupleAt (eqU x) pl (fun w hw => zbl rx fx r fs w (by simpa using hw)) ⟨.bl _,H,I,rfl,?_⟩
  rw [show its.toArray.any (eqU x)=its.any (eqU x) by simp,zbZ r fs]
  exact q
theorem zbC:OpR X (compareOp .NotIn) (rIn X.K true) := by
 intro pins s σ H x y v u Q I rx ry h
 obtain ⟨p,xs,rfl,hq,fx,fs,q⟩ := h
 cases ry
 rcases hq with hq|hq
 ·obtain ⟨its,r,pl,hz⟩ := I.list hq
  refine SeqAt.notIn_listAt (eqU x) pl.isList (fun w hw => zbl rx fx r fs w (by simpa using hw)) ⟨.bl _,H,I,rfl,?_⟩
  rw [show its.toArray.any (eqU x)=its.any (eqU x) by simp,zbZ r fs]
  exact q
 ·obtain ⟨its,r,pl,hz⟩ := I.tuple hq
  refine SeqAt.notIn_tupleAt (eqU x) pl (fun w hw => zbl rx fx r fs w (by simpa using hw)) ⟨.bl _,H,I,rfl,?_⟩
  rw [show its.toArray.any (eqU x)=its.any (eqU x) by simp,zbZ r fs]
  exact q
theorem zdc:CallR X (.builtin "len") (fun xs H Q => ∃p ys,xs=[.ref p]/\(SqL X.K H p ys \/ SqT X.K H p ys)/\Q (.int ys.length) H) := by
 intro pins s σ H xs us Q I r h
 obtain ⟨p,ys,rfl,hq,q⟩ := h
 obtain ⟨u,rfl,rx⟩ := vals1 r
 cases rx
 have hn := line63
 rcases hq with hq|hq
 ·obtain ⟨its,r',pl,hz⟩ := I.list hq
  have hlen := r'.length
  exact Calls.call_len_list pl.isList (by simp only [List.size_toArray] <;> omega) ⟨.int ys.length,H,I.tok _,⟨s.toks+1,by rw [List.size_toArray,hlen]⟩,q⟩
 ·obtain ⟨its,r',pl,hz⟩ := I.tuple hq
  have hlen := r'.length
  exact len_tuple pl (by simp only [List.size_toArray] <;> omega) ⟨.int ys.length,H,I.tok _,⟨s.toks+1,by rw [List.size_toArray,hlen]⟩,q⟩
theorem zdo:CallR X (.builtin "len") (fun xs H Q => ∃z,xs=[.str z]/\z.length<=sizeLine/\Q (.int z.length) H) := by
 intro pins s σ H xs us Q I r h
 obtain ⟨z,rfl,hz,q⟩ := h
 obtain ⟨u,rfl,t,rfl⟩ := vals1 r
 have hn := line63
 exact len_str (by omega) ⟨.int z.length,H,I.tok _,⟨_,rfl⟩,q⟩
theorem zbB:CallR X (.type "list") (fun xs H Q => ∃p ys,xs=[.ref p]/\(SqL X.K H p ys \/ SqT X.K H p ys)/\∀l,H l=none->Q (.ref l) (upd H l (.lst ys))) := by
 intro pins s σ H xs us Q I r h
 obtain ⟨p,ys,rfl,hq,q⟩ := h
 obtain ⟨u,rfl,rx⟩ := vals1 r
 cases rx
 have fin:∀(its:List Value),Vals ys its->ys.length<=sizeLine->∀(h':Heap) (c':Nat),(∀b o',s.heap.get? b=some o'->h'.get? b=some o') ->
   h'.get? s.heap.objs.size=some { cls := .type "list",dict := none,data := .seq its.toArray c',slots := #[] }->EP X pins σ Q (.ref s.heap.objs.size) { s with heap := h' } := fun its r' hz h' c' kp e =>
  ⟨.ref s.heap.objs.size,_,I.laid (t' := s.toks) kp (Nat.le_refl _) (show ObjOk X.prog X.w _ h' _ (.lst ys) from ⟨hz,its,c',r',e⟩),rfl,q _ (I.hok.fresh (Nat.le_refl _))⟩
 rcases hq with hq|hq
 ·obtain ⟨its,r',pl,hz⟩ := I.list hq
  have hlen := r'.length
  obtain ⟨o,ho,hc,n,hd⟩ := pl.isList
  exact call_list_seq p (.inl rfl) ho hc hd (fun h' c' kp e => fin its r' hz h' c' kp e) (by simp only [List.size_toArray] <;> omega)
 ·obtain ⟨its,r',pl,hz⟩ := I.tuple hq
  have hlen := r'.length
  obtain ⟨o,ho,hc,n,hd⟩ := pl
  exact call_list_seq p (.inr rfl) ho hc hd (fun h' c' kp e => fin its r' hz h' c' kp e) (by simp only [List.size_toArray] <;> omega)
theorem zbc:CallR X (.type "tuple") (fun xs H Q => ∃p ys,xs=[.ref p]/\((SqL X.K H p ys/\∀l,H l=none->Q (.ref l) (upd H l (.tup ys))) \/ (SqT X.K H p ys/\Q (.ref p) H))) := by
 intro pins s σ H xs us Q I r h
 obtain ⟨p,ys,rfl,h⟩ := h
 obtain ⟨u,rfl,rx⟩ := vals1 r
 cases rx
 rcases h with ⟨hq,q⟩|⟨hq,q⟩
 ·obtain ⟨its,r',pl,hz⟩ := I.list hq
  have hlen := r'.length
  refine call_tuple_list pl.isList (fun h' kp => ?_) (by simp only [List.size_toArray] <;> omega)
  have I1:Inv X pins σ H { s with heap := h' } := I.kept (t' := s.toks) kp
  have I2:Inv X pins σ (upd H h'.objs.size (.tup ys)) { s with heap := h'.push { cls := .type "tuple",data := .seq its.toArray } } :=
   I1.laid (t' := s.toks) (fun b o e => Heap.get?_push_of_some _ e) (Nat.le_refl _) (show ObjOk X.prog X.w _ _ _ (.tup ys) from ⟨hz,its,r',IsTup.new _ _⟩)
  exact ⟨.ref h'.objs.size,_,I2,rfl,q _ (I1.hok.fresh (Nat.le_refl _))⟩
 ·obtain ⟨its,r',pl,hz⟩ := I.tuple hq
  exact call_tuple_same pl ⟨.ref p,H,I,rfl,q⟩
def tyV (K:PySem.W.Frag)(T:String)(x:V)(H:Hp):Prop := match x with
 | .str _ => T="str"
 | .int _ => T="int"
 | .ref p => (T="list"/\∃xs,SqL K H p xs) \/ (T="tuple"/\∃o,K.lookup p=some o/\o.cls=.type "tuple"/\o.dict=none) \/
   (T="dict"/\((∃kvs,H p=some (.dK kvs)) \/ ∃kvs,H p=some (.dT kvs))) \/ (T="set"/\∃S n,H p=some (.set S n))
 |_ => False
theorem zhD {pins:List (Addr×Obj)}{σ:St}{H:Hp}{s:Shared}{T:String}{x:V}{v:Value}(I:Inv X pins σ H s)(r:RelV x v)(ty:tyV X.K T x H) :
  s.TypeIs v T/\∀a,v=.ref a->∃ob,s.heap.get? a=some ob/\ob.dict=none := by
 cases x with
 |str z =>
  obtain ⟨t,rfl⟩ := r
  cases (show T="str" from ty)
  exact ⟨typeIs_str s z t,fun _ e => nomatch e⟩
 |int i =>
  obtain ⟨t,rfl⟩ := r
  cases (show T="int" from ty)
  exact ⟨typeIs_int s i t,fun _ e => nomatch e⟩
 |ref p =>
  cases r
  rcases ty with ⟨rfl,xs,hq⟩|⟨rfl,o,hk,hc,hd⟩|⟨rfl,hk⟩|⟨rfl,S,n,hk⟩
  ·obtain ⟨its,_,pl,_⟩ := I.list hq
   refine ⟨pl.isList.typeIs,fun a e => ?_⟩
   cases e
   obtain ⟨o,n,e,c,hd,_⟩ := pl
   exact ⟨o,e,hd⟩
  ·refine ⟨⟨o,I.kIn p o hk,hc⟩,fun a e => ?_⟩
   cases e
   exact ⟨o,I.kIn _ o hk,hd⟩
  ·have z:∃o,s.heap.get? p=some o/\o.ExactDict := by
    rcases hk with ⟨kvs,hk⟩|⟨kvs,hk⟩
    ·obtain ⟨_,_,_,_,o,_,_,e,ex,_⟩ := I.hok p _ hk
     exact ⟨o,e,ex⟩
    ·obtain ⟨_,_,_,_,o,_,_,e,ex,_⟩ := I.hok p _ hk
     exact ⟨o,e,ex⟩
   obtain ⟨o,e,ex⟩ := z
   refine ⟨⟨o,e,ex.1⟩,fun a e2 => ?_⟩
   cases e2
   exact ⟨o,e,ex.2.1⟩
  ·obtain ⟨o,_,_,_,e,ex,_⟩ := I.hok p _ hk
   refine ⟨⟨o,e,ex.1⟩,fun a e2 => ?_⟩
   cases e2
   exact ⟨o,e,ex.2.1⟩
 |_ => exact False.elim ty
def tBM0 (K:PySem.W.Frag)(T:String)(r:V->List V->Hp->VK->Prop)(to:TE):TE := fun σ H Q => to σ H fun x H1 => tyV K T x H1/\r x [] H1 Q
def tBM (K:PySem.W.Frag)(T:String)(r:V->List V->Hp->VK->Prop)(to:TE)(t:TA):TE := fun σ H Q => to σ H fun x H1 => tyV K T x H1/\t σ H1 fun xs H2 => r x xs H2 Q
variable {o e:Expr}{es:List Expr}{to:TE}{t:TA}{name:Str}{apos cpos:Pos}{T id:String}{r:V->List V->Hp->VK->Prop}
theorem zju (pa:PlainAttrs T)(slot:Slot T name id)(hty:typeOf (.builtin id)=pure (.type "method_descriptor"))(hm:MtR X id r)(ho:PE X o to)
  (hbase:attributeBase o name X.env (eval o X.env)=eval o X.env := by rfl) (hline:(apos.endLine == cpos.line)=true := by rfl):PE X (.Call (.Attribute o name apos) [] [] cpos) (tBM0 X.K T r to) := by
 intro pins s σ H Q I h
 refine wpAny_Call_method0_late hbase hline (thn (ho pins s σ H _ I h) fun v s1 ⟨x,H1,I1,r1,ty,q1⟩ => ?_)
 obtain ⟨h1,h2⟩ := zhD I1 r1 ty
 exact ⟨T,id,pa,slot,hty,h1,h2,Calls.callWith_builtin rfl (PySem.evalArgs_none (hm pins s1 σ H1 x [] v [] Q I1 r1 .nil q1))⟩
theorem zkE (pa:PlainAttrs T)(slot:Slot T name id)(hty:typeOf (.builtin id)=pure (.type "method_descriptor"))(hm:MtR X id r)(ho:PE X o to)(ha:PA X (e::es) t)
  (hbase:attributeBase o name X.env (eval o X.env)=eval o X.env := by rfl)
  (hfew:((backTo cpos (starEach (e::es) X.env)).all (fun x => !x.1) && (backToKw cpos (keywordEach [] X.env)).all (fun x => x.1.isSome)
   && decide ((e::es).length+([]:List Keyword).length+(if ([]:List Keyword).isEmpty then 0 else 1)<30))=true := by rfl)
  (hline:(apos.endLine == cpos.line)=true := by rfl) (hs:starEach (e::es) X.env=(false,eval e X.env)::starEach es X.env := by rfl) (hplain:(backTo cpos (starEach es X.env)).any (·.1)=false := by rfl) :
  PE X (.Call (.Attribute o name apos) (e::es) [] cpos) (tBM X.K T r to t) := by
 intro pins s σ H Q I h
 refine wpAny_Call_method_late hbase hfew hline rfl (thn (ho pins s σ H _ I h) fun v s1 ⟨x,H1,I1,r1,ty,q1⟩ => ?_)
 obtain ⟨h1,h2⟩ := zhD I1 r1 ty
 refine ⟨T,id,pa,slot,hty,h1,h2,?_⟩
 have hA := ha cpos pins s1 σ H1 _ I1 q1
 rw [hs] at hA ⊢
 refine Calls.callWith_builtin (by show (false || (backTo cpos (starEach es X.env)).any (·.1))=false;rw [hplain] <;> rfl) (Calls.evalArgs_plain ?_)
 exact thn hA fun us s2 ⟨vs,H2,I2,r2,q2⟩ => hm pins s2 σ H2 x vs v us Q I2 r1 r2 q2
/- xs.append(e),list.index on a module's tuple .. are MtR facts of 06m -/
end
def MtM (X:Cx)(id:String)(r:V->List V->Hp->VK->Prop):Prop :=
 ∀(pins:List (Addr×Obj)) (s:Shared) (σ:St) (H:Hp) (x:V) (xs:List V) (v:Value) (us:List Value) (Q:VK),Inv X pins σ H s->RelV x v->Vals xs us->r x xs H Q ->
  wpAny (model X.prog X.w) X.A (call (.builtin id) (v::us)) (EP X pins σ Q) X.xe s
theorem Vals.one:∀{x:V} {us:List Value},Vals [x] us->∃u,us=[u]/\RelV x u
 |_,_,.cons r .nil => ⟨_,rfl,r⟩
theorem Vals.zero:∀{us:List Value},Vals [] us->us=[]
 |_,.nil => rfl
theorem Vals.dropLast {xs:List V}{us:List Value}(h:Vals xs us):Vals xs.dropLast us.dropLast := by
 induction h with
 |nil => exact .nil
 |cons r t ih =>
  cases t with
  |nil => exact .nil
  |cons q t' => exact .cons r ih
theorem Vals.eraseIdx:∀{xs:List V} {us:List Value} (i:Nat),Vals xs us->Vals (xs.eraseIdx i) (us.eraseIdx i)
 |_,_,_,.nil => .nil
 |_,_,0,.cons _ t => t
 |_,_,i+1,.cons r t => .cons r (Vals.eraseIdx i t)
theorem zez {α:Type}(l:List α):l.eraseIdx (l.length - 1)=l.dropLast := by
 induction l with
 |nil => rfl
 |cons a r ih =>
  cases r with
  |nil => rfl
  |cons b r =>
   have e:(a::b::r).length - 1=((b::r).length - 1)+1 := by
    have h1:(a::b::r).length=r.length+2 := rfl
    have h2:(b::r).length=r.length+1 := rfl
    omega
   rw [e,List.eraseIdx_cons_succ,ih]
   all_goals rfl
section
variable {X:Cx}{pins:List (Addr×Obj)}{σ:St}{H:Hp}{s:Shared}{l b:Addr}{xs ys zs:List V}
theorem Inv.lset {its its':List Value}{n:Nat}{f:Array Value->Array Value}{t':Nat}(I:Inv X pins σ H s)(hH:H l=some (.lst xs))
  (e:s.heap.get? l=some { cls := .type "list",data := .seq its.toArray n }) (hf:f its.toArray=its'.toArray) (hv:Vals ys its') (hz:ys.length<=sizeLine) :
  Inv X pins σ (upd H l (.lst ys)) { s with heap := s.heap.update l (Obj.mapSeq f),toks := t' } := by
 have q := PySem.IsL.update e f
 rw [hf] at q
 refine I.write (x := l) (e := l) (by rw [hH];exact trivial) (.inl rfl) (fun b' u hb hu => (Heap.get?_update_other s.heap (Obj.mapSeq f) (Ne.symm hb)).trans hu) ⟨_,q⟩ ?_
 exact ⟨hz,its',_,hv,q⟩
theorem Inv.lnew {its:List Value}{t':Nat}(I:Inv X pins σ H s)(hv:Vals ys its)(hz:ys.length<=sizeLine) :
  Inv X pins σ (upd H s.heap.objs.size (.lst ys)) { s with heap := s.heap.push { cls := .type "list",data := .seq its.toArray },toks := t' } :=
 I.laid (fun _ _ q => Heap.get?_push_of_some _ q) (Nat.le_refl _) ⟨hz,its,0,hv,Heap.get?_push_size _ rfl⟩
theorem Inv.fresh (I:Inv X pins σ H s):H s.heap.objs.size=none := I.hok.fresh (Nat.le_refl _)
theorem Inv.lstM (I:Inv X pins σ H s)(hH:H l=some (.lst xs)):xs.length<=sizeLine/\∃(its:List Value) (n:Nat),Vals xs its/\xs.length=its.length/\s.heap.get? l=some { cls := .type "list",data := .seq its.toArray n } := by
 obtain ⟨z,its,n,r,e⟩ := I.hok l _ hH
 exact ⟨z,its,n,r,r.length,e⟩
theorem notLongL {n:Nat}(h:n<=sizeLine):Builtin.List.listTooLong n=false := by
 unfold Builtin.List.listTooLong
 exact decide_eq_false (by omega)
end
section
variable {X:Cx}
def rAppend:V->List V->Hp->VK->Prop := fun x vs H Q => ∃l xs y,x=.ref l/\vs=[y]/\H l=some (.lst xs)/\xs.length<sizeLine/\Q .non (upd H l (.lst (xs++[y])))
theorem zeS:MtM X "list.append" rAppend := by
 intro pins s σ H x vs v us Q I rx rv h
 obtain ⟨l,xs,y,rfl,rfl,hH,hz,q⟩ := h
 cases rx
 obtain ⟨u,rfl,ru⟩ := rv.one
 obtain ⟨z,its,n,r,hl,e⟩ := I.lstM hH
 refine call_meets F.slot_list_append ⟨_,e,rfl⟩ F.entry_list_append (F.args_list_append_2 _ _) (PySem.list_append l its.toArray n u (by rw [List.size_toArray];omega)) ⟨e,?_⟩
 refine ⟨.non,_,I.lset (its' := its++[u]) hH e (by simp) (r.append (.cons ru .nil)) ?_,rfl,q⟩
 rw [List.length_append,List.length_singleton]
 omega
def rExtend:V->List V->Hp->VK->Prop := fun x vs H Q => ∃l b xs zs,x=.ref l/\vs=[.ref b]/\H l=some (.lst xs)/\H b=some (.lst zs)/\xs.length+zs.length<=sizeLine/\Q .non (upd H l (.lst (xs++zs)))
theorem zj9:MtM X "list.extend" rExtend := by
 intro pins s σ H x vs v us Q I rx rv h
 obtain ⟨l,b,xs,zs,rfl,rfl,hH,hB,hz,q⟩ := h
 cases rx
 obtain ⟨u,rfl,ru⟩ := rv.one
 cases ru
 obtain ⟨z,its,n,r,hl,e⟩ := I.lstM hH
 obtain ⟨z2,its2,n2,r2,hl2,e2⟩ := I.lstM hB
 have hsz:its.toArray.size+its2.toArray.size<=sizeLine := by rw [List.size_toArray,List.size_toArray];omega
 have hlong:¬(!its.toArray.isEmpty && Builtin.List.listTooLong (its.toArray.size+its2.toArray.size))=true := by
  rw [notLongL hsz,Bool.and_false]
  exact Bool.false_ne_true
 refine call_meets F.slot_list_extend ⟨_,e,rfl⟩ F.entry_list_extend (F.args_list_extend_2 _ _)
  (AutoSeq1.list_extend_list_list_0 l its.toArray n b its2.toArray n2 hlong (by rw [List.size_toArray];omega) (by omega)) ⟨e,e2,?_⟩
 refine ⟨.non,_,I.lset (its' := its++its2) hH e (by simp) (r.append r2) ?_,rfl,q⟩
 rw [List.length_append]
 omega
def rPop:V->List V->Hp->VK->Prop := fun x vs H Q => ∃l xs y,x=.ref l/\vs=[]/\H l=some (.lst xs)/\xs[xs.length - 1]?=some y/\Q y (upd H l (.lst xs.dropLast))
theorem zkT:MtM X "list.pop" rPop := by
 intro pins s σ H x vs v us Q I rx rv h
 obtain ⟨l,xs,y,rfl,rfl,hH,hy,q⟩ := h
 cases rx
 have hus := rv.zero
 subst hus
 obtain ⟨z,its,n,r,hl,e⟩ := I.lstM hH
 obtain ⟨u,hu,ru⟩ := r.get hy
 have hy':its.toArray[its.toArray.size - 1]?=some u := by
  show its.toArray[its.length - 1]?=some u
  rw [<- Array.getElem?_toList,<- hl]
  exact hu
 refine call_meets F.slot_list_pop ⟨_,e,rfl⟩ F.entry_list_pop (F.args_list_pop_1 _) (MeetsSeq.list_pop_last l its.toArray n u hy' (by rw [List.size_toArray];omega)) ⟨e,?_⟩
 refine ⟨y,_,I.lset (its' := its.dropLast) hH e ?_ r.dropLast ?_,ru,q⟩
 ·show its.toArray.eraseIdxIfInBounds (its.toArray.size - 1)=its.dropLast.toArray
  rw [List.size_toArray,List.eraseIdxIfInBounds_toArray,zez]
 ·rw [List.length_dropLast]
  omega
def rClear:V->List V->Hp->VK->Prop := fun x vs H Q => ∃l xs,x=.ref l/\vs=[]/\H l=some (.lst xs)/\Q .non (upd H l (.lst []))
theorem zgX:MtM X "list.clear" rClear := by
 intro pins s σ H x vs v us Q I rx rv h
 obtain ⟨l,xs,rfl,rfl,hH,q⟩ := h
 cases rx
 have hus := rv.zero
 subst hus
 obtain ⟨z,its,n,r,hl,e⟩ := I.lstM hH
 refine call_meets F.slot_list_clear ⟨_,e,rfl⟩ F.entry_list_clear (F.args_list_clear_1 _) (AutoSeq1.list_clear_list_0 l its.toArray n (by rw [List.size_toArray];omega)) ⟨e,?_⟩
 exact ⟨.non,_,I.lset (its' := []) (ys := []) hH e rfl .nil (Nat.zero_le _),rfl,q⟩
def rCat:R2 := fun x y H Q => ∃l b xs zs,x=.ref l/\y=.ref b/\H l=some (.lst xs)/\H b=some (.lst zs)/\xs.length+zs.length<=sizeLine/\∀p,H p=none->Q (.ref p) (upd H p (.lst (xs++zs)))
theorem zjU:OpR X (binaryOp .Add) rCat := by
 intro pins s σ H x y v u Q I rx ry h
 obtain ⟨l,b,xs,zs,rfl,rfl,hH,hB,hz,q⟩ := h
 cases rx
 cases ry
 obtain ⟨z,its,n,r,hl,e⟩ := I.lstM hH
 obtain ⟨z2,its2,n2,r2,hl2,e2⟩ := I.lstM hB
 refine PySem.P.add_list e e2 ?_ (by rw [List.size_toArray,List.size_toArray];omega)
 have ea:its.toArray++its2.toArray=(its++its2).toArray := by simp
 rw [ea]
 exact ⟨.ref _,_,I.lnew (t' := s.toks) (r.append r2) (by rw [List.length_append];omega),rfl,q _ I.fresh⟩
end
section
variable {prog:Program}{w:World}{A:Around}{E:Value->Shared->Prop}{s:Shared}
end
section
variable {X:Cx}
end
end L2
namespace Att
open PySem PySem.W PySem.Calls PyProof.Rows
theorem zbS {P:Params}{h:Heap}:∀(ns:List Int) (vs:List Value),WellAll P h vs (ns.map WData.int)->IntsAre vs ns := by
 intro ns
 induction ns with
 |nil =>
  intro vs w
  rw [List.map_nil] at w
  cases w
  exact .nil
 |cons n ns ih =>
  intro vs w
  rw [List.map_cons] at w
  cases w with
  |cons a b =>
   cases a
   exact .cons _ _ (ih _ b)
theorem zfW {l:OpenLaw}{n:Nat}(hn:l.most=some n){P:Params}{h:Heap}{args:List WData}{vals:List Value}
  (hpre:l.row.toRowW.claim.pre args=true) (hwl:WellAll P h vals args) :
  ∃a vs ns,vals=[Value.ref a]/\args=[WData.list (ns.map WData.int)]/\h.get? a=some { cls := .type "list",data := .seq vs.toArray }/\IntsAre vs ns/\ns.length<=n := by
 have hsh:WShape.hasAll [] args [.list .int]=true := (pre_splitW hpre).1
 have hc:l.pre.holds [] { args := args }=true := (pre_splitW hpre).2
 obtain ⟨d,r,rfl,h1,h2⟩ := hasAllW_cons hsh
 obtain rfl := hasAllW_nil h2
 obtain ⟨xs,rfl,h3⟩ := hasW_list h1
 obtain ⟨ns,rfl⟩ := items_int h3
 have hlen:ns.length<=n := by
  unfold OpenLaw.pre at hc
  have h4:(WTm.not (.lt (.lit (.int (n:Int))) (.len (.arg 0)))).holds [] { args := [.list (ns.map .int)] }=true := by
   have h4 := (holds_andW hc).1
   rw [hn] at h4
   exact h4
  have h5 := condW_of h4 (w_not (w_lt w_lit (w_len_list (w_arg rfl))))
  rw [List.length_map] at h5
  refine Nat.le_of_not_lt fun q => ?_
  have q':(n:Int)<((ns.length:Nat):Int) := by omega
  first
   | (rw [decide_eq_true q'] at h5;exact absurd h5 (by decide))
   | (simp at h5;omega)
 cases hwl with
 |cons w1 w2 =>
  cases w2
  cases w1 with
  |list ho hall => exact ⟨_,_,ns,rfl,rfl,ho,zbS ns _ hall,hlen⟩
theorem zfI (l:OpenLaw)(args:List WData):l.row.toRowW.claim.post args (.bool true) args=true :=
 postW_of (r := l.row.toRowW) (X := (true == true))
  (show WShape.has [] (.bool true) .bool=true by first|rfl|decide|simp [WShape.has,WShape.arms,WShape.armsAll])
  (show (WTm.eq .res (.lit (.bool true))).value [] { args := args,res := some (.bool true),after := args }=some (.bool (true == true)) from w_eq_bool (w_res rfl) w_lit) rfl
theorem attach_call {l:OpenLaw}{n:Nat}{q:Program}{loose:List Str}{XP:(Str->Option Value)->Heap->Prop}{YP:World->Heap->Prop}{d:DefRec}
  (hn:l.most=some n) (hdf:d.params.defaults=[])
  (call:∀(w:World) (s₀ s₁:Shared) (mg mb:Str->Option Value) (fa:Addr) (o:Obj) (pm cd doc:Value) (a:Addr) (vs:List Value) (ns:List Int),
   Ground q loose [] XP w s₀ mg mb s₁.heap->YP w s₁.heap ->
   s₁.heap.get? fa=some o->o.data=.func (docDef d.name d.params d.body d.scope pm cd doc)->s₁.heap.CodeRec cd d.name->mg d.name=some (.ref fa) ->
   s₁.heap.get? a=some { cls := .type "list",data := .seq vs.toArray }->IntsAre vs ns->ns.length<=n->s₁.gens=#[] ->
   codeAny (model l.prog w) callerA (.call (.ref fa) ⟨[.ref a],[]⟩) (fun r s' => r=.ok (.ret (.bool true))/\OldK s₁.heap s'.heap/\s'.os=s₁.os/\AllBare s'.gens) s₁) :
  WalkO q loose XP YP l.row.toRowW d [] (fun f vs => PySem.call f vs) := by
 intro w s₀ s₁ mg mb G Y fa o pm cd doc dV kV ho hd hcd hD hmg hg args vals as hpre hlay hrd hwl hlo
 obtain rfl:dV=.none := Dflts.none hD hdf
 obtain rfl:kV=.none := Dflts.noKw hD
 obtain ⟨a,vs,ns,rfl,rfl,hobj,hints,hlen⟩ := zfW hn hpre hwl
 refine enter_call (codeAny_mono (call w s₀ s₁ mg mb fa o pm cd doc a vs ns G Y ho (fd_plain hd) hcd hmg hobj hints hlen hg) fun r s' hq => ?_)
 obtain ⟨rfl,h2,h3,h4⟩ := hq
 exact ⟨.inl ⟨.bool true,.bool true,[],rfl,fun _ => rfl,.bool true,zfI l _,fun _ => ⟨List.Pairwise.nil,fun _ hm => (nomatch hm)⟩⟩,h2,h3,h4⟩
section
variable {prog:Program}{w:World}{A:Around}{E:Value->Shared->Prop}{s:Shared}{K:Frag}
end
end Att
namespace L2
open PySem PySem.Spec PyProof.Rows
theorem zdz:∀{vs:List Value} {ns:List Int},IntsAre vs ns->Vals (ns.map V.int) vs
 |_,_,.nil => .nil
 |_,_,.cons n t h => .cons ⟨t,rfl⟩ (zdz h)
def Only (H:Hp):Prop := ∀b,H b=none \/ ∃o xs,H b=some (.frz o (.lst xs))
theorem zg9 {P:Program}{w:World}{K:PySem.W.Frag}{mg mb:Str->Option Value}{CX:CXT}{k:Nat}{fa a:Addr}{fd:FuncData}{x:Str}{sp:Sp}{s₁:Shared}{vs:List Value}{ns:List Int}
  (KX:K.In s₁.heap) (hns:s₁.heap.Ns mainGlobals mg) (hb:s₁.heap.Ns builtinsNs mb) (hbb:∀x:Str,x ≠ "__name__"->mb x=bootBuiltins x) (hlim:s₁.heap.NoLimit) (hg:s₁.gens=#[])
  (ha:s₁.heap.get? a=some { cls := .type "list",data := .seq vs.toArray }) (hi:IntsAre vs ns) (hl:ns.length<=sizeLine) (hr:Room k callerA)
  (F:∀base:Heap,K.In base->base.Ns mainGlobals mg->FnOk P w K mg base CX k fa fd [x] sp) (hbind:∀(s:Shared) (u:Value),BindsTo s fd ⟨[u],[]⟩ [(x,u)])
  (hsp:∀H:Hp,Only H->SqL K H a (ns.map V.int)->sp [.ref a] H (fun v _ => v=.bl true) fun _ _ _ => False)
  (hCX:∀H e s',CX [] H s₁ (fun _ _ _ => False) e s'->False) :
  codeAny (model P w) callerA (.call (.ref fa) ⟨[.ref a],[]⟩) (fun r s' => r=.ok (.ret (.bool true))/\OldK s₁.heap s'.heap/\s'.os=s₁.os/\AllBare s'.gens) s₁ := by
 have rv := zdz hi
 have lenV := hi.length
 have core:∀H:Hp,Only H->SqL K H a (ns.map V.int)->HOk P w H s₁.heap->(∀b,H b≠none->b=a)->(H a≠none->K.lookup a=none) ->
   codeAny (model P w) callerA (.call (.ref fa) ⟨[.ref a],[]⟩) (fun r s' => r=.ok (.ret (.bool true))/\OldK s₁.heap s'.heap/\s'.os=s₁.os/\AllBare s'.gens) s₁ := by
  intro H hO hS hok hA hK
  have base_of:∀{b:Addr} {o:Obj},s₁.heap.get? b=some o->H b=none->(hidT s₁.heap H).get? b=some o := fun e n => zgr e n
  have noA:∀{b:Addr} {o:Obj} {es:Array DictEntry} {ep:Nat},s₁.heap.get? b=some o->o.data=.dict es ep->H b=none := fun {b o es ep} e d => by
   cases q:H b with
   |none => rfl
   |some u =>
    have e':b=a := hA b (by rw [q];simp)
    subst e'
    rw [ha] at e;cases e
    have d':Data.seq vs.toArray _=Data.dict es ep := d
    cases d'
  have nsK:∀{b:Addr} {m:Str->Option Value},s₁.heap.Ns b m->(hidT s₁.heap H).Ns b m := fun {b m} ⟨o,es,ep,e,d,r⟩ => ⟨o,es,ep,base_of e (noA e d),d,r⟩
  have hKb:K.In (hidT s₁.heap H) := fun b o e => base_of (KX b o e) (by
   cases q:H b with
   |none => rfl
   |some u =>
    have e':b=a := hA b (by rw [q];simp)
    subst e'
    rw [hK (by rw [q];simp)] at e;cases e)
  have hM:Mod K mg (hidT s₁.heap H) := ⟨hKb,nsK hns,⟨mb,nsK hb,hbb⟩,let ⟨mc,h1,h2⟩ := hlim;⟨mc,nsK h1,h2⟩⟩
  have e0:Env0 P w K mg (hidT s₁.heap H) callerA [] s₁ H := ⟨rfl,hM,fun b o e => zig e,Nat.le_of_eq (zga _ _),trivial,fun b hb => absurd (show b∈([]:List Addr) from hb) (by simp),hok,.of_eq hg⟩
  refine codeAny_mono ((F _ hKb (nsK hns)).run callerA [] s₁ H ⟨[.ref a],[]⟩ [.ref a] [.ref a] _ _ hr e0 (hbind s₁ (.ref a)) (.cons rfl .nil) (hsp H hO hS)) fun r s' h => ?_
  cases r with
  |error e => exact (hCX H e s' h).elim
  |ok fl =>
   cases fl with
   |next => exact False.elim h
   |brk => exact False.elim h
   |cont => exact False.elim h
   |ret u =>
    obtain ⟨v,H',os,bare,un,hok',r',q⟩ := h
    have q':v=.bl true := q
    subst q'
    obtain rfl:u=Value.bool true := r'
    refine ⟨rfl,OldK.of_keep fun b o e => ?_,os,bare⟩
    cases q:H b with
    |none => exact un.keep b o e q (by intro z;exact absurd (show b∈([]:List Addr) from z) (by simp)) (by simp)
    |some u =>
     rcases hO b with z|⟨ob,xs,z⟩
     ·rw [q] at z;cases z
     ·have z2 := un.frzs b ob _ z
      obtain ⟨e1,_⟩ := hok b _ z
      obtain ⟨e2,_⟩ := hok' b _ z2
      rw [e] at e1;cases e1
      exact e2
 cases hk:K.lookup a with
 |some o =>
  have e := KX a o hk
  rw [ha] at e
  cases e
  refine core (fun _ => none) (fun _ => .inl rfl) (.inr ⟨_,vs.toArray,_,hk,rfl,rfl,rfl,by rw [List.size_toArray,lenV];exact hl,by simpa using rv⟩) (fun b u z => by have z':(none:Option HO)=some u := z;cases z') (fun b z => absurd rfl z) fun z => absurd rfl z
 |none =>
  refine core (fun b => if b=a then some (.frz { cls := .type "list",data := .seq vs.toArray } (.lst (ns.map V.int))) else none) (fun b => ?_) (.inl (.inr ⟨{ cls := .type "list",data := .seq vs.toArray },if_pos rfl⟩)) (fun b u z => ?_) (fun b z => ?_) fun _ => hk
  ·by_cases hb:b=a
   ·exact .inr ⟨_,_,if_pos hb⟩
   ·exact .inl (if_neg hb)
  ·by_cases hb:b=a
   ·have z' := (if_pos hb).symm.trans z
    cases z'
    subst hb
    exact ⟨ha,by rw [List.length_map];exact hl,vs,_,rv,ha⟩
   ·have z' := (if_neg hb).symm.trans z
    cases z'
  ·by_cases hb:b=a
   ·exact hb
   ·exact absurd (if_neg hb) z
theorem walk_of {l:PySem.W.OpenLaw}{n k:Nat}{q:Program}{loose:List Str}{XP:(Str->Option Value)->Heap->Prop}{YP:World->Heap->Prop}{d:DefRec}{K:Params->PySem.W.Frag}{CX:World->CXT}{sp:World->Sp}{x:Str}
  (hn:l.most=some n) (hn2:n<=sizeLine) (hdf:d.params.defaults=[]) (hr:Room k callerA)
  (hY:∀(w:World) (h:Heap),YP w h->(K w.params).In h)
  (F:∀(w:World) (mg:Str->Option Value) (fa:Addr) (h:Heap),(K w.params).In h->h.Ns mainGlobals mg->mg d.name=some (.ref fa) ->
   ∃fd:FuncData,(∀(s:Shared) (u:Value),BindsTo s fd ⟨[u],[]⟩ [(x,u)]) /\
    ∀base:Heap,(K w.params).In base->base.Ns mainGlobals mg->FnOk l.prog w (K w.params) mg base (CX w) k fa fd [x] (sp w))
  (hsp:∀(w:World) (H:Hp) (a:Addr) (ns:List Int),ns.length<=n->Only H->SqL (K w.params) H a (ns.map V.int)->sp w [.ref a] H (fun v _ => v=.bl true) fun _ _ _ => False)
  (hCX:∀(w:World) (H:Hp) (s:Shared) (e:Value) (s':Shared),CX w [] H s (fun _ _ _ => False) e s'->False) :
  PySem.W.WalkO q loose XP YP l.row.toRowW d [] (fun f vs => PySem.call f vs) := by
 refine Att.attach_call hn hdf fun w s₀ s₁ mg mb fa o pm cd doc a vs ns G Y ho hd hcd hmg hobj hints hlen hg => ?_
 have KX := hY w _ Y
 obtain ⟨fd,hb,hF⟩ := F w mg fa _ KX G.T.g hmg
 exact zg9 KX G.T.g G.T.b G.T.builtins G.T.nolimit hg hobj hints (Nat.le_trans hlen hn2) hr hF hb (fun H hO hS => hsp w H a ns hlen hO hS) fun H e s' => hCX w H s₁ e s'
def defArgs (s:Stmt):Arguments := match s with
 | .FunctionDef _ a _ _ _ _ _ _ _ _ => a
 |_ => { posonlyargs := [],args := [],vararg := none,kwonlyargs := [],kw_defaults := [],kwarg := none,defaults := [] }
def defBody (s:Stmt):List Stmt := match s with
 | .FunctionDef _ _ b _ _ _ _ _ _ _ => b
 |_ => []
def defScope (s:Stmt):Scope := match s with
 | .FunctionDef _ _ _ _ _ _ sc _ _ _ => sc
 |_ => { kind := .function,names := [],isGenerator := false,isCoroutine := false }
structure Fun (K:PySem.W.Frag)(x qual:Str)(st:Stmt)(f:Addr)(fd:FuncData):Prop where
 ex:∃(oc:Value) (od:Option Addr) (kV doc pm:Value) (an:Option Addr) (cdv ct:Value) (osl:Array (Option Value)),
  fd=PySem.W.fnOf x qual (defArgs st) (defBody st) (defScope st) .none kV doc pm an cdv ct/\K.lookup f=some ⟨oc,od,.func fd,osl⟩/\PySem.W.codeIn K cdv qual=true
 kp:PySem.W.keepIn K (.ref f)=true
section
variable {P:Program}{w:World}{K:PySem.W.Frag}{mg:Str->Option Value}{base:Heap}
theorem Fun.binds {x qual:Str}{st:Stmt}{f:Addr}{fd:FuncData}{ps:List Str}(F:Fun K x qual st f fd)
  (h:∀(kV doc pm:Value) (an:Option Addr) (cdv ct:Value) (us:List Value),us.length=ps.length->bindArgs (PySem.W.fnOf x qual (defArgs st) (defBody st) (defScope st) .none kV doc pm an cdv ct) ⟨us,[]⟩=pure (ps.zip us)):Binds K fd ps [] := by
 obtain ⟨oc,od,kV,doc,pm,an,cdv,ct,osl,rfl,lk,hcd⟩ := F.ex
 exact .all (h kV doc pm an cdv ct)
theorem zhp {x qual:Str}{st:Stmt}{f:Addr}{oc:Value}{od an:Option Addr}{osl:Array (Option Value)}{kV doc pm cdv ct:Value}(l:K.lookup f=some ⟨oc,od,.func (PySem.W.fnOf x qual (defArgs st) (defBody st) (defScope st) .none kV doc pm an cdv ct),osl⟩)
  (c:PySem.W.codeIn K cdv qual=true) (k:PySem.W.keepIn K (.ref f)=true):Fun K x qual st f (PySem.W.fnOf x qual (defArgs st) (defBody st) (defScope st) .none kV doc pm an cdv ct) := ⟨⟨oc,od,kV,doc,pm,an,cdv,ct,osl,rfl,l,c⟩,k⟩
end
theorem zW {A:Around}{k:Nat}(hr:Room k A):A.units+1<cLine := Nat.lt_of_le_of_lt (Nat.add_le_add_left (by decide:1<=64) _) hr.units
section
variable {X:Cx}
end
section
variable {κ:Type}[DecidableEq κ]
def valV (kvs:List (κ×V))(k:κ):Option V := (kvs.find? fun kv => decide (kv.1=k)).map (·.2)
def putK (kvs:List (κ×V))(k:κ)(v:V):List (κ×V) :=
 if (kvs.any fun kv => decide (kv.1=k))=true then kvs.map (fun kv => if kv.1=k then (kv.1,v) else kv) else kvs++[(k,v)]
theorem zbM {p:κ×V}{r:List (κ×V)}{k:κ}(e:p.1=k):valV (p::r) k=some p.2 := by simp [valV,List.find?_cons,e]
theorem zbL {p:κ×V}{r:List (κ×V)}{k:κ}(e:¬p.1=k):valV (p::r) k=valV r k := by simp [valV,List.find?_cons,e]
theorem zdI (kvs:List (κ×V))(k:κ)(v:V):(putK kvs k v).length<=kvs.length+1 := by
 unfold putK
 split
 ·rw [List.length_map];omega
 ·rw [List.length_append,List.length_cons,List.length_nil];omega
theorem RelO.getD {o:Option V}{u:Option Value}{d:V}{d':Value}(r:RelO o u)(rd:RelV d d'):RelV (o.getD d) (u.getD d') := by
 cases o with
 |none => cases u with
  |none => exact rd
  |some _ => exact (show False from r).elim
 |some _ => cases u with
  |none => exact (show False from r).elim
  |some _ => exact r
theorem KV.val {kvs:List (κ×V)}{vs:List (κ×Value)}(r:KV kvs vs)(k:κ):RelO (valV kvs k) (valueAt vs k) := by
 unfold KV at r
 induction r with
 |nil => exact True.intro
 | @cons p q ps qs h t ih =>
  obtain ⟨h1,h2⟩ := h
  by_cases e:p.1=k
  ·have e':q.1=k := h1.symm.trans e
   have b:valueAt (q::qs) k=some q.2 := by simp [valueAt,List.find?_cons,e']
   rw [zbM e,b];exact h2
  ·have e':¬q.1=k := fun z => e (h1.trans z)
   have b:valueAt (q::qs) k=valueAt qs k := by simp [valueAt,List.find?_cons,e']
   rw [zbL e,b];exact ih
theorem KV.any {kvs:List (κ×V)}{vs:List (κ×Value)}(r:KV kvs vs)(k:κ):(kvs.any fun kv => decide (kv.1=k))=vs.any fun kv => decide (kv.1=k) := by
 unfold KV at r
 induction r with
 |nil => rfl
 |cons h t ih => rw [List.any_cons,List.any_cons,ih,h.1]
theorem KV.repl {kvs:List (κ×V)}{vs:List (κ×Value)}(r:KV kvs vs)(k:κ){y:V}{u:Value}(ry:RelV y u) :
  KV (kvs.map fun kv => if kv.1=k then (kv.1,y) else kv) (vs.map fun kv => if kv.1=k then (kv.1,u) else kv) := by
 unfold KV at r ⊢
 induction r with
 |nil => exact .nil
 | @cons p q ps qs h t ih =>
  rw [List.map_cons,List.map_cons]
  refine .cons ?_ ih
  obtain ⟨h1,h2⟩ := h
  by_cases e:p.1=k
  ·rw [if_pos e,if_pos (h1.symm.trans e)];exact ⟨h1,ry⟩
  ·rw [if_neg e,if_neg (fun z => e (h1.trans z))];exact ⟨h1,h2⟩
theorem KV.put {kvs:List (κ×V)}{vs:List (κ×Value)}(r:KV kvs vs)(k:κ){y:V}{u:Value}(ry:RelV y u):KV (putK kvs k y) (stored vs k u) := by
 unfold putK stored
 rw [r.any k]
 by_cases e:(vs.any fun kv => decide (kv.1=k))=true
 ·rw [if_pos e,if_pos e];exact r.repl k ry
 ·rw [if_neg e,if_neg e];exact Paired.snoc r ⟨rfl,ry⟩
end
theorem zih {P:Program}{w:World}{k:Key}{u:Value}(r:RelV (kV k) u):(mixKind P w).is k u=true := by
 cases k with
 |inl i => obtain ⟨t,e⟩ := (show ∃t,u=Value.int i t from r);subst e;exact zdM P w i t
 |inr x => obtain ⟨t,e⟩ := (show ∃t,u=Value.str x t from r);subst e;exact zdT P w x t
theorem zdF {P:Program}{w:World}:∀{ks:List Key} {us:List Value},Vals (ks.map kV) us->ItemsAre (mixKind P w) ks us
 | [],_,r => by rw [List.map_nil] at r;cases r;exact .nil
 |k::ks,_,r => by
  rw [List.map_cons] at r
  cases r with
  |cons h t => exact .cons (zih h) (zdF t)
abbrev KT (H:Hp):List (List Key×V)->List (List Key×Addr×Value)->Prop := Paired fun p q => p.1=q.1/\H q.2.1=some (.tup (p.1.map kV))/\RelV p.2 q.2.2
theorem KT.val {H:Hp}{kvs:List (List Key×V)}{xs:List (List Key×Addr×Value)}(r:KT H kvs xs)(k:List Key):RelO (valV kvs k) ((atKey xs k).map (·.2)) := by
 induction r with
 |nil => exact True.intro
 | @cons p q ps qs h t ih =>
  obtain ⟨h1,_,h2⟩ := h
  by_cases e:p.1=k
  ·have e':q.1=k := h1.symm.trans e
   have b:atKey (q::qs) k=some q.2 := by simp [atKey,List.find?_cons,e']
   rw [zbM e,b];exact h2
  ·have e':¬q.1=k := fun z => e (h1.trans z)
   have b:atKey (q::qs) k=atKey qs k := by simp [atKey,List.find?_cons,e']
   rw [zbL e,b];exact ih
section
variable {P:Program}{w:World}{H:Hp}{h:Heap}{a:Addr}
theorem zjm {u:HO}(ok:HOk P w H h)(e:Rd H a u):ObjOk P w H h a u := e.ok ok
theorem zif {kvs:List (Key×V)}(ok:HOk P w H h)(e:Rd H a (.dK kvs)):kvs.length<=sizeLine/\(a == sysModules)=false/\∃vs,KV kvs vs/\h.DictOf (mixKind P w) a vs :=
 show ObjOk P w H h a (.dK kvs) from zjm ok e
theorem zkm {kvs:List (Key×V)}(ok:HOk P w H h)(e:H a=some (.dK kvs)):kvs.length<=sizeLine/\(a == sysModules)=false/\∃vs,KV kvs vs/\h.DictOf (mixKind P w) a vs := zif ok (.inl e)
theorem zhn {ks:List Key}(ok:HOk P w H h)(e:H a=some (.tup (ks.map kV))):(tupleKind (mixKind P w)).is h ks a := by
 obtain ⟨_,its,r,o,h1,h2,n,h3⟩ := (show ObjOk P w H h a (.tup (ks.map kV)) from ok a _ e)
 exact ⟨o,its.toArray,n,h1,h2,h3,by simpa using zdF r⟩
theorem zka {kvs:List (List Key×V)}(ok:HOk P w H h)(e:Rd H a (.dT kvs)):kvs.length<=sizeLine/\(a == sysModules)=false /\
  ∃xs,KT H kvs xs/\h.DictOfH (tupleKind (mixKind P w)) a xs := by
 obtain ⟨z,y,xs,r,o,es,ep,h1,h2,h3,h4,h5⟩ := (show ObjOk P w H h a (.dT kvs) from zjm ok e)
 refine ⟨z,y,xs,r,o,es,ep,h1,h2,h3,h4,fun x hx => ?_,h5⟩
 have all:∀{l:List (List Key×V)} {m:List (List Key×Addr×Value)},KT H l m->∀x∈m,(tupleKind (mixKind P w)).is h x.1 x.2.1 := by
  intro l m q
  induction q with
  |nil => intro x hx;exact nomatch hx
  | @cons p q ps qs hq t ih =>
   intro x hx
   rcases List.mem_cons.mp hx with e|hx
   ·subst e
    exact zhn ok (by rw [<- hq.1];exact hq.2.1)
   ·exact ih x hx
 exact all r x hx
end
def DGet (H:Hp)(a:Addr)(y:V)(r:Option V):Prop :=
 (∃kvs k,Rd H a (.dK kvs)/\y=kV k/\r=valV kvs k) \/ ∃kvs k b,Rd H a (.dT kvs)/\y=.ref b/\H b=some (.tup (k.map kV))/\r=valV kvs k
section
variable {X:Cx}{pins:List (Addr×Obj)}{σ:St}{H:Hp}{s:Shared}{a:Addr}{y v:V}{u r:Value}{o:Option V}{A:Around}{E:Value->Shared->Prop}
theorem Inv.big (I:Inv X pins σ H s):sysModules<s.heap.objs.size := by
 have h:mainGlobals<s.heap.objs.size := (I.mod.glob.keeps I.bk).lt
 exact Nat.lt_trans (by decide) h
theorem ze2 {Q:Value->Shared->Prop}(hu:A.units+1<cLine)(I:Inv X pins σ H s)(g:DGet H a y (some v))(ry:RelV y u)(h:∀w' s',Inv X pins σ H s'->RelV v w'->Q w' s') :
  wpAny (model X.prog X.w) A (getItem (.ref a) u) Q E s := by
 rcases g with ⟨kvs,k,e,ey,l⟩|⟨kvs,k,b,e,ey,eb,l⟩
 ·subst ey
  obtain ⟨z,hd,vs,rel,dd⟩ := zif I.hok e
  obtain ⟨w',hw,rw'⟩ := RelO.some_of (v := v) (o := valueAt vs k) (by rw [l];exact rel.val k)
  exact wpAny_getItem_of (zih ry) dd.mapOf hw (h w' _ (I.tok _) rw')
 ·subst ey
  cases (show u=Value.ref b from ry)
  obtain ⟨z,hd,xs,rel,dd⟩ := zka I.hok e
  obtain ⟨w',hw,rw'⟩ := RelO.some_of (v := v) (o := (atKey xs k).map (·.2)) (by rw [l];exact rel.val k)
  obtain ⟨p,hp,hp2⟩ := Option.map_eq_some_iff.mp hw
  refine wpAny_getItem_heap (tupleKind_room_in1 hu) (zhn I.hok eb) dd hp ?_
  rw [hp2]
  exact h w' _ (I.tok _) rw'
theorem zim {h':Heap}{t':Nat}{ob:HO}(I:Inv X pins σ H s)(mu:Mut (H a))(hs:Heap.SameBut a s.heap h')(he:∃q,h'.get? a=some q)(new:ObjOk X.prog X.w (upd H a ob) h' a ob) :
  Inv X pins σ (upd H a ob) { s with heap := h',toks := t' } :=
 I.write (x := a) (e := a) mu (.inl rfl) (fun b q hb z => (hs.2 b hb).trans z) he new
theorem zjo {P:Program}{w:World}{H':Hp}{h':Heap}{kvs:List (Key×V)}{vs:List (Key×Value)}(z:kvs.length<=sizeLine)(hd:(a == sysModules)=false)(rel:KV kvs vs)(dd:h'.DictOf (mixKind P w) a vs) :
  ObjOk P w H' h' a (.dK kvs) := ⟨z,hd,vs,rel,dd⟩
end
section
variable {X:Cx}{pins:List (Addr×Obj)}{σ:St}{H:Hp}{s:Shared}{a:Addr}{kvs:List (Key×V)}{k:Key}{u:Value}{A:Around}{E:Value->Shared->Prop}
end
def NoSl (i:Expr):Prop := ∀ov iv,subscripted i false ov iv=operate [ov,iv] (getItem ov iv)
theorem zfT {prog:Program}{w:World}{A:Around}{E:Value->Shared->Prop}{s:Shared}{env:Env}{value slice:Expr}{pos:Pos}{T id:String}{Q:Value->Shared->Prop}
  (hl:typeLookup (.type T) "__getitem__"=pure (some (.builtin id))) (hs:NoSl slice)
  (h:wpAny (model prog w) A (eval value env) (fun o s₁ => wpAny (model prog w) A (eval slice env) (fun i s₂ => s₂.TypeIs o T/\wpAny (model prog w) A (getItem o i) Q E s₂) E s₁) E s) :
  wpAny (model prog w) A (eval (.Subscript value slice pos) env) Q E s := by
 refine Subscript_ (wpAny_mono h (fun o s₁ h₁ => wpAny_mono h₁ (fun i s₂ h₂ => ?_) fun _ _ x => x) fun _ _ x => x)
 obtain ⟨hT,h₂⟩ := h₂
 unfold subscriptTail
 refine wpAny_bind ?_
 rw [getitemInPython_of_ne hT.not_modules]
 refine wpAny_bind (wpAny_specialOf hT hl ?_)
 have fin:wpAny (model prog w) A (subscripted slice false o i) (fun r s₃ => wpAny (model prog w) A (letTemporaryGo value o r >>= fun _ => pure r) Q E s₃) E s₂ := by
  rw [hs o i]
  exact wpAny_operating (wpAny_mono h₂ (fun r s₃ h₃ => wpAny_bind (wpAny_letTemporaryGo (wpAny_pure h₃))) fun _ _ x => x)
 first
  | exact wpAny_pure (wpAny_bind fin)
  | exact wpAny_bind (wpAny_pure (wpAny_bind fin))
  | exact wpAny_bind fin
theorem zdN {X:Cx}{pins:List (Addr×Obj)}{σ:St}{H:Hp}{s:Shared}{a:Addr}{y:V}{o:Option V}(I:Inv X pins σ H s)(g:DGet H a y o):s.TypeIs (.ref a) "dict" := by
 rcases g with ⟨kvs,k,e,_,_⟩|⟨kvs,k,b,e,_,_,_⟩
 ·obtain ⟨_,_,vs,_,dd⟩ := zif I.hok e
  exact dd.typeIs
 ·obtain ⟨_,_,xs,_,dd⟩ := zka I.hok e
  exact dd.typeIs
def tDGet (td ty:TE):TE := fun σ H Q => td σ H fun x H1 => ty σ H1 fun y H2 => ∃a v,x=.ref a/\DGet H2 a y (some v)/\Q v H2
section
variable {X:Cx}{o i e value:Expr}{pos pos' tpos:Pos}{td ty tv:TE}
theorem zh0 (hu:X.A.units+1<cLine)(ho:PE X o td)(hi:PE X i ty)(hs:NoSl i):PE X (.Subscript o i pos) (tDGet td ty) := by
 intro pins s σ H Q I h
 refine zfT PySem.F.slot_dict_getitem.lookup hs (thn (ho pins s σ H _ I h) fun u s1 ⟨x,H1,I1,rx,q1⟩ => thn (hi pins s1 σ H1 _ I1 q1) fun iv s2 ⟨y,H2,I2,ry,a,v,ex,g,q2⟩ => ?_)
 subst ex
 obtain rfl:u=Value.ref a := rx
 exact ⟨zdN I2 g,ze2 hu I2 g ry fun w' s3 I3 rw' => ⟨v,H2,I3,rw',q2⟩⟩
end
theorem zgS {P:Program}{w:World}{H:Hp}(h:Heap)(hb:sysModules<h.objs.size):ObjOk P w H (h.push { cls := .type "dict",data := .dict #[] }) h.objs.size (.dK []) :=
 ⟨Nat.zero_le _,beq_eq_false_iff_ne.mpr (Ne.symm (Nat.ne_of_lt hb)),[],.nil,Heap.DictOf.new h⟩
section
variable {X:Cx}{pos:Pos}
end
def tPairs:List (TE×TE)->St->Hp->(List (V×V)->Hp->Prop)->Prop
 | [],_,H,Q => Q [] H
 | (tk,tv)::r,σ,H,Q => tk σ H fun x H1 => tv σ H1 fun y H2 => tPairs r σ H2 fun ps H3 => Q ((x,y)::ps) H3
abbrev VV:List (V×V)->List (Value×Value)->Prop := Paired fun p q => RelV p.1 q.1/\RelV p.2 q.2
def PPs (X:Cx)(pos:Pos)(keys:List (Option Expr))(values:List Expr)(trs:List (TE×TE)):Prop :=
 ∀(pins:List (Addr×Obj)) (s:Shared) (σ:St) (H:Hp) (Q:List (V×V)->Hp->Prop),Inv X pins σ H s->tPairs trs σ H Q ->
  wpAny (model X.prog X.w) X.A (evalPairs (pairTrees keys values X.env pos)) (fun vs s' => ∃ps H',Inv X pins σ H' s'/\VV ps vs/\Q ps H') X.xe s
theorem ziG {X:Cx}{pos:Pos}:PPs X pos [] [] [] := fun pins s σ H Q I h => pairTrees_nil_walk ⟨[],H,I,.nil,h⟩
theorem zgw {X:Cx}{pos:Pos}{k v:Expr}{ks:List (Option Expr)}{vs:List Expr}{tk tv:TE}{trs:List (TE×TE)}(hk:PE X k tk)(hv:PE X v tv)(hr:PPs X pos ks vs trs) :
  PPs X pos (some k::ks) (v::vs) ((tk,tv)::trs) := fun pins s σ H Q I h =>
 pairTrees_cons_walk (thn (hk pins s σ H _ I h) fun u s1 ⟨x,H1,I1,rx,q1⟩ => thn (hv pins s1 σ H1 _ I1 q1) fun w2 s2 ⟨y,H2,I2,ry,q2⟩ =>
  thn (hr pins s2 σ H2 _ I2 q2) fun ws s3 ⟨ps,H3,I3,rel,q3⟩ => ⟨(x,y)::ps,H3,I3,.cons ⟨rx,ry⟩ rel,q3⟩)
def mergeK (kvs more:List (Key×V)):List (Key×V) := more.foldl (fun acc kv => putK acc kv.1 kv.2) kvs
theorem KV.merge:∀{more:List (Key×V)} {rs:List (Key×Value)} {kvs:List (Key×V)} {vs:List (Key×Value)},KV more rs->KV kvs vs->KV (mergeK kvs more) (merged vs rs) := by
 intro more rs kvs vs r
 unfold KV at r
 induction r generalizing kvs vs with
 |nil => intro q;exact q
 | @cons p q ps qs h t ih =>
  intro r0
  have e:KV (putK kvs p.1 p.2) (stored vs q.1 q.2) := by
   have := r0.put p.1 h.2
   rw [<- h.1];exact this
  exact ih e
theorem zbe:∀(more kvs:List (Key×V)),(mergeK kvs more).length<=kvs.length+more.length
 | [],kvs => by show kvs.length<=kvs.length+0;omega
 |p::r,kvs => by
  have h1 := zbe r (putK kvs p.1 p.2)
  have h2 := zdI kvs p.1 p.2
  show (mergeK (putK kvs p.1 p.2) r).length<=_
  rw [List.length_cons];omega
theorem zct {P:Program}{w:World}:∀{kvs:List (Key×V)} {ws:List (Value×Value)},VV (kvs.map fun kv => (kV kv.1,kv.2)) ws->∃rs,Carries (mixKind P w) ws rs/\KV kvs rs
 | [],_,r => by rw [List.map_nil] at r;cases r;exact ⟨[],True.intro,.nil⟩
 |p::kvs,_,r => by
  rw [List.map_cons] at r
  cases r with
  | @cons a b as bs h t =>
   obtain ⟨rs,c,q⟩ := zct (P := P) (w := w) t
   obtain ⟨b1,b2⟩ := b
   exact ⟨(p.1,b2)::rs,⟨zih h.1,rfl,c⟩,.cons ⟨rfl,h.2⟩ q⟩
def tDisp (trs:List (TE×TE)):TE := fun σ H Q => ∀p,H p=none->tPairs trs σ (upd H p (.dK [])) fun ps H2 => H2 p=some (.dK [])/\∃kvs:List (Key×V),ps=kvs.map (fun kv => (kV kv.1,kv.2))/\kvs.length<=15/\Q (.ref p) (upd H2 p (.dK (mergeK [] kvs)))
theorem ziu {X:Cx}{pos:Pos}{keys:List (Option Expr)}{values:List Expr}{trs:List (TE×TE)}(h:PPs X pos keys values trs)(hall:keys.all (·.isSome)=true)(hl:keys.length=values.length)(h0:keys≠[])
  (h15:keys.length<=15):PE X (.Dict keys values pos) (tDisp trs) := by
 intro pins s σ H Q I q
 have hn := I.hok.fresh (Nat.le_refl s.heap.objs.size)
 have I1 := I.laid (a := s.heap.objs.size) (o := .dK []) (h' := s.heap.push { cls := .type "dict",data := .dict #[] }) (t' := s.toks) (fun _ _ q => Heap.get?_push_of_some _ q) (Nat.le_refl _) (zgS s.heap I.big)
 refine wpAny_Dict_walk (knd := mixKind X.prog X.w) hall hl h0 h15 (thn (h pins _ σ _ _ I1 (q _ hn)) fun ws s2 ⟨ps,H2,I2,rel,e,kvs,ep,lk,q2⟩ => ?_)
 subst ep
 obtain ⟨rs,c,rk⟩ := zct (P := X.prog) (w := X.w) rel
 obtain ⟨z,hd,vs0,r0,dd⟩ := zkm I2.hok e
 cases r0
 refine ⟨rs,c,dd,fun h' dd' hs => ⟨.ref s.heap.objs.size,_,?_,rfl,q2⟩⟩
 have hz:(mergeK [] kvs).length<=sizeLine := by
  have h1 := zbe kvs []
  rw [List.length_nil] at h1
  rw [sizeLine_eq];omega
 have he:∃q,h'.get? s.heap.objs.size=some q := let ⟨q,_,_,hq,_⟩ := dd';⟨q,hq⟩
 exact zim I2 (by rw [e];exact True.intro) hs he (zjo hz hd (rk.merge .nil) dd')
section
variable {X:Cx}{pins:List (Addr×Obj)}{σ:St}{H:Hp}{s:Shared}{a:Addr}{y d:V}{u r:Value}{o:Option V}{A:Around}{E:Value->Shared->Prop}
end
section
variable {X:Cx}{o e f:Expr}{apos cpos:Pos}{td ty tx:TE}
end
section
variable {X:Cx}{pins:List (Addr×Obj)}{σ:St}{H:Hp}{s:Shared}{a:Addr}{kvs:List (Key×V)}{A:Around}{E:Value->Shared->Prop}
end
section
variable {X:Cx}{pins:List (Addr×Obj)}{σ:St}{H:Hp}{s:Shared}{a:Addr}{y:V}{u:Value}{A:Around}{E:Value->Shared->Prop}
end
end L2
namespace WE
open PySem PySem.Spec PyProof.Rows
open AutoSeq1 (wpAny_loadPart')
section
variable {pg:Program}{wd:World}{A:Around}{Er:Value->Shared->Prop}{s:Shared}
theorem zes {it t:Addr}{i:Nat}{xs:Array Value}{x:Value}{Q:Value->Shared->Prop}(hi:s.heap.IsTupleIter it t i)(ht:s.heap.IsTuple t xs)(hx:xs[i]?=some x)
  (k:∀h',h'.IsTupleIter it t (i+1)->Heap.SameBut it s.heap h'->Q x { s with heap := h' }):wpAny (model pg wd) A (Builtin.SmallTypes.nextOf (.ref it)) Q Er s := by
 obtain ⟨oi,gi,ci,di⟩ := id hi
 obtain ⟨ot,gt,_,nt,dt⟩ := ht
 unfold Builtin.SmallTypes.nextOf
 refine wpAny_bind (wpAny_callSpecial?_slot (name := Str.ofString "__next__") hi.typeIs F.slot_tuple_iterator_next (wpAny_call_entry F.slot_tuple_iterator_next hi.typeIs F.entry_tuple_iterator_next ?_ (F.args_tuple_iterator_next_1 _)))
 show wpAny _ _ (field (.ref it) 0 >>= _) _ _ _
 refine wpAny_bind (wpAny_field gi di (x := .ref t) rfl ?_);show wpAny _ _ (if (Value.ref t == Value.none)=true then _ else _) _ _ _
 rw [if_neg (show ¬((Value.ref t == Value.none)=true) from fun z => Bool.false_ne_true z)];show wpAny _ _ (field (.ref it) 1 >>= _) _ _ _
 refine wpAny_bind (wpAny_field gi di (x := .int i 0) rfl ?_);show wpAny _ _ (seqItems? (.ref t) >>= _) _ _ _
 refine wpAny_bind (wpAny_seqItems gt dt ?_)
 simp only [Int.toNat_natCast,hx]
 refine wpAny_bind (wpAny_setField gi di (by simp) (wpAny_pure ⟨x,rfl,wpAny_pure (k _ ?_ (Heap.SameBut.update ..))⟩))
 refine ⟨_,Heap.get?_update_self _ gi (Obj.isFreed_of_fields (Obj.data_mapFields di _)),(Obj.cls_mapFields ..).trans ci,?_⟩
 rw [Obj.data_mapFields di];simp [rawInt]
theorem zfn {it t:Addr}{i:Nat}{xs:Array Value}{Q:Value->Shared->Prop}(hh:A.handled=none)(hi:s.heap.IsTupleIter it t i)(ht:s.heap.IsTuple t xs)(hx:xs[i]?=none)
  (k:∀h' e,Heap.ExtBut it s.heap h'->(∃o,h'.get? e=some o/\o.cls=.type "StopIteration")->Er (.ref e) { s with heap := h' }):wpAny (model pg wd) A (Builtin.SmallTypes.nextOf (.ref it)) Q Er s := by
 obtain ⟨oi,gi,ci,di⟩ := id hi
 obtain ⟨ot,gt,_,nt,dt⟩ := ht
 unfold Builtin.SmallTypes.nextOf
 refine wpAny_bind (wpAny_callSpecial?_slot (name := Str.ofString "__next__") hi.typeIs F.slot_tuple_iterator_next (wpAny_call_entry F.slot_tuple_iterator_next hi.typeIs F.entry_tuple_iterator_next ?_ (F.args_tuple_iterator_next_1 _)))
 show wpAny _ _ (field (.ref it) 0 >>= _) _ _ _
 refine wpAny_bind (wpAny_field gi di (x := .ref t) rfl ?_);show wpAny _ _ (if (Value.ref t == Value.none)=true then _ else _) _ _ _
 rw [if_neg (show ¬((Value.ref t == Value.none)=true) from fun z => Bool.false_ne_true z)];show wpAny _ _ (field (.ref it) 1 >>= _) _ _ _
 refine wpAny_bind (wpAny_field gi di (x := .int i 0) rfl ?_);show wpAny _ _ (seqItems? (.ref t) >>= _) _ _ _
 refine wpAny_bind (wpAny_seqItems gt dt ?_)
 simp only [Int.toNat_natCast,hx]
 refine wpAny_bind (wpAny_rule (wpAny_bind (wpAny_setField gi di (by simp) ?_)));show wpAny _ _ (newExc (.type "StopIteration") [] >>= _) _ _ _
 refine wpAny_bind ?_;simp only [newExc,newTuple]
 refine wpAny_bind (wpAny_newObj_type ?_ (by size_fits));refine wpAny_bind (m := firstArgMember _ _) (wpAny_of_eq (a := Value.none) (by first|rfl|(simp only [firstArgMember];rfl)) ?_)
 refine wpAny_newObj_type ?_ (by size_fits);simp only [raiseNew]
 refine wpAny_bind (wpAny_handled ?_);first|rw [show A.in1.handled=none from hh]|rw [hh]
 refine wpAny_bind (wpAny_pure (wpAny_throw ?_))
 exact k _ _ (((Heap.SameBut.update ..).extBut.push _).push _) ⟨_,Heap.get?_push_size _ rfl,rfl⟩
end
theorem draws_tuple {pg:Program}{wd:World}{A:Around}(hh:A.handled=none)(it t:Addr)(hne:t≠it)(xs:Array Value) :
  Draws pg wd A it [it,t] xs.size (fun i v => xs[i]?=some v) (fun i h => h.IsTupleIter it t i/\h.IsTuple t xs) where
 live := fun _ _ st => let ⟨o,g,_⟩ := st.1;⟨o,g⟩
 frame := fun _ _ _ st kp => ⟨let ⟨o,g,r⟩ := st.1;⟨o,kp it (by simp) o g,r⟩,let ⟨o,g,r⟩ := st.2;⟨o,kp t (by simp) o g,r⟩⟩
 item := fun i s Q E hi st hQ => zes st.1 st.2 (x := xs[i]) (by simp [hi]) fun h' hit' hs' => hQ _ h' s.toks (by simp [hi]) ⟨hit',st.2.extBut hs'.extBut hne⟩ hs'
 done := fun s Q E st hE => zfn hh st.1 st.2 (by simp) hE
theorem zdG (l:Addr)(xs:Array Value)(n:Nat)(dc:Option Addr)(sl:Array (Option Value)) :
  Meets (Builtin.«enumerate.__new__» ⟨[.type "enumerate",.ref l],[]⟩) (fun _ R s => s.heap.get? l=some { cls := .type "tuple",dict := dc,data := .seq xs n,slots := sl } /\
   R (.ok (.ret (.ref (s.heap.push { cls := .type "tuple_iterator",data := .fields #[.ref l,.int 0 0] }).objs.size)))
    { s with heap := (s.heap.push { cls := .type "tuple_iterator",data := .fields #[.ref l,.int 0 0] }).push { cls := .type "enumerate",data := .fields #[.none,.bool false,.ref s.heap.objs.size,rawInt 0,.none,.none] } }) :=
 .of_wp fun prog w A R s h => by
  obtain ⟨hp,g,d,tk,os⟩ := s;obtain ⟨gl,h⟩ := h
  have hsub := sub_enumerate
  have hT:Heap.IsTuple (Shared.heap ⟨hp,g,d,tk,os⟩) l xs := ⟨_,gl,rfl,n,rfl⟩
  wp_walk using wpAny_loadPart' gl
  refine wpAny_stack_any fun st => wpAny_pure ?_
  split
  ·rename_i c _ _ _ _ _
   cases (c == Value.type "enumerate")
   ·wp_walk using wpAny_loadPart' gl,wpAny_pyIter_tuple hT
    exact ⟨_,rfl,h⟩
   ·wp_walk using wpAny_loadPart' gl,wpAny_pyIter_tuple hT
    exact ⟨_,rfl,h⟩
  ·wp_walk using wpAny_loadPart' gl,wpAny_pyIter_tuple hT
   exact ⟨_,rfl,h⟩
theorem call_enumT {pg:Program}{wd:World}{A:Around}{Er:Value->Shared->Prop}{s:Shared}{l:Addr}{xs:Array Value}{Q:Value->Shared->Prop}(hT:s.heap.IsTuple l xs)
  (k:∀h',IsEnum h' (s.heap.objs.size+1) s.heap.objs.size 0 .none->h'.IsTupleIter s.heap.objs.size l 0->h'.objs.size=s.heap.objs.size+2 ->
   (∀b o,s.heap.get? b=some o->h'.get? b=some o)->Q (.ref (s.heap.objs.size+1)) { s with heap := h' }):wpAny (model pg wd) A (call (.type "enumerate") [.ref l]) Q Er s := by
 obtain ⟨⟨c,dct,dt,sl⟩,gl,hc,n,hd⟩ := hT
 cases (show c=.type "tuple" from hc)
 cases (show dt=.seq xs n from hd)
 refine callType_new F.called_enumerate (by decide) (F.typeCall_enumerate_1 _) (F.newCall_enumerate_1 _) (fun obj => F.args_object_init_2 obj _) F.entry_enumerate_new (zdG l xs n dct sl) ⟨gl,?_⟩
 have hz:(s.heap.push { cls := .type "tuple_iterator",data := .fields #[.ref l,.int 0 0] }).objs.size=s.heap.objs.size+1 := Heap.size_push ..
 show _/\_
 rw [hz]
 have he:IsEnum ((s.heap.push { cls := .type "tuple_iterator",data := .fields #[.ref l,.int 0 0] }).push { cls := .type "enumerate",data := .fields #[.none,.bool false,.ref s.heap.objs.size,rawInt 0,.none,.none] }) (s.heap.objs.size+1) s.heap.objs.size 0 .none := by
  have q := Heap.get?_push_size (s.heap.push { cls := .type "tuple_iterator",data := .fields #[.ref l,.int 0 0] }) (o := { cls := .type "enumerate",data := .fields #[.none,.bool false,.ref s.heap.objs.size,rawInt 0,.none,.none] }) rfl
  rw [hz] at q;exact q
 exact ⟨⟨_,he,rfl⟩,k _ he ⟨_,Heap.get?_push_of_some _ (Heap.get?_push_size _ rfl),rfl,rfl⟩ (by rw [Heap.size_push,hz]) fun b o y => Heap.get?_push_of_some _ (Heap.get?_push_of_some _ y)⟩
end WE
namespace L2
open PySem PySem.Spec PyProof.Rows
section
variable {X:Cx}
def CDivB (i j:Int):Prop := 0<j/\j<10000000000000000000000000000000000000000000000000000000000000000000000
theorem zgT:OpR X (binaryOp .FloorDiv) (rI CDivB fun i j => .int (i / j)) := opI fun i j _ _ _ _ _ hc q => by
 obtain ⟨h1,h2⟩ := hc
 refine floordiv_int (by omega) (by rw [Int.fdiv_eq_ediv_of_nonneg i (by omega)];exact q) (.inl (PyProof.noPylong_of_log2 ?_))
 have h0:j.natAbs≠0 := by omega
 refine Nat.lt_of_lt_of_le ((Nat.log2_lt h0).mpr (?_:j.natAbs<2 ^ 250)) (by decide)
 have e:(10000000000000000000000000000000000000000000000000000000000000000000000:Nat)<2 ^ 250 := by decide
 omega
end
section
variable {X:Cx}{pins:List (Addr×Obj)}{σ:St}{H:Hp}{s:Shared}{h':Heap}
theorem Inv.turnLaid {t':Nat}{ch:List Addr}{T:Addr}{o:HO}(I:Inv X pins σ H s)(hf:∀b∈ch,FpOk X pins H b)(k:∀b u,b∉ch->s.heap.get? b=some u->h'.get? b=some u)
  (hp:s.heap.objs.size<=T) (new:ObjOk X.prog X.w (upd H T o) h' T o):Inv X pins σ (upd H T o) { s with heap := h',toks := t' } := by
 have hn:H T=none := I.hok.fresh hp
 have nch:∀b u,H b=some u->b∉ch := fun b u e z => by
  have q := (hf b z).1
  rw [e] at q
  cases q
 refine I.step (g' := s.gens) (d' := s.drawn) (ch := ch) (fun b hb => ?_) (fun b u _ _ hc e _ => k b u hc e) (fun b u _ _ hc e _ => ⟨u.slots,k b u hc e⟩) (fun b u _ e n => ?_) (fun b u hc e => ⟨u,k b u hc e⟩) (fun b xs e => ?_) (fun b u v e => ?_) (fun b ps e => ⟨#[],?_⟩) (fun m hm => ?_) (fun b u e => ?_) I.bare
 ·obtain ⟨f0,f1,f2,f3,f4,f5⟩ := hf b hb
  exact ⟨f3,f1,f4,f5⟩
 ·rw [zp (Nat.ne_of_lt (Nat.lt_of_lt_of_le (Heap.lt_size e) hp))]
  exact n
 ·rw [zp (zx e hn)]
  exact e
 ·rw [zp (zx e hn)]
  exact e
 ·rw [zp (zx e hn),e]
  simp
 ·obtain ⟨ob,es,ep,ho,r⟩ := hm
  exact ⟨ob,es,ep,k _ ob (fun z => (hf _ z).2.1 rfl) ho,r⟩
 ·by_cases hb:b=T
  ·subst hb
   rw [zH] at e
   cases e
   exact new
  ·rw [zp hb] at e
   refine (I.hok b u e).stay (fun c v hc q => k c v ?_ q) (fun c q => by rw [zp (zx q hn)];exact q) fun c xs q => by rw [zp (zx q hn)];exact q
   rcases hc with z|z
   ·rw [z]
    exact nch b u e
   ·exact nch c _ z
theorem Inv.turnedL {t':Nat}{ch:List Addr}(I:Inv X pins σ H s)(hf:∀b∈ch,FpOk X pins H b)(k:∀b u,b∉ch->s.heap.get? b=some u->h'.get? b=some u):Inv X pins σ H { s with heap := h',toks := t' } := by
 have nch:∀b u,H b=some u->b∉ch := fun b u e z => by
  have q := (hf b z).1
  rw [e] at q
  cases q
 refine I.step (g' := s.gens) (d' := s.drawn) (ch := ch) (fun b hb => ?_) (fun b u _ _ hc e _ => k b u hc e) (fun b u _ _ hc e _ => ⟨u.slots,k b u hc e⟩) (fun _ _ _ _ n => n) (fun b u hc e => ⟨u,k b u hc e⟩) (fun _ _ e => e) (fun _ _ _ e => e) (fun b ps e => ⟨#[],by rw [e];simp⟩) (fun m hm => ?_) (fun b u e => ?_) I.bare
 ·obtain ⟨f0,f1,f2,f3,f4,f5⟩ := hf b hb
  exact ⟨f3,f1,f4,f5⟩
 ·obtain ⟨ob,es,ep,ho,r⟩ := hm
  exact ⟨ob,es,ep,k _ ob (fun z => (hf _ z).2.1 rfl) ho,r⟩
 ·refine (I.hok b u e).stay (fun c v hc q => k c v ?_ q) (fun _ q => q) fun _ _ q => q
  rcases hc with z|z
  ·rw [z]
   exact nch b u e
  ·exact nch c _ z
end
def Ite (K:PySem.W.Frag)(a:Addr):It :=
 ⟨fun i H => ∃xs x,SqT K H a xs/\xs[i]?=some x,fun i H x H' => ∃T,H T=none/\x=.ref T/\∀xs y,SqT K H a xs->xs[i]?=some y->H'=upd H T (.tup [.int i,y]),fun i H => ∃xs,SqT K H a xs/\xs.length=i⟩
theorem zcr {h:Heap}{a b:Addr}{o u:Obj}(x:h.get? a=some o)(y:h.get? b=some u)(z:o.cls≠u.cls):a≠b := fun e => by
 subst e
 rw [x] at y
 cases y
 exact z rfl
theorem zeJ {P:Program}{w:World}{K:PySem.W.Frag}{es:List Expr}{kk:Nat}{pos:Pos}(a e it:Addr) :
  Turn P w K (.Tuple es kk pos) (Ite K a) [e,it] e (fun i h => (∃old,IsEnum h e it i old)/\h.IsTupleIter it a i) where
 mem := by simp
 obj := fun i h st b hb => by
  obtain ⟨⟨old,he⟩,oi,gi,ci,di⟩ := st
  rcases List.mem_cons.mp hb with z|z
  ·subst z
   exact ⟨_,he,fun v y => nomatch y⟩
  ·have z:b=it := by simpa using z
   subst z
   exact ⟨oi,gi,fun v y => by rw [di] at y;cases y⟩
 keep := fun i h h' st k => by
  obtain ⟨⟨old,he⟩,oi,gi,r⟩ := st
  exact ⟨⟨old,k e (by simp) _ he⟩,oi,k it (by simp) _ gi,r⟩
 item := by
  intro X hP hw hK hc i pins s σ H E I hf st hg
  subst hP hw hK
  obtain ⟨xs,x,hq,hx⟩ := hg
  obtain ⟨its,rv,p,hz⟩ := I.tuple hq
  obtain ⟨⟨old,he⟩,hi⟩ := st
  obtain ⟨oi,gi,ci,di⟩ := id hi
  obtain ⟨oa,ga,ca,na,da⟩ := id p
  have nai:a≠it := zcr ga gi (by rw [ca,ci];exact fun z => absurd (Value.type.inj z) (by decide))
  have nei:e≠it := zcr he gi (by rw [ci];exact fun z => absurd (Value.type.inj z) (by decide))
  have nea:e≠a := zcr he ga (by rw [ca];exact fun z => absurd (Value.type.inj z) (by decide))
  have hl := rv.length
  have hil:i<its.toArray.size := by
   have := (List.getElem?_eq_some_iff.mp hx).1
   simpa using (by omega:i<its.length)
  have W := WalksT.enumerateD (prog := X.prog) (w := X.w) (A := X.A) (WE.draws_tuple (pg := X.prog) (wd := X.w) (A := X.A.in1) (I.ok.hd hc) it a nai its.toArray) e nei (by simp [nei,nea]) (by simp)
  refine W.item i s _ E hil ⟨⟨old,he⟩,hi,p⟩ fun T vals h1 tk hP hsz hT mid kp => ⟨.ref T,rfl,?_⟩
  refine W.go es kk pos i T _ _ E mid fun h2 st2 kp2 => ?_
  obtain ⟨t,y,hy,rfl⟩ := hP
  obtain ⟨u,hu,ru⟩ := rv.get hx
  have ey:y=u := Option.some.inj (hy.symm.trans (by simpa using hu))
  subst ey
  have hch:∀b o,b∉[e,it]->s.heap.get? b=some o->h2.get? b=some o := fun b o hb q => kp2 b o hb (kp b o hb q)
  have hTw := W.apart i T h1 mid
  have new:ObjOk X.prog X.w (upd H T (.tup [.int i,x])) h2 T (.tup [.int i,x]) := by
   obtain ⟨o,g,r⟩ := hT
   exact ⟨by show 2<=sizeLine;decide,[.int i t,y],.cons ⟨t,rfl⟩ (.cons ru .nil),o,kp2 T o hTw g,r⟩
  have I2 := I.turnLaid (t' := tk) hf hch hsz new
  refine ⟨.ref T,_,I2,rfl,⟨T,I.hok.fresh hsz,rfl,fun ys z hy' hz' => ?_⟩,⟨st2.1,st2.2.1⟩,fun b hb => ?_⟩
  ·rw [I.tuple_inj hy' hq] at hz'
   rw [hx] at hz'
   cases hz'
   rfl
  ·rw [zp (fun z:b=T => hTw (z ▸ hb))]
   exact (hf b hb).1
 done := by
  intro X hP hw hK hc i pins s σ H E I hf st hg
  subst hP hw hK
  obtain ⟨xs,hq,hx⟩ := hg
  obtain ⟨its,rv,p,hz⟩ := I.tuple hq
  obtain ⟨⟨old,he⟩,hi⟩ := st
  obtain ⟨oi,gi,ci,di⟩ := id hi
  obtain ⟨oa,ga,ca,na,da⟩ := id p
  have nai:a≠it := zcr ga gi (by rw [ca,ci];exact fun z => absurd (Value.type.inj z) (by decide))
  have nei:e≠it := zcr he gi (by rw [ci];exact fun z => absurd (Value.type.inj z) (by decide))
  have nea:e≠a := zcr he ga (by rw [ca];exact fun z => absurd (Value.type.inj z) (by decide))
  have hl := rv.length
  have W := WalksT.enumerateD (prog := X.prog) (w := X.w) (A := X.A) (WE.draws_tuple (pg := X.prog) (wd := X.w) (A := X.A.in1) (I.ok.hd hc) it a nai its.toArray) e nei (by simp [nei,nea]) (by simp)
  have en:its.toArray.size=i := by simp;omega
  refine W.done s _ E (by rw [en];exact ⟨⟨old,he⟩,hi,p⟩) fun h2 tk kp => ⟨rfl,I.turnedL (t' := tk) hf kp⟩
 self := fun _ _ _ _ _ st q => by
  obtain ⟨⟨old,he⟩,_⟩ := st
  exact wpAny_pyIter_enum he q
def iEnT (K:PySem.W.Frag)(ta:TA):TI := fun σ H R => ta σ H fun vs H1 => ∃a,vs=[.ref a]/\(∃xs,SqT K H1 a xs)/\R (Ite K a) H1
theorem zgD {X:Cx}{a:Expr}{es:List Expr}{kk:Nat}{tp:Pos}{ta:TA}{p pos:Pos}(hg:Gl X "enumerate")(hm:X.mg "enumerate"=none)(ha:PA X [a] ta)(hs:starEach [a] X.env=[(false,eval a X.env)] := by rfl) :
  PI X (.Tuple es kk tp) (.Call (.Name "enumerate" p) [a] [] pos) (iEnT X.K ta) := by
 intro pins s σ H R I h
 refine wpAny_Call_Name_kw (zdp I hg hm boot_enumerate ?_)
 refine PyProof.Rows.callWith_type1 (thn (ha pos pins s σ H _ I h) fun us s1 ⟨vs,H1,I1,r1,q1⟩ => ?_) hs rfl
 obtain ⟨l,rfl,⟨xs,hq⟩,q⟩ := q1
 obtain ⟨u,rfl,ru⟩ := Vals.one r1
 cases (show u=Value.ref l from ru)
 obtain ⟨its,rv,pt,hz⟩ := I1.tuple hq
 refine WE.call_enumT (show s1.heap.IsTuple l its.toArray from pt) fun h1 he hi hsz kp => ?_
 refine wpAny_pyIter_enum he ?_
 refine ⟨_,[s1.heap.objs.size+1,s1.heap.objs.size],_,_,H1,rfl,I1.kept (t' := s1.toks) kp,zeJ l _ s1.heap.objs.size,⟨⟨_,he⟩,hi⟩,fun b hb => ?_,q⟩
 have hb2:s1.heap.objs.size<=b := by
  rcases List.mem_cons.mp hb with z|z
  ·subst z
   exact Nat.le_succ _
  ·have z:b=s1.heap.objs.size := by simpa using z
   subst z
   exact Nat.le_refl _
 exact I1.fpOk hb2 (I1.hok.fresh hb2)
abbrev No:Value->Shared->Prop := fun _ _ => False
abbrev ifsOf (ifs:List Expr)(env:Env):Sem Bool := forIn ifs true fun c r => if r=true then do let ok <- isTrue c env (eval c env);pure (ForInStep.yield ok) else pure (ForInStep.yield r)
section
variable {pg:Program}{wd:World}{A:Around}{R:Result->Shared->Prop}{s:Shared}
theorem zf9 {elt tg iter:Expr}{ifs:List Expr}{sc:Scope}{pos:Pos}{it acc:Value}{env:Env}(I:Nat->Shared->Prop)
  (turn:∀n s,I n s->wpAny (model pg wd) A (pyNext it) (fun r s1 => match r with
   |none => R (.ok .next) s1
   |some v => wpAny (model pg wd) A (letOwnedTupleGo tg it v) (fun _ s2 => wpAny (model pg wd) A (assign tg env v) (fun _ s3 => wpAny (model pg wd) A (ifsOf ifs env) (fun ok s4 =>
     if ok=true then wpAny (model pg wd) A (eval elt env) (fun x s5 => wpAny (model pg wd) A (call (.builtin "list.append") [acc,x]) (fun _ s6 => ∃m,m<n/\I m s6) No s5) No s4
     else ∃m,m<n/\I m s4) No s3) No s2) No s1) No s)
  (n:Nat) (h:I n s):codeAny (model pg wd) A (.compLoop (.ListComp elt [⟨tg,iter,ifs,0⟩] sc pos) 0 it acc env) R s := by
 refine codeAny_loop rfl I (fun n s hI => ?_) n h
 show wpAny _ A ((compTurn (.ListComp elt [⟨tg,iter,ifs,0⟩] sc pos) 0 it acc env).onRaise (fun x => do noteFrame x env;theTreesLotGoes x)) _ _ s
 refine wpAny_noted ?_
 rw [compTurn_list]
 refine wpAny_bind (wpAny_standAt (wpAny_bind (wpAny_mono (turn n s hI) (fun r s1 h1 => ?_) fun _ _ f => f.elim)))
 cases r with
 |none => exact wpAny_pure h1
 |some v =>
  refine wpAny_bind (wpAny_mono h1 (fun _ s2 h2 => wpAny_bind (wpAny_mono h2 (fun _ s3 h3 => wpAny_bind (wpAny_mono h3 (fun ok s4 h4 => ?_) fun _ _ f => f.elim)) fun _ _ f => f.elim)) fun _ _ f => f.elim)
  cases ok with
  |false => exact wpAny_pure ⟨rfl,h4⟩
  |true => exact wpAny_bind (wpAny_bind (wpAny_mono h4 (fun x s5 h5 => wpAny_bind (wpAny_mono h5 (fun _ s6 h6 => wpAny_pure (wpAny_pure ⟨rfl,h6⟩)) fun _ _ f => f.elim)) fun _ _ f => f.elim))
end
def clStep (env:Env)(r:List (Str×Addr))(x:Str×NameKind):List (Str×Addr) := if x.2=.free then (x.1,(env.cells.lookup x.1).getD 0)::r else r
def clOf (sc:Scope)(env:Env):List (Str×Addr) := sc.names.foldl (clStep env) []
theorem zeC {α β:Type}{l:List α}{f:α->β->Sem (ForInStep β)}{g:β->α->β}(h:∀x∈l,∀c,f x c=pure (.yield (g c x))):∀c:β,forIn l c f=pure (l.foldl g c) := by
 induction l with
 |nil => exact fun _ => rfl
 |cons x l ih =>
  intro c
  rw [List.forIn_cons,h x List.mem_cons_self,pure_bind,List.foldl_cons]
  exact ih (fun y hy => h y (List.mem_cons_of_mem _ hy)) (g c x)
theorem zch {sc:Scope}{env:Env}(hf:∀y∈sc.names,y.2=.free->∃c,env.cells.lookup y.1=some c):closureFor sc env=pure (clOf sc env) := by
 simp only [closureFor]
 rw [zeC (g := clStep env) (fun x hx c => ?_)]
 ·rfl
 ·obtain ⟨n,k⟩ := x
  by_cases hk:k=.free
  ·subst hk
   obtain ⟨a,ha⟩ := hf _ hx rfl
   have ha':env.cells.lookup n=some a := ha
   simp [clStep,cellOf,ha']
  ·have hb:(k == NameKind.free)=false := by simpa using hk
   simp [clStep,hk,hb]
theorem zcB {env:Env}:∀(l:List (Str×NameKind)) (r:List (Str×Addr)),(∀y∈l,y.2=.free->∃c,env.cells.lookup y.1=some c)->(∀x c,r.lookup x=some c->env.cells.lookup x=some c) ->
  ∀x c,(l.foldl (clStep env) r).lookup x=some c->env.cells.lookup x=some c
 | [],r,_,h => h
 |y::l,r,hf,h => by
  refine zcB l (clStep env r y) (fun z hz => hf z (List.mem_cons_of_mem _ hz)) fun x c e => ?_
  unfold clStep at e
  by_cases hk:y.2=.free
  ·obtain ⟨a,ha⟩ := hf y List.mem_cons_self hk
   rw [if_pos hk,List.lookup_cons] at e
   cases hx:x == y.1 with
   |true =>
    rw [hx,ha] at e
    rw [eq_of_beq hx,ha]
    exact e
   |false =>
    rw [hx] at e
    exact h x c e
  ·rw [if_neg hk] at e
   exact h x c e
theorem zb0 {env:Env}{x:Str}:∀(l:List (Str×NameKind)) (r:List (Str×Addr)),(∃c,r.lookup x=some c)->∃c,(l.foldl (clStep env) r).lookup x=some c
 | [],r,h => h
 |y::l,r,h => by
  refine zb0 l (clStep env r y) ?_
  unfold clStep
  by_cases hk:y.2=.free
  ·rw [if_pos hk,List.lookup_cons]
   cases hx:x == y.1 with
   |true => exact ⟨_,rfl⟩
   |false => exact h
  ·rw [if_neg hk]
   exact h
theorem zby {env:Env}:∀(l:List (Str×NameKind)) (r:List (Str×Addr)),∀y∈l,y.2=.free->∃c,(l.foldl (clStep env) r).lookup y.1=some c
 | [],_,y,hy,_ => nomatch hy
 |z::l,r,y,hy,hk => by
  rcases List.mem_cons.mp hy with e|e
  ·subst e
   refine zb0 l (clStep env r y) ?_
   unfold clStep
   rw [if_pos hk,List.lookup_cons,beq_self_eq_true]
   exact ⟨_,rfl⟩
  ·exact zby l (clStep env r z) y e hk
theorem mem_of_lookup {β:Type}{x:Str}{k:β}:∀{l:List (Str×β)},l.lookup x=some k->(x,k)∈l
 | [],h => nomatch h
 |y::l,h => by
  rw [List.lookup_cons] at h
  cases hx:x == y.1 with
  |true =>
   rw [hx] at h
   cases h
   rw [eq_of_beq hx]
   exact List.mem_cons_self
  |false =>
   rw [hx] at h
   exact List.mem_cons_of_mem _ (mem_of_lookup h)
def relK (env:Env)(x:Str)(k:NameKind):NameKind := if (k == .free && env.scope.kind == .function && env.kindOf x == some .cell)=true then .cell else k
theorem zcx {sc:Scope}{env:Env}(x:Str):(relabel sc env).names.lookup x=(sc.names.lookup x).map (relK env x) := by
 unfold relabel
 show (sc.names.map fun (n,k) => if (k == NameKind.free && env.scope.kind == .function && env.kindOf n == some .cell) then (n,NameKind.cell) else (n,k)).lookup x=_
 induction sc.names with
 |nil => rfl
 |cons y l ih =>
  obtain ⟨n,k⟩ := y
  rw [List.map_cons]
  show List.lookup x ((if (k == NameKind.free && env.scope.kind == .function && env.kindOf n == some .cell)=true then (n,NameKind.cell) else (n,k))::_)=_
  cases hx:x == n with
  |true =>
   have e := eq_of_beq hx
   subst e
   by_cases hc:(k == NameKind.free && env.scope.kind == .function && env.kindOf x == some .cell)=true
   ·rw [if_pos hc,List.lookup_cons,beq_self_eq_true]
    simp [relK,hc]
   ·rw [if_neg hc,List.lookup_cons,beq_self_eq_true]
    simp [relK,hc]
  |false =>
   by_cases hc:(k == NameKind.free && env.scope.kind == .function && env.kindOf n == some .cell)=true
   ·rw [if_pos hc]
    simp only [List.lookup_cons,hx]
    exact ih
   ·rw [if_neg hc]
    simp only [List.lookup_cons,hx]
    exact ih
structure CI where
 C:Addr
 s:Shared
 H:Hp
 fp:List Addr
def cxC (X:Cx)(sc:Scope)(NC:List Str)(j:CI):Cx where
 prog := X.prog
 w := X.w
 K := X.K
 mg := X.mg
 base := X.base
 A := X.A
 N := NC
 s₀ := j.s
 H₀ := j.H
 env := compEnvC sc (clOf sc X.env) j.C X.env
 outer := X.stack
 stack := X.stack
 ex := j.fp
 fn := fun _ => false
 calm := X.calm
 pn := []
 xe := No
def inn (slots:List (Option Nat))(σ:St):St := slots.map fun o => o.bind fun j => (σ[j]?).join
structure CompOk (X:Cx)(sc:Scope)(NC:List Str)(slots:List (Option Nat)):Prop where
 kind:sc.kind=.function
 names:∀y∈sc.names,y.2=.local->sc.names.lookup y.1=some .local
 nocell:∀y∈sc.names,y.2 ≠ .cell
 free:∀y∈sc.names,y.2=.free->X.env.scope.names.lookup y.1=some .cell
 slot:∀(i:Nat) (x:Str) (j:Nat),NC[i]?=some x->slots[i]?=some (some j)->X.N[j]?=some x/\sc.names.lookup x=some .free
 len:slots.length=NC.length
theorem compOk {X:Cx}{sc:Scope}{NC:List Str}{slots:List (Option Nat)}(N:List Str)(so:Scope)(hN:X.N=N)(hs:X.env.scope=so)(kind:sc.kind=.function)
  (names:∀y∈sc.names,y.2=.local->sc.names.lookup y.1=some .local) (nocell:∀y∈sc.names,y.2 ≠ .cell) (free:∀y∈sc.names,y.2=.free->so.names.lookup y.1=some .cell)
  (slot:∀p∈NC.zip slots,(p.2.all fun j => decide (N[j]?=some p.1/\sc.names.lookup p.1=some .free))=true) (len:slots.length=NC.length):CompOk X sc NC slots := by
 subst hN hs
 refine ⟨kind,names,nocell,free,fun i x j e1 e2 => ?_,len⟩
 have hm:(x,some j)∈NC.zip slots := List.mem_of_getElem? (i := i) (by rw [List.getElem?_zip_eq_some];exact ⟨e1,e2⟩)
 have := slot _ hm
 simpa using this
section
variable {X:Cx}{sc:Scope}{NC:List Str}{slots:List (Option Nat)}{pins:List (Addr×Obj)}{σ:St}{H:Hp}{s:Shared}
theorem CompOk.cells (O:CompOk X sc NC slots)(ok:X.Ok):∀y∈sc.names,y.2=.free->∃c,X.env.cells.lookup y.1=some c := fun y hy hk => ok.has y.1 (.inl (O.free y hy hk))
theorem CompOk.sub (O:CompOk X sc NC slots)(ok:X.Ok):∀x c,(clOf sc X.env).lookup x=some c->X.env.cells.lookup x=some c := zcB sc.names [] (O.cells ok) fun _ _ e => nomatch e
theorem CompOk.rel (O:CompOk X sc NC slots)(ok:X.Ok){x:Str}(h:sc.names.lookup x=some .free):(relabel sc X.env).names.lookup x=some .cell := by
 rw [zcx,h]
 have e:X.env.kindOf x=some .cell := O.free _ (mem_of_lookup h) rfl
 simp [relK,ok.kind,e]
theorem zer (I:Inv X pins σ H s)(O:CompOk X sc NC slots){fp:List Addr}(hf:∀b∈fp,FpOk X pins H b)(hob:∀b∈fp,∃o,s.heap.get? b=some o){h1:Heap}{t':Nat}{m:Str->Option Value}(hns:h1.Ns s.heap.objs.size m)
  (hk:∀b o,s.heap.get? b=some o->h1.get? b=some o):Inv (cxC X sc NC ⟨s.heap.objs.size,s,H,fp⟩) [] (inn slots σ) H { s with heap := h1,toks := t' } := by
 have sub := O.sub I.ok
 have fss:∀b,b≠X.env.locals->b∉X.fs->b∉frs X.stack := fun b h1 h2 hb => (List.mem_cons.mp (I.stkSub b hb)).elim h1 h2
 have ltC:∀x c,(clOf sc X.env).lookup x=some c->c<s.heap.objs.size := fun x c e => by
  obtain ⟨v,q⟩ := I.cell x c (sub x c e)
  exact q.lt
 refine ⟨⟨I.ok.mod,O.kind,I.ok.glob,I.ok.blt,Nat.le_refl _,fun x y c e1 e2 => I.ok.inj x y c (sub x c e1) (sub y c e2),fun x hx => ?_,fun _ _ z => (nomatch z),I.ok.hd,I.ok.frames,.inl rfl,fun b hb => ⟨?_,fun x c e => (hf b hb).2.2.2.2.1 x c (sub x c e)⟩,I.bs,Nat.le_trans I.ok.bsz I.sz,fun b o e hb => ?_,fun b hb => fss b (hf b hb).2.1 (hf b hb).2.2.1,I.stack,I.stkFree⟩,
  rfl,I.bare,Un.kept hk,⟨m,hns,fun i x v e1 e2 e3 => ?_⟩,fun x c e => ?_,I.hok.fresh (Nat.le_refl _),fun x c e => I.freeC x c (sub x c e),fun p hp => (nomatch hp),I.hok.kept hk,?_⟩
 ·have hx':(relabel sc X.env).names.lookup x=some .cell \/ (relabel sc X.env).names.lookup x=some .free := hx
  rw [zcx] at hx'
  cases q:sc.names.lookup x with
  |none =>
   rw [q] at hx'
   rcases hx' with z|z <;> cases z
  |some k =>
   have hm := mem_of_lookup q
   have hkf:k=.free := by
    rw [q] at hx'
    have nc := O.nocell _ hm
    by_cases hk:k=.free
    ·exact hk
    ·exfalso
     have hb:(k == NameKind.free)=false := by simpa using hk
     rcases hx' with z|z
     ·simp [relK,hb] at z
      exact nc z
     ·simp [relK,hb] at z
      exact hk z
   subst hkf
   exact zby sc.names [] _ hm rfl
 ·obtain ⟨o,e⟩ := hob b hb
  exact Nat.ne_of_lt (Heap.lt_size e)
 ·rcases (hf b hb).2.2.2.1 with z|z
  ·exact I.ok.noex b o e z
  ·exact absurd (Nat.lt_of_lt_of_le (Heap.lt_size e) (Nat.le_trans I.ok.bsz z)) (Nat.lt_irrefl _)
 ·obtain ⟨j,e4,e5⟩:∃j,slots[i]?=some (some j)/\σ[j]?=some (some v) := by
   have e2':(slots.map fun o => o.bind fun j => (σ[j]?).join)[i]?=some (some v) := e2
   rw [List.getElem?_map] at e2'
   cases q:slots[i]? with
   |none =>
    rw [q] at e2'
    cases e2'
   |some o =>
    rw [q] at e2'
    cases o with
    |none => cases e2'
    |some j =>
     refine ⟨j,rfl,?_⟩
     have e6:(σ[j]?).join=some v := Option.some.inj e2'
     cases q2:σ[j]? with
     |none =>
      rw [q2] at e6
      cases e6
     |some w =>
      rw [q2] at e6
      have e7:w=some v := e6
      rw [e7]
  obtain ⟨e6,e7⟩ := O.slot i x j e1 e4
  have kc:X.env.scope.names.lookup x=some .cell := O.free _ (mem_of_lookup e7) rfl
  obtain ⟨m0,hn0,hl⟩ := I.loc
  obtain ⟨u,r,lk⟩ := hl j x v e6 e5 (.inr (.inl kc))
  refine ⟨u,r,.inr ⟨.inl (O.rel I.ok e7),?_⟩⟩
  rcases lk with ⟨z,_⟩|⟨_,c,hc,o,ho,hd⟩
  ·rw [show X.env.kindOf x=some .cell from kc] at z
   cases z
  ·obtain ⟨c',hc'⟩ := zby (env := X.env) sc.names [] _ (mem_of_lookup e7) rfl
   have e8:c'=c := Option.some.inj ((sub x c' hc').symm.trans hc)
   subst e8
   exact ⟨c',hc',o,hk _ _ ho,hd⟩
 ·obtain ⟨v,o,ho,hd⟩ := I.cell x c (sub x c e)
  exact ⟨v,o,hk _ _ ho,hd⟩
 ·show (slots.map fun o => o.bind fun j => (σ[j]?).join).length=NC.length
  rw [List.length_map,O.len]
theorem zeu (I:Inv X pins σ H s){fp:List Addr}(hf:∀b∈fp,FpOk X pins H b){C:Addr}(hC:s.heap.objs.size<=C){pl:List (Addr×Obj)}{σ':St}{H':Hp}{s':Shared}(J:Inv (cxC X sc NC ⟨C,s,H,fp⟩) pl σ' H' s')
  {h2:Heap} (hb:Heap.SameBut C s'.heap h2):Inv X pins σ H' { s' with heap := h2 } := by
 have nC:∀b o,s.heap.get? b=some o->b≠C := fun b o e => Nat.ne_of_lt (Nat.lt_of_lt_of_le (Heap.lt_size e) hC)
 have B:Un (frs X.stack) fp H H' s.heap s'.heap := J.base
 have fC:H' C=none := J.free
 refine I.call' (ch := fp) J.os ⟨fun b o e n h3 h4 => (hb.2 b (nC b o e)).trans (B.keep b o e n h3 h4),fun b o e n h3 h4 => ?_,B.free,fun b o e h4 => ?_,B.tups,B.frzs,B.tbls⟩ (fun b u e => ?_) J.bare fun b h3 => ⟨(hf b h3).2.2.2.1,(hf b h3).2.1,(hf b h3).2.2.2.2.1,(hf b h3).2.2.2.2.2⟩
 ·obtain ⟨sl,q⟩ := B.slot b o e n h3 h4
  exact ⟨sl,(hb.2 b (nC b o e)).trans q⟩
 ·obtain ⟨o',q⟩ := B.there b o e h4
  exact ⟨o',(hb.2 b (nC b o e)).trans q⟩
 ·refine (J.hok b u e).stay (fun c v hc q => (hb.2 c fun z => ?_).trans q) (fun _ q => q) fun _ _ q => q
  subst z
  rcases hc with z|z
  ·rw [z,e] at fC
   cases fC
  ·rw [z] at fC
   cases fC
end
def PTs (X:Cx)(ifs:List Expr)(t:TT):Prop :=
 ∀(pins:List (Addr×Obj)) (s:Shared) (σ:St) (H:Hp) (Q:Bool->Hp->Prop),Inv X pins σ H s->t σ H Q->wpAny (model X.prog X.w) X.A (ifsOf ifs X.env) (TP X pins σ Q) X.xe s
def tYes:TT := fun _ H Q => Q true H
theorem zhM {X:Cx}:PTs X [] tYes := fun _ _ _ H _ I h => wpAny_tests_nil ⟨H,I,h⟩
def CompR (J:It)(D:Addr)(g:TG)(ti:TT)(te:TE)(W:Nat->Nat->St->List V->Hp->Prop)(Q:Hp->Prop):Prop :=
 ∀i m σc ys H2,W i m σc ys H2->H2 D=some (.lst ys)/\((J.stop i H2/\Q H2) \/ (J.go i H2/\ys.length<sizeLine/\∃N:St->List V->Hp->Prop,(∀σ' ys' H',N σ' ys' H'->∃m',m' < m/\W (i+1) m' σ' ys' H') /\
  ∀x H3,J.yld i H2 x H3->g x σc H3 fun σ4 H4 => ti σ4 H4 fun b H5 => if b=true then te σ4 H5 fun y H6 => H6 D=some (.lst ys)/\N σ4 (ys++[y]) (upd H6 D (.lst (ys++[y]))) else N σ4 ys H5))
def tComp (slots:List (Option Nat))(wi:TI)(g:TG)(ti:TT)(te:TE):TE := fun σ H Q => wi σ H fun J H1 => ∀D,H1 D=none->∃W:Nat->Nat->St->List V->Hp->Prop,(∃m,W 0 m (inn slots σ) [] (upd H1 D (.lst [])))/\CompR J D g ti te W (Q (.ref D))
section
variable {X:Cx}{sc:Scope}{NC:List Str}{slots:List (Option Nat)}{elt tg iter:Expr}{ifs:List Expr}{pos:Pos}{g:TG}{ti:TT}{te:TE}
theorem zgA (hc:X.calm=true)(hg:∀j,PG (cxC X sc NC j) tg g)(ht:∀j,PTs (cxC X sc NC j) ifs ti)(he:∀j,PE (cxC X sc NC j) elt te){cj:CI}{it D:Addr}{tn:Nat->Heap->Prop}{J:It}
  {W:Nat->Nat->St->List V->Hp->Prop} {Q:Hp->Prop} {R:Result->Shared->Prop} {s:Shared} {σc:St} {ys:List V} {H:Hp} (T:Turn X.prog X.w X.K tg J cj.fp it tn)
  (I:Inv (cxC X sc NC cj) [] σc H s) (hf:∀b∈cj.fp,FpOk (cxC X sc NC cj) [] H b) (st:tn 0 s.heap) {m:Nat} (w0:W 0 m σc ys H) (step:CompR J D g ti te W Q)
  (fin:∀σ' H' s',Inv (cxC X sc NC cj) [] σ' H' s'->Q H'->R (.ok .next) s') :
  codeAny (model X.prog X.w) X.A (.compLoop (.ListComp elt [⟨tg,iter,ifs,0⟩] sc pos) 0 (.ref it) (.ref D) (cxC X sc NC cj).env) R s := by
 have stat:∀{H':Hp},(∀b∈cj.fp,H' b=none)->∀b∈cj.fp,FpOk (cxC X sc NC cj) [] H' b := fun hn b hb => ⟨hn b hb,(hf b hb).2⟩
 refine zf9 (fun n s' => ∃i σ' ys' H',Inv (cxC X sc NC cj) [] σ' H' s'/\tn i s'.heap/\(∀b∈cj.fp,H' b=none)/\W i n σ' ys' H') ?_ m ⟨0,σc,ys,H,I,st,fun b hb => (hf b hb).1,w0⟩
 rintro n s3 ⟨i,σ3,ys3,H3,I3,st3,fr3,w3⟩
 obtain ⟨hD,q⟩ := step i n σ3 ys3 H3 w3
 rcases q with ⟨stop,qn⟩|⟨go,hz,N,hN,turn⟩
 ·refine thn (T.done (cxC X sc NC cj) rfl rfl rfl hc i [] s3 σ3 H3 No I3 (stat fr3) st3 stop) fun r s4 ⟨hr,I4⟩ => ?_
  subst hr
  exact fin σ3 H3 s4 I4 qn
 ·refine thn (T.item (cxC X sc NC cj) rfl rfl rfl hc i [] s3 σ3 H3 No I3 (stat fr3) st3 go) fun r s4 ⟨u,hr,h4⟩ => ?_
  subst hr
  refine thn h4 fun _ s5 ⟨x,H5,I5,r5,y5,st5,fr5⟩ => ?_
  have I5' := I5.pinned (stat fr5) (T.obj _ _ st5)
  refine thn (hg cj _ s5 σ3 H5 x u _ I5' r5 (turn x H5 y5)) fun _ s6 ⟨σ6,H6,I6,q6⟩ => ?_
  refine thn (ht cj _ s6 σ6 H6 _ I6 q6) fun ok s7 ⟨H7,I7,q7⟩ => ?_
  have again:∀{σ8:St} {ys8:List V} {H8:Hp} {s8:Shared},Inv (cxC X sc NC cj) ([]++pinsAt cj.fp s5.heap) σ8 H8 s8->N σ8 ys8 H8->∃m,m<n/\∃i σ' ys' H',Inv (cxC X sc NC cj) [] σ' H' s8/\tn i s8.heap/\(∀b∈cj.fp,H' b=none)/\W i m σ' ys' H' := fun {σ8 ys8 H8 s8} I8 n8 => by
   obtain ⟨m',hm,w8⟩ := hN σ8 ys8 H8 n8
   refine ⟨m',hm,i+1,σ8,ys8,H8,I8.unpinned,T.keep _ _ _ st5 fun b hb o e => (I8.pin (b,o) (List.mem_append_right _ (List.mem_append_right _ (zaR hb e)))).1,fun b hb => ?_,w8⟩
   obtain ⟨o,e,d⟩ := T.obj _ _ st5 b hb
   exact (I8.pin (b,o) (List.mem_append_right _ (List.mem_append_right _ (zaR hb e)))).2.1
  cases ok with
  |false =>
   rw [if_neg Bool.false_ne_true] at q7 ⊢
   exact again I7 q7
  |true =>
   rw [if_pos rfl] at q7 ⊢
   refine thn (he cj _ s7 σ6 H7 _ I7 q7) fun y s8 ⟨v,H8,I8,r8,hD8,q8⟩ => ?_
   refine thn (zeS (X := cxC X sc NC cj) _ s8 σ6 H8 (.ref D) [v] (.ref D) [y] (fun z H' => z=.non/\H'=upd H8 D (.lst (ys3++[v]))) I8 rfl (.cons r8 .nil) ⟨D,ys3,v,rfl,rfl,hD8,hz,rfl,rfl⟩) fun z s9 ⟨zv,H9,I9,r9,e1,e2⟩ => ?_
   subst e2
   exact again I9 q8
theorem zey (hc:X.calm=true)(O:CompOk X sc NC slots)(hg:∀j,PG (cxC X sc NC j) tg g)(ht:∀j,PTs (cxC X sc NC j) ifs ti)(he:∀j,PE (cxC X sc NC j) elt te){pins:List (Addr×Obj)}{s:Shared}{σ:St}{H:Hp}(I:Inv X pins σ H s)
  {it:Addr} {fp:List Addr} {tn:Nat->Heap->Prop} {J:It} (T:Turn X.prog X.w X.K tg J fp it tn) (st:tn 0 s.heap) (hf:∀b∈fp,FpOk X pins H b) {Q:VK}
  (h:∀D,H D=none->∃W:Nat->Nat->St->List V->Hp->Prop,(∃m,W 0 m (inn slots σ) [] (upd H D (.lst [])))/\CompR J D g ti te W (Q (.ref D))) {RR:Value->Addr->Result->Shared->Prop}
  (fin:∀D C s' H',Q (.ref D) H'->(∃o m,s'.heap.get? C=some o/\s'.heap.Ns C m/\∀v,o.data ≠ .cell v)->FpOk X pins H' C->(∀h2,Heap.SameBut C s'.heap h2->Inv X pins σ H' { s' with heap := h2 })->RR (.ref D) C (.ok .next) s') :
  wpAny (model X.prog X.w) X.A (newList []) (fun acc s3 => wpAny (model X.prog X.w) X.A (newFunctionEnv sc X.env.globals (clOf sc X.env) [] X.env.qual none .none (some X.env)) (fun cenv s4 =>
   codeAny (model X.prog X.w) X.A (.compStart (.ListComp elt [⟨tg,iter,ifs,0⟩] sc pos) 0 (.ref it) acc { cenv with scope := relabel sc X.env }) (RR acc cenv.locals) s4) X.xe s3) X.xe s := by
 refine wpAny_newObj_type (wpAny_newFunctionEnv O.nocell (by intro y hy;simp at hy) (fun h1 hns1 hsb1 => ?_) O.kind)
 dsimp only at hns1 hsb1 ⊢
 have hDn:H s.heap.objs.size=none := I.hok.fresh (Nat.le_refl _)
 obtain ⟨W,⟨m,w0⟩,step⟩ := h s.heap.objs.size hDn
 obtain ⟨s3,hs3⟩:∃x:Shared,x=({ s with heap := s.heap.push { cls := .type "list",dict := none,data := .seq ([]:List Value).toArray } }:Shared) := ⟨_,rfl⟩
 have e3:s3.heap=s.heap.push { cls := .type "list",dict := none,data := .seq ([]:List Value).toArray } := by rw [hs3]
 rw [<- e3] at hns1 hsb1
 have hp3:∀b o,s.heap.get? b=some o->s3.heap.get? b=some o := fun b o e => by
  rw [e3]
  exact Heap.get?_push_of_some _ e
 have I3:Inv X pins σ (upd H s.heap.objs.size (.lst [])) s3 := by
  have q := I.laid (a := s.heap.objs.size) (o := .lst []) (h' := s3.heap) (t' := s.toks) hp3 (Nat.le_refl _) ⟨Nat.zero_le _,[],_,.nil,by rw [e3];exact Heap.get?_push_size _ rfl⟩
  rw [hs3] at q ⊢
  exact q
 have hf3:∀b∈fp,FpOk X pins (upd H s.heap.objs.size (.lst [])) b := fun b hb => by
  obtain ⟨o,e,_⟩ := T.obj _ _ st b hb
  refine ⟨?_,(hf b hb).2⟩
  rw [zp (Nat.ne_of_lt (Heap.lt_size e))]
  exact (hf b hb).1
 have st3:tn 0 s3.heap := T.keep _ _ _ st fun b _ o e => hp3 b o e
 have hob:∀b∈fp,∃o,s3.heap.get? b=some o := fun b hb => by
  obtain ⟨o,e,_⟩ := T.obj _ _ st3 b hb
  exact ⟨o,e⟩
 have hk1:∀b o,s3.heap.get? b=some o->h1.get? b=some o := fun b o e => hsb1.extBut b o (Nat.ne_of_lt (Heap.lt_size e)) (Heap.get?_push_of_some _ e)
 have J1 := zer (t' := s3.toks+([]:List (Str×Value)).length) I3 O hf3 hob hns1 hk1
 have hfc:∀b∈fp,FpOk (cxC X sc NC ⟨s3.heap.objs.size,s3,upd H s.heap.objs.size (.lst []),fp⟩) [] (upd H s.heap.objs.size (.lst [])) b := fun b hb =>
  ⟨(hf3 b hb).1,(J1.ok.exf b hb).1,J1.ok.exfs b hb,.inl hb,(J1.ok.exf b hb).2,fun p hp => nomatch hp⟩
 have loop:codeAny (model X.prog X.w) X.A (.compLoop (.ListComp elt [⟨tg,iter,ifs,0⟩] sc pos) 0 (.ref it) (.ref s.heap.objs.size) (cxC X sc NC ⟨s3.heap.objs.size,s3,upd H s.heap.objs.size (.lst []),fp⟩).env) (RR (.ref s.heap.objs.size) s3.heap.objs.size)
   { s3 with heap := h1,toks := s3.toks+([]:List (Str×Value)).length } := by
  refine zgA (D := s.heap.objs.size) (Q := Q (.ref s.heap.objs.size)) hc hg ht he T J1 hfc (T.keep _ _ _ st3 fun b _ o e => hk1 b o e) w0 step fun σ' H' s' J' q' => ?_
  have fC:H' s3.heap.objs.size=none := J'.free
  refine fin _ _ s' H' q' ?_ (I3.fpOk (Nat.le_refl _) fC) fun h2 hb => zeu I3 hf3 (Nat.le_refl _) J' hb
  obtain ⟨m',hn',_⟩ := J'.loc
  obtain ⟨o,es,ep,ho,hd,r⟩ := id hn'
  exact ⟨o,m',ho,hn',fun v z => by rw [hd] at z;cases z⟩
 have self := fun (RQ:Value->Shared->Prop) (EE:Value->Shared->Prop) => T.self X.A 0 { s3 with heap := h1,toks := s3.toks+([]:List (Str×Value)).length } RQ EE (T.keep _ _ _ st3 fun b _ o e => hk1 b o e)
 subst hs3
 exact codeAny_compStart_list loop (self _ _ loop)
variable {wi:TI}
theorem ziA (hc:X.calm=true)(O:CompOk X sc NC slots)(hi:PI X tg iter wi)(hg:∀j,PG (cxC X sc NC j) tg g)(ht:∀j,PTs (cxC X sc NC j) ifs ti)(he:∀j,PE (cxC X sc NC j) elt te)
  (hs:∀x,foldedSetIterable iter X.env x=pure x := by intro _;rfl):PE X (.ListComp elt [⟨tg,iter,ifs,0⟩] sc pos) (tComp slots wi g ti te) := by
 intro pins s σ H Q I h
 rw [eval_ListComp]
 refine wpAny_comprehension_free (use := none) rfl hs (zch (O.cells I.ok)) O.kind O.names (thn (hi pins s σ H _ I h) fun v s1 h1 => thn h1 fun itv s2 h2 => ?_)
 obtain ⟨it,fp,tn,J,H2,rfl,I2,T,st2,f2,q2⟩ := h2
 refine zey hc O hg ht he I2 T st2 f2 q2 fun D C s' H' q' ⟨o,m,ho,hn,_⟩ _ out => ⟨m,hn,fun h2 hb => ⟨.ref D,H',out h2 hb,rfl,q'⟩⟩
end
theorem zd8:∀{bs:List Bool} {us:List Value},Vals (bs.map V.bl) us->LSm.BoolsAre us bs
 | [],_,.nil => .nil
 |b::bs,_,.cons r q => by
  cases (show _=Value.bool b from r)
  exact .cons b (zd8 q)
section
variable {X:Cx}
def rAll (K:PySem.W.Frag):List V->Hp->VK->Prop := fun xs H Q => ∃(l:Addr) (bs:List Bool),xs=[.ref l]/\SqL K H l (bs.map V.bl)/\Q (.bl (bs.all id)) H
theorem zgQ (hc:X.calm=true):CallR X (.builtin "all") (rAll X.K) := by
 intro pins s σ H xs us Q I r h
 obtain ⟨l,bs,rfl,hq,q⟩ := h
 obtain ⟨u,rfl,ru⟩ := Vals.one r
 cases (show u=Value.ref l from ru)
 obtain ⟨its,rv,pl,hz⟩ := I.list hq
 have hb := zd8 rv
 have hl := pl.isList
 have hlt:l<s.heap.objs.size := by
  obtain ⟨_,e,_⟩ := hl
  exact Heap.lt_size e
 refine call_all_walk (wpAny_pyIter_list hl ?_)
 refine ⟨s.heap.objs.size,[s.heap.objs.size,l],[s.heap.objs.size],its.toArray.size,_,_,fun i => (bs[i]?).getD true,rfl,Walks.list (A := X.A.in1) (I.ok.hd hc) _ l (Nat.ne_of_lt hlt) its.toArray,⟨⟨_,Heap.get?_push_size _ rfl,rfl,rfl⟩,hl.push _⟩,fun i v s' Q' E' hP hQ => ?_,fun h' tk hk => ?_⟩
 ·obtain ⟨b,e,rfl⟩ := hb.get i v (by simpa using hP)
  simp only [e,Option.getD_some] at hQ
  exact wpAny_truthy_bool hQ
 ·have e:((List.range its.toArray.size).all fun i => (bs[i]?).getD true)=bs.all id := by
   rw [List.size_toArray,hb.length]
   exact LSm.range_all bs
  rw [e]
  exact ⟨.bl _,H,I.kept (t' := tk) (LSm.kept_iter hk),rfl,q⟩
end
section
variable {X:Cx}{pins:List (Addr×Obj)}{σ:St}{H:Hp}{s:Shared}
end
section
variable {X:Cx}{a:Expr}{ta:TE}{K:PySem.W.Frag}
end
end L2
namespace L2
end L2
namespace L2
open PySem PySem.Spec PyProof.Rows
section
variable {X:Cx}
end
end L2
namespace WE
open PySem PySem.Spec PyProof.Rows
section
variable {pg:Program}{wd:World}{A:Around}{Er:Value->Shared->Prop}{s:Shared}
end
end WE
namespace L2
open PySem PySem.Spec PyProof.Rows
end L2
namespace WE
open PySem PySem.Spec PyProof.Rows
section
variable {prog:Program}{w:World}{A:Around}{E:Value->Shared->Prop}{s:Shared}
def IsRvT (h:Heap)(a t:Addr)(i:Int):Prop := ∃o,h.get? a=some o/\o.cls=.type "reversed"/\o.data=.fields #[.ref t,rawInt i]
theorem IsRvT.typeIs {a t:Addr}{i:Int}(x:IsRvT s.heap a t i):s.TypeIs (.ref a) "reversed" := let ⟨o,ho,hc,_⟩ := x;⟨o,ho,hc⟩
end
end WE
namespace L2
open PySem PySem.Spec PyProof.Rows
def CX1 (P:Program)(w:World):CXT := fun outer H s E e s' => ∃(a:Addr) (cls a0:Value) (H':Hp) (B:Heap),e=.ref a/\s'.os=s.os/\AllBare s'.gens/\Heap.FlyingW B outer a cls a0 s'.heap/\HOk P w H' s'.heap/\Un (frs outer) [] H H' s.heap s'.heap /\
 (∀b o,s.heap.get? b=some o->H b=none->b∉frs outer->B.get? b=some o)/\(∀b u,H' b=some u->∃o,B.get? b=some o)/\(∀b o,s.heap.get? b=some o->b∉frs outer->∃o',B.get? b=some o')/\E cls none H'
theorem ObjOk.there {P:Program}{w:World}{H:Hp}{h:Heap}{a:Addr}{o:HO}(x:ObjOk P w H h a o):∃ob,h.get? a=some ob := by
 induction o with
 |lst xs => obtain ⟨_,_,_,_,e⟩ := x;exact ⟨_,e⟩
 |tup xs => obtain ⟨_,_,_,ob,e,_⟩ := x;exact ⟨ob,e⟩
 |dK kvs => obtain ⟨_,_,_,_,ob,_,_,e,_⟩ := x;exact ⟨ob,e⟩
 |dT kvs => obtain ⟨_,_,_,_,ob,_,_,e,_⟩ := x;exact ⟨ob,e⟩
 |set S n => obtain ⟨ob,_,_,_,e,_⟩ := x;exact ⟨ob,e⟩
 |ins C dx fs => obtain ⟨_,_,_,e,_⟩ := x;exact ⟨_,e⟩
 |own y => exact x
 |xd fs => obtain ⟨_,⟨ob,_,_,e,_⟩,_⟩ := x;exact ⟨ob,e⟩
 |rng lo hi => obtain ⟨_,_,_,e⟩ := x;exact ⟨_,e⟩
 |frz ob u ih => exact ⟨ob,x.1⟩
 |tbl ps => exact ⟨_,x⟩
 |met f y => exact ⟨_,x⟩
 |ext φ => exact x.2.1
theorem HOk.inB {P:Program}{w:World}{H:Hp}{h h' B:Heap}(ok:HOk P w H h)(hB:B.StaysIn h)(hB':B.StaysIn h')(tr:∀b u,H b=some u->∃o,B.get? b=some o):HOk P w H h' := fun a o e =>
 (ok a o e).stay (fun b u hb q => by
  have hb':∃o,B.get? b=some o := by
   rcases hb with z|z
   ·rw [z]
    exact tr a o e
   ·exact tr b _ z
  obtain ⟨o',q'⟩ := hb'
  have := hB b o' q'
  rw [q] at this
  cases this
  exact hB' b u q') (fun _ q => q) fun _ _ q => q
section
variable {P:Program}{w:World}{K:PySem.W.Frag}{mg:Str->Option Value}{base:Heap}{N:List Str}{qual:Str}{scope:Scope}{f:Addr}{cd:Value}{A:Around}{outer:List Env}{s₀:Shared}{H₀:Hp}{E:XK}
 {pins:List (Addr×Obj)} {σ:St} {H:Hp} {s:Shared}
theorem zfu {h':Heap}{e:Addr}{cls:Value}{vs:List Value}(I:Inv (cxOf (CX1 P w) P w K mg base N qual scope f cd A outer s₀ H₀ E) pins σ H s)(hx:Heap.MadeExcOf s.heap h' e cls vs)(hE:E cls none H) :
  (cxOf (CX1 P w) P w K mg base N qual scope f cd A outer s₀ H₀ E).xe (.ref e) { s with heap := h' } := by
 have stk:s.heap.FunFrames base (envOfC qual scope s₀.heap.objs.size f cd::outer) := I.stack
 have hst:∀b,b∈frs (envOfC qual scope s₀.heap.objs.size f cd::outer)->b=s₀.heap.objs.size \/ b∈frs outer := fun b hb => by
  have hb':b∈s₀.heap.objs.size::frs outer := hb
  exact List.mem_cons.mp hb'
 have inB:∀b o,s.heap.get? b=some o->b∉frs (envOfC qual scope s₀.heap.objs.size f cd::outer)->(PySem.W.hideAll s.heap (frs (envOfC qual scope s₀.heap.objs.size f cd::outer))).get? b=some o := fun b o q n => PySem.W.hideAll_get _ q n
 have hB:(PySem.W.hideAll s.heap (frs (envOfC qual scope s₀.heap.objs.size f cd::outer))).StaysIn s.heap := fun b o q => PySem.W.of_hideAll _ q
 have bse:Un (frs outer) [] H₀ H s₀.heap s.heap := I.base
 have lt:∀b o,s₀.heap.get? b=some o->b≠s₀.heap.objs.size := fun b o q => Nat.ne_of_lt (Heap.lt_size q)
 have tr:∀b u,H b=some u->∃o,(PySem.W.hideAll s.heap (frs (envOfC qual scope s₀.heap.objs.size f cd::outer))).get? b=some o := fun b u q => by
  obtain ⟨o,ho⟩ := ObjOk.there (I.hok b u q)
  exact ⟨o,inB b o ho fun hb => by
   have := I.stkFree b hb
   rw [q] at this
   cases this⟩
 refine wpAny_leaves_madeW (base := PySem.W.hideAll s.heap (frs (envOfC qual scope s₀.heap.objs.size f cd::outer))) (h := s.heap) I.ok.frames rfl hB (PySem.W.funFrames_hide stk fun env he a ha => List.mem_filterMap.mpr ⟨env,he,ha⟩) hx fun h'' t fl tu tn up => ?_
 have up':s.heap.UpToSlots h'' := (Heap.UpToSlots.of_keeps hx.keeps).trans up
 refine ⟨e,cls,_,H,_,rfl,I.os,I.bare,fl,HOk.inB I.hok hB fl.1 tr,⟨fun b o q n hb _ => ?_,fun b o q n hb _ => ?_,bse.free,fun b o q _ => ?_,bse.tups,bse.frzs,bse.tbls⟩,fun b o q n hb => ?_,tr,fun b o q hb => ?_,hE⟩
 ·refine fl.1 b o (inB b o (bse.keep b o q n hb (by simp)) fun z => ?_)
  rcases hst b z with z|z
  ·exact lt b o q z
  ·exact hb z
 ·obtain ⟨sl,q1⟩ := bse.slot b o q n hb (by simp)
  obtain ⟨_,o',ho',hd⟩ := Heap.FunFrames.mem stk (show b∈List.filterMap (fun (z:Env) => z.frame) _ from List.mem_cons_of_mem _ hb)
  obtain ⟨sl',q2⟩ := up' b _ q1 (by rw [ho'] at q1;cases q1;exact hd)
  exact ⟨sl',q2⟩
 ·obtain ⟨o',q1⟩ := bse.there b o q (by simp)
  by_cases hb:b∈frs (envOfC qual scope s₀.heap.objs.size f cd::outer)
  ·obtain ⟨_,o2,ho',hd⟩ := Heap.FunFrames.mem stk hb
   obtain ⟨sl',q2⟩ := up' b _ ho' hd
   exact ⟨_,q2⟩
  ·exact ⟨o',fl.1 b o' (inB b o' q1 hb)⟩
 ·refine inB b o (bse.keep b o q n hb (by simp)) fun z => ?_
  rcases hst b z with z|z
  ·exact lt b o q z
  ·exact hb z
 ·obtain ⟨o',q1⟩ := bse.there b o q (by simp)
  refine ⟨o',inB b o' q1 fun z => ?_⟩
  rcases hst b z with z|z
  ·exact lt b o q z
  ·exact hb z
theorem pass1:Passes (CX1 P w) (cxOf (CX1 P w) P w K mg base N qual scope f cd A outer s₀ H₀ E) E := by
 intro pins σ H s e s' I h
 obtain ⟨a,cls,a0,H',B,rfl,os,bare,fl,hok,un,hB,tr,hT,hE⟩ := h
 have bse:Un (frs outer) [] H₀ H s₀.heap s.heap := I.base
 have lt:∀b o,s₀.heap.get? b=some o->b≠s₀.heap.objs.size := fun b o q => Nat.ne_of_lt (Heap.lt_size q)
 have hst:∀b,b∈frs (envOfC qual scope s₀.heap.objs.size f cd::outer)->b=s₀.heap.objs.size \/ b∈frs outer := fun b hb => by
  have hb':b∈s₀.heap.objs.size::frs outer := hb
  exact List.mem_cons.mp hb'
 have un':Un (frs (envOfC qual scope s₀.heap.objs.size f cd::outer)) [] H H' s.heap s'.heap := un
 have kB:∀b o,s₀.heap.get? b=some o->H₀ b=none->b∉frs outer->B.get? b=some o := fun b o q n hb => hB b o (bse.keep b o q n hb (by simp)) (bse.free b o q n (by simp)) fun z => by
  rcases hst b z with z|z
  ·exact lt b o q z
  ·exact hb z
 have kT:∀b o,s₀.heap.get? b=some o->b∉frs outer->∃o',B.get? b=some o' := fun b o q hb => by
  obtain ⟨o',q1⟩ := bse.there b o q (by simp)
  refine hT b o' q1 fun z => ?_
  rcases hst b z with z|z
  ·exact lt b o q z
  ·exact hb z
 refine wpAny_leaves_onW I.ok.frames rfl fl fun h'' fl' up => ?_
 refine ⟨a,cls,a0,H',B,rfl,os.trans I.os,bare,fl',HOk.inB hok fl.1 fl'.1 tr,⟨fun b o q n hb _ => fl'.1 b o (kB b o q n hb),fun b o q n hb _ => ?_,fun b o q n _ => ?_,fun b o q _ => ?_,fun b xs q => un'.tups b xs (bse.tups b xs q),fun b o u q => un'.frzs b o u (bse.frzs b o u q),fun b ps q => ?_⟩,kB,tr,kT,hE⟩
 ·obtain ⟨sl,q1⟩ := bse.slot b o q n hb (by simp)
  have n1 := bse.free b o q n (by simp)
  obtain ⟨sl1,q2⟩ := un'.slot b _ q1 n1 (List.mem_cons_of_mem _ hb) (by simp)
  obtain ⟨_,o',ho',hd⟩ := Heap.FunFrames.mem fl.2.2.1 (show b∈List.filterMap (fun (z:Env) => z.frame) _ from List.mem_cons_of_mem _ hb)
  obtain ⟨sl',q3⟩ := up b _ q2 (by rw [ho'] at q2;cases q2;exact hd)
  exact ⟨sl',q3⟩
 ·obtain ⟨o',q1⟩ := bse.there b o q (by simp)
  exact un'.free b o' q1 (bse.free b o q n (by simp)) (by simp)
 ·obtain ⟨o',q1⟩ := bse.there b o q (by simp)
  obtain ⟨o2,q2⟩ := un'.there b o' q1 (by simp)
  by_cases hb:b∈frs outer
  ·obtain ⟨_,o3,ho3,hd⟩ := Heap.FunFrames.mem fl.2.2.1 (show b∈List.filterMap (fun (z:Env) => z.frame) _ from List.mem_cons_of_mem _ hb)
   obtain ⟨sl',q3⟩ := up b _ ho3 hd
   exact ⟨_,q3⟩
  ·obtain ⟨o4,q4⟩ := kT b o q hb
   exact ⟨o4,fl'.1 b o4 q4⟩
 ·obtain ⟨m1,e1⟩ := bse.tbls b ps q
  obtain ⟨m2,e2⟩ := un'.tbls b _ e1
  exact ⟨m1++m2,by rw [e2,Array.append_assoc]⟩
end
section
variable {X:Cx}{e:Expr}{es:List Expr}{te:TE}
end
section
variable {X:Cx}{e:Expr}{es:List Expr}{t:TA}{E:XK}
end
section
variable {pg:Program}{wd:World}{A:Around}{E:Value->Shared->Prop}{h:Heap}{g:Array GenState}{d:Drawn}{t:Nat}{os:OsState}{a C:Addr}{o:Obj}{K:PySem.W.Frag}
end
def ExcO (a C:Addr):Heap->Prop := fun h => ∃o,h.get? a=some o/\o.cls=.ref C
section
variable {X:Cx}
end
section
variable {X:Cx}{pins:List (Addr×Obj)}{σ:St}{H:Hp}{s:Shared}
end
section
variable {X:Cx}{pins:List (Addr×Obj)}{σ:St}{H:Hp}{s:Shared}
end
section
variable {X:Cx}{body suite:List Stmt}{b₀:Stmt}{x n:Str}{np hpos pos:Pos}{tb:XK->TS}{ts:TS}{W:Addr}{i:Nat}
end
section
variable {P:Program}{w:World}{K:PySem.W.Frag}{mg:Str->Option Value}{base:Heap}
end
section
variable {X:Cx}{k:Nat}{f:Addr}{fd:FuncData}{ps:List Str}{sp:Sp}{x:Str}{p pos:Pos}{e:Expr}{es:List Expr}{t:TA}
end
section
variable {P:Program}{w:World}{K:PySem.W.Frag}{mg:Str->Option Value}{base:Heap}
theorem Fun.okX {x qual:Str}{st:Stmt}{f:Addr}{fd:FuncData}{N ps:List Str}{k:Nat}{sp:Sp}(F:Fun K x qual st f fd)(S:FnScope N ps (defScope st))(len:∀vs H Q E,sp vs H Q E->vs.length=ps.length)
  (body:∀(cdv:Value) (A:Around) (outer:List Env) (s:Shared) (H:Hp) (vs:List V) (Q:VK) (E:XK),Room k (A.deeper (envOfC qual (defScope st) s.heap.objs.size f cdv))->sp vs H Q E ->
   ∃t,PSs (cxOf (CX1 P w) P w K mg base N qual (defScope st) f cdv A outer s H E) (defBody st) t/\t { nx := fun _ H' => Q .non H',rt := Q } (start N vs) H):FnOk P w K mg base (CX1 P w) (k+1) f fd ps sp := by
 obtain ⟨oc,od,kV,doc,pm,an,cdv,ct,osl,rfl,lk,hcd⟩ := F.ex
 exact zke lk hcd S len fun A outer s H vs Q E hr hsp => body cdv A outer s H vs Q E hr hsp
theorem own1 {N:List Str}{qual:Str}{scope:Scope}{f:Addr}{cd:Value}{A:Around}{outer:List Env}{s:Shared}{H:Hp}{E:XK}{CX:CXT} :
  PassesOwn (model (cxOf CX P w K mg base N qual scope f cd A outer s H E).prog (cxOf CX P w K mg base N qual scope f cd A outer s H E).w) (cxOf CX P w K mg base N qual scope f cd A outer s H E).A (cxOf CX P w K mg base N qual scope f cd A outer s H E).env (cxOf CX P w K mg base N qual scope f cd A outer s H E).xe :=
 PassesOwn.leaving
end
section
variable {X:Cx}
end
end L2
namespace L2
open PySem
@[irreducible] def KqSs (X:Cx)(st:List Stmt)(t:TS):Prop := PSs X st t
@[irreducible] def KqS (X:Cx)(st:Stmt)(t:TS):Prop := PS X st t
@[irreducible] def KqE (X:Cx)(e:Expr)(t:TE):Prop := PE X e t
@[irreducible] def KqT (X:Cx)(e:Expr)(t:TT):Prop := PT X e t
@[irreducible] def KqW (X:Cx)(e:Expr)(t:TT):Prop := PW X e t
@[irreducible] def KqA (X:Cx)(es:List Expr)(t:TA):Prop := PA X es t
@[irreducible] def KqG (X:Cx)(target:Expr)(t:TG):Prop := PG X target t
@[irreducible] def KqGs (X:Cx)(ts:List Expr)(t:TGs):Prop := PGs X ts t
@[irreducible] def KqI (X:Cx)(tg iter:Expr)(wi:TI):Prop := PI X tg iter wi
@[irreducible] def KqO (X:Cx)(e:Option Expr)(t:TO):Prop := PO X e t
@[irreducible] def KqTs (X:Cx)(ifs:List Expr)(t:TT):Prop := PTs X ifs t
@[irreducible] def KqPs (X:Cx)(pos:Pos)(keys:List (Option Expr))(values:List Expr)(trs:List (TE×TE)):Prop := PPs X pos keys values trs
section
variable {X:Cx}{pos:Pos}
theorem zbt {X:Cx}{e:Expr}{t:TT}(h:KqW X e t):KqT X e t := by with_unfolding_all exact PW.pt h
theorem zaY {o i:Expr}{to ti:TE}{t:TSet}(ho:KqE X o to)(hi:KqE X i ti)(hs:PSet X t)
  (ha:∀v,assign (.Subscript o i pos) X.env v=(do
   let ov <- holding [v] (eval o X.env)
   let iv <- holding [v,ov] (eval i X.env)
   standAt pos
   holding [v,ov,iv] (setItem ov iv v)
   release [v,ov,iv] []) := by intro _;rfl):KqG X (.Subscript o i pos) (gSub to ti t) := by with_unfolding_all exact zgd ho hi hs ha
theorem zgy {i j:Nat}{x y:Str}{a b:Expr}{ta:TA}{px py pt:Pos}{kt k2 pt2}(hc:X.calm=true)(hN:X.N.Nodup)(hi:X.N[i]?=some x)(hj:X.N[j]?=some y)(hij:i≠j)
  (hx:X.env.scope.names.lookup x=some .local) (hy:X.env.scope.names.lookup y=some .local) (ha:KqA X [a,b] ta)
  (hw:swappedStores [.Tuple [.Name x px,.Name y py] kt pt] (.Tuple [a,b] k2 pt2) X.env=pure (some [x,y]))
  (hs:swapsWithSole [.Tuple [.Name x px,.Name y py] kt pt] (.Tuple [a,b] k2 pt2) pos.line X.env=pure false := by rfl) :
  KqS X (.Assign [.Tuple [.Name x px,.Name y py] kt pt] (.Tuple [a,b] k2 pt2) pos) (tPar i j ta) := by with_unfolding_all exact zjv hc hN hi hj hij hx hy ha hw hs
end
end L2
namespace IC
open PySem
inductive PV where
 | non|bl (b:Bool)|int (i:Int)|str (x:Str)|tp (k:Bool) (xs:List PV)|lst (xs:List PV)|loc (n:Nat)|exn (c:Nat)|scr (xs:List PV)
deriving Inhabited
noncomputable abbrev PV.tup (xs:List PV):PV := .tp false xs
mutual
noncomputable def noLoc:PV->Bool
 | .loc _ => false
 | .exn _ => false
 | .tp _ xs => noLocs xs
 | .lst xs => noLocs xs
 | .scr xs => noLocs xs
 |_ => true
noncomputable def noLocs:List PV->Bool
 | [] => true
 |x::xs => noLoc x && noLocs xs
end
mutual
noncomputable def shd (n:Nat):PV->Bool
 | .non => true
 | .bl _ => true
 | .int _ => true
 | .str x => x.cps.all (· < 0x110000)
 | .tp _ xs => decide (0<n) && shds (n - 1) xs
 | .lst xs => decide (0<n) && shds (n - 1) xs
 |_ => false
noncomputable def shds (n:Nat):List PV->Bool
 | [] => true
 |x::xs => shd n x && shds n xs
end
noncomputable abbrev shp (v:PV):Bool := shd 60 v
noncomputable def flat:PV->Bool
 | .non => true
 | .bl _ => true
 | .int _ => true
 | .str _ => true
 |_ => false
noncomputable def bi (b:Bool):Int := if b then 1 else 0
mutual
noncomputable def peq:PV->PV->Bool
 | .non,.non => true
 | .bl a,.bl b => a == b
 | .bl a,.int j => bi a == j
 | .int i,.bl b => i == bi b
 | .int i,.int j => i == j
 | .str x,.str y => x == y
 | .tp _ xs,.tp _ ys => peqs xs ys
 | .lst xs,.lst ys => peqs xs ys
 |_,_ => false
noncomputable def peqs:List PV->List PV->Bool
 | [],[] => true
 |x::xs,y::ys => peq x y && peqs xs ys
 |_,_ => false
end
inductive Ob where
 | lst (xs:List PV)|dct (t:Bool) (kvs:List (PV×PV))|dead|ins (c:Nat) (fs:List (Str×PV))
noncomputable abbrev Env := List (Option PV)
noncomputable abbrev Store := List Ob
inductive R (α:Type) where
 | ok (a:α) (st:Store)|exc (c:Nat) (st:Store)|bad
noncomputable def R.bind {α β:Type}(r:R α)(k:α->Store->R β):R β :=
 match r with
 | .ok a st => k a st
 | .exc c st => .exc c st
 | .bad => .bad
inductive BOp where
 | add|sub|mul|fdiv|mod|pow|shl|shr|band|bor|bxor
inductive COp where
 | eq|ne|lt|le|gt|ge|is|isnot|isin|notin
inductive Ty where
 | int|bool|str|tuple|list|cls (c:Nat)|val
inductive Blt where
 | len|int|abs|min|max|tuple|list|all|sum|dict|rev|str|any
inductive Mth where
 | append|extend|get|bits|upper|insert|count|index|join|split|sidx|clear
inductive Tg where
 | n (i:Nat)|t (l:List Nat)
mutual
inductive Ce where
 | cst (v:PV)
 | var (i:Nat)
 | bin (o:BOp) (a b:Ce)
 | neg (a:Ce)
 | not (a:Ce)
 | and (a b:Ce)
 | or (a b:Ce)
 | cmp (o:COp) (a b:Ce)
 | chain (o p:COp) (a b c:Ce)
 | ite (c a b:Ce)
 | tup (es:Ces)
 | lst (es:Ces)
 | newl (es:Ces)
 | newd (kvs:List (Str×Int))
 | dict0 (t:Bool)
 | idx (a i:Ce)
 | slc (a:Ce) (lo hi:Ce)
 | call (f:Nat) (args:Ces)
 | blt (b:Blt) (args:Ces)
 | mth (m:Mth) (o:Ce) (args:Ces)
 | isi (a:Ce) (t:List Ty)
 | isx (a:Ce) (cs:List Nat) (t:List Ty)
 | comp (sl:List (Option Nat)) (tg:Tg) (it:Cit) (c:Ce) (e:Ce)
 | frz (a:Ce)
 | nope
 | fst (e:Ces)
 | rep (a b:Ce)
 | dix (D:List (Str×PV)) (a:Ce)
 | din (a:Ce) (D:List (Str×PV))
 | thw (a:Ce)
 | nin (a b:Ce)
 | fld (c:Nat) (a:Ce) (f:Str)
 | new (c i:Nat) (es:Ces)
 | mcl (c i:Nat) (m:Str) (o:Ce) (es:Ces)
 | dgt (a i:Ce)
 | inn (a b:Ce)
 | qcl (i:Nat) (es:Ces)
 | dsub (ks:List Str) (es:Ces) (i:Ce)
 | isl (a:Ce)
inductive Ces where
 | nil
 | cons (e:Ce) (es:Ces)
inductive Cit where
 | seq (e:Ce)
 | range1 (a:Ce)
 | range2 (a b:Ce)
 | rangeD (a b:Ce)
 | enum (e:Ce)
 | zip (a b:Ce)
 | revl (e:Ce)
 | revr (a:Ce)
 | chars (e:Ce)
end
mutual
inductive Cs where
 | expr (e:Ce)
 | asg (t:Tg) (e:Ce)
 | six (o i e:Ce)
 | dput (o i e:Ce)
 | aug (i:Nat) (o:BOp) (e:Ce)
 | ret (e:Ce)
 | ite (c:Ce) (a b:Css)
 | for (t:Tg) (it:Cit) (b:Css)
 | while (c:Ce) (b:Css)
 | nope
 | brk
 | cnt
 | pass
 | raise (c:Nat) (e:Ce)
 | try (b:Css) (cs:List Nat) (i:Nat) (h:Css)
 | six2 (o i p j e f:Ce)
 | sfl (c:Nat) (o:Ce) (f:Str) (e:Ce)
 | mkr (i:Nat) (D:List (Str×Nat)) (n:Ce) (es:Ces)
 | forl (t:Tg) (e:Ce) (b:Css)
inductive Css where
 | nil
 | cons (s:Cs) (ss:Css)
end
noncomputable def CMulB (i j:Int):Bool := (decide (i.natAbs<18446744073709551616)) || (decide (j.natAbs<18446744073709551616))
noncomputable def binI (o:BOp)(i j:Int):Option PV :=
 match o with
 | .add => some (.int (i+j))
 | .sub => some (.int (i - j))
 | .mul => if CMulB i j then some (.int (i*j)) else none
 | .fdiv => if 0<j/\j<10000000000000000000000000000000000000000000000000000000000000000000000 then some (.int (i / j)) else none
 | .mod => if 0<j then some (.int (i % j)) else none
 | .pow => if 0<=j/\j<=1000000/\i.natAbs<18446744073709551616 then some (.int (i ^ j.toNat)) else none
 | .shl => if 0<=j/\j<=1000000/\i.natAbs<18446744073709551616 then some (.int (i*2 ^ j.toNat)) else none
 | .shr => if 0<=j then some (.int (i / 2 ^ j.toNat)) else none
 | .band => some (.int (Builtin.bitAnd i j))
 | .bor => some (.int (Builtin.bitOr i j))
 | .bxor => some (.int (Builtin.bitXor i j))
noncomputable def sizeMax:Nat := 16777216
noncomputable def catT (k:Bool)(a:List PV)(j:Bool)(b:List PV):PV := if a.isEmpty then .tp j b else if b.isEmpty then .tp k a else .tup (a++b)
noncomputable def repV (x y:PV):Option PV :=
 match x,y with
 | .str a,.int n => if 1<=n/\n<=1000/\a.length<=1000/\1<=a.length then some (.str ⟨(List.replicate n.toNat a.cps.toList).flatten.toArray⟩) else none
 | .tp _ a,.int n => if 2<=n/\n<=1000/\a.isEmpty=false/\a.length<=1000 then some (.tup (List.replicate n.toNat a).flatten) else none
 |_,_ => none
noncomputable def binV (o:BOp)(x y:PV):Option PV :=
 match x,y with
 | .int i,.int j => binI o i j
 | .int i,.bl b => match o with
  | .add => some (.int (i+bi b))
  |_ => none
 | .str a,.str b => match o with
  | .add => if a.length+b.length<=sizeMax then some (.str (a++b)) else none
  |_ => none
 | .tp k a,.tp j b => match o with
  | .add => if a.length+b.length<=sizeMax then some (catT k a j b) else none
  |_ => none
 | .lst a,.lst b => match o with
  | .add => if a.length+b.length<=sizeMax then some (.lst (a++b)) else none
  |_ => none
 |_,_ => none
noncomputable def augV (o:BOp)(x y:PV):Option PV :=
 match x,y with
 | .int i,.int j => binI o i j
 |_,_ => none
noncomputable def isNon:PV->Bool
 | .non => true
 |_ => false
noncomputable def inL (x:PV):List PV->Bool
 | [] => false
 |y::ys => peq y x || inL x ys
noncomputable def inS (a b:Str):Bool := (List.range (b.length+1)).any fun i => decide (i+a.length<=b.length) && (b.cps.extract i (i+a.length) == a.cps)
noncomputable def cmpI (o:COp)(i j:Int):Option PV :=
 match o with
 | .lt => some (.bl (decide (i<j)))
 | .le => some (.bl (decide (i<=j)))
 | .gt => some (.bl (decide (j<i)))
 | .ge => some (.bl (decide (j<=i)))
 |_ => none
noncomputable def cmpS (o:COp)(a b:Str):Option PV :=
 match o with
 | .lt => some (.bl (decide (a.cps.toList<b.cps.toList)))
 | .le => some (.bl (!decide (b.cps.toList<a.cps.toList)))
 |_ => none
noncomputable def cmpV (o:COp)(x y:PV):Option PV :=
 match o with
 | .eq => if shp x && shp y then some (.bl (peq x y)) else none
 | .ne => if shp x && shp y then some (.bl (!peq x y)) else none
 | .is => match y with
  | .non => some (.bl (isNon x))
  | .bl b => match x with
   | .bl a => some (.bl (a == b))
   |_ => none
  |_ => none
 | .isnot => match y with
  | .non => some (.bl (!isNon x))
  | .bl b => match x with
   | .bl a => some (.bl (!(a == b)))
   |_ => none
  |_ => none
 | .isin => match x,y with
  | .str a,.str b => some (.bl (inS a b))
  |x,.tp _ l => if flat x && l.all flat then some (.bl (inL x l)) else none
  |x,.lst l => if flat x && l.all flat then some (.bl (inL x l)) else none
  |_,_ => none
 | .notin => match x,y with
  | .str a,.str b => some (.bl (!inS a b))
  |x,.tp _ l => if flat x && l.all flat then some (.bl (!inL x l)) else none
  |x,.lst l => if flat x && l.all flat then some (.bl (!inL x l)) else none
  |_,_ => none
 |o => match x,y with
  | .int i,.int j => cmpI o i j
  | .str a,.str b => cmpS o a b
  |_,_ => none
noncomputable def truV (st:Store)(x:PV):Option Bool :=
 match x with
 | .non => some false
 | .bl b => some b
 | .int i => some (i != 0)
 | .str y => if y.length<=sizeMax then some ((y.length:Int) != 0) else none
 | .tp _ xs => some (!xs.isEmpty)
 | .lst xs => some (!xs.isEmpty)
 | .loc n => match st[n]? with
  |some (.lst xs) => some (!xs.isEmpty)
  |_ => none
 |_ => none
noncomputable def ixI (n:Nat)(i:Int):Option Nat := if 0<=i then (if i<n then some i.toNat else none) else if -(n:Int)<=i then some (i+n).toNat else none
noncomputable def at? {α:Type}(xs:List α)(i:Int):Option α := (ixI xs.length i).bind fun j => xs[j]?
noncomputable def look (k:PV):List (PV×PV)->Option PV
 | [] => none
 | (a,b)::r => if peq a k then some b else look k r
noncomputable def put (k v:PV)(kvs:List (PV×PV)):List (PV×PV) :=
 if (kvs.any fun p => peq p.1 k)=true then kvs.map (fun p => if peq p.1 k=true then (p.1,v) else p) else kvs++[(k,v)]
noncomputable def isKey0:PV->Bool
 | .int _ => true
 | .str _ => true
 |_ => false
noncomputable def isKey (t:Bool)(k:PV):Bool :=
 match t with
 |false => isKey0 k
 |true => match k with
  | .tp false xs => xs.all isKey0
  |_ => false
noncomputable def idxI {α:Type}(xs:List α)(i:PV):Option α :=
 match i with
 | .int k => at? xs k
 |_ => none
noncomputable def idxV (st:Store)(x i:PV):Option PV :=
 match x with
 | .tp _ xs => idxI xs i
 | .lst xs => idxI xs i
 | .str s => if s.length<=sizeMax then (idxI s.cps.toList i).map fun c => .str ⟨#[c]⟩ else none
 | .loc n => match st[n]? with
  |some (.lst xs) => idxI xs i
  |_ => none
 |_ => none
noncomputable def clampI (n:Nat)(v:Int):Nat := if v<0 then (v+(n:Int)).toNat else min v.toNat n
noncomputable def loOf (n:Nat)(lo:Option Int):Nat :=
 match lo with
 |none => 0
 |some i => clampI n i
noncomputable def hiOf (n:Nat)(hi:Option Int):Nat :=
 match hi with
 |none => n
 |some i => clampI n i
noncomputable def cut {α:Type}(xs:List α)(lo hi:Option Int):List α := (xs.drop (loOf xs.length lo)).take (hiOf xs.length hi - loOf xs.length lo)
noncomputable def optI:PV->Option (Option Int)
 | .non => some none
 | .int i => some (some i)
 |_ => none
noncomputable def slcO (x:PV)(a b:Option Int):Option PV :=
 match x with
 | .tp k xs => if loOf xs.length a=0/\hiOf xs.length b=xs.length then some (.tp k xs) else some (.tup (cut xs a b))
 | .str s => if s.length<=sizeMax then some (.str ⟨(cut s.cps.toList a b).toArray⟩) else none
 | .lst xs => some (.lst (cut xs a b))
 | .scr xs => some (.lst (cut xs a b))
 |_ => none
noncomputable def slcV (x:PV)(a:Option Int)(hi:PV):Option PV :=
 match optI hi with
 |some b => slcO x a b
 |none => none
noncomputable def isTy (x:PV)(t:Ty):Bool :=
 match x,t with
 | .int _,.int => true
 | .bl _,.int => true
 | .bl _,.bool => true
 | .str _,.str => true
 | .tp _ _,.tuple => true
 | .lst _,.list => true
 | .exn c,.cls d => c == d
 | .exn _,.val => true
 |_,_ => false
noncomputable def isBl:Ty->Bool
 | .cls _ => false
 | .val => false
 |_ => true
noncomputable def isiV (x:PV)(ts:List Ty):Option PV :=
 match x with
 | .loc _ => none
 | .scr _ => none
 | .exn c => if ts.all isBl then none else some (.bl (ts.any (isTy (.exn c))))
 |x => match ts with
  | [t] => if isBl t then some (.bl (isTy x t)) else none
  |_ => none
noncomputable def isxV (cs:List Nat)(x:PV)(ts:List Ty):Option PV :=
 match x with
 | .exn c => if cs.contains c then some (.bl (ts.any (isTy (.exn c)))) else none
 |_ => none
noncomputable def fstS:PV->Option Str
 | .int i => if i.natAbs.log2<1920 then some (Str.ofString (toString i)) else none
 | .str s => if s.length<=16777216 then some s else none
 |_ => none
noncomputable def fstJ:Str->List PV->Option Str
 |out,[] => if out.length<=16777216 then some out else none
 |out,v::vs => match fstS v with
  |some y => if (out++y).length<=16777216 then fstJ (out++y) vs else none
  |none => none
noncomputable def fstR (r:R (List PV)):R PV :=
 match r with
 | .ok vs st => match fstJ Str.empty vs with
  |some z => .ok (.str z) st
  |none => .bad
 |_ => .bad
noncomputable def allB:List PV->Option Bool
 | [] => some true
 | .bl b::r => match allB r with
  |some c => some (b && c)
  |none => none
 |_::_ => none
noncomputable def sumI:List PV->Option Int
 | [] => some 0
 | .int i::r => match sumI r with
  |some c => some (i+c)
  |none => none
 |_::_ => none
noncomputable def maxI:List PV->Option Int
 | [] => none
 | [.int i] => some i
 | .int i::r => match maxI r with
  |some c => some (if i<c then c else i)
  |none => none
 |_::_ => none
noncomputable def seqOf (st:Store):PV->Option (List PV)
 | .tp _ xs => some xs
 | .lst xs => some xs
 | .loc n => match st[n]? with
  |some (.lst xs) => some xs
  |_ => none
 |_ => none
noncomputable def lstOf (st:Store):PV->Option (List PV)
 | .lst xs => some xs
 | .loc n => match st[n]? with
  |some (.lst xs) => some xs
  |_ => none
 |_ => none
noncomputable def lenV (st:Store)(x:PV):Option PV :=
 match x with
 | .str s => if s.length<=sizeMax then some (.int s.length) else none
 |x => (seqOf st x).map fun xs => .int xs.length
noncomputable def intV (x:PV):Option PV :=
 match x with
 | .int i => some (.int i)
 | .bl k => some (.int (bi k))
 |_ => none
noncomputable def absV1 (x:PV):Option PV :=
 match x with
 | .int i => some (.int (if i<0 then -i else i))
 |_ => none
noncomputable def minV (x y:PV):Option PV :=
 match x,y with
 | .int i,.int j => some (.int (if j<i then j else i))
 |_,_ => none
noncomputable def maxV (x y:PV):Option PV :=
 match x,y with
 | .int i,.int j => some (.int (if i<j then j else i))
 |_,_ => none
noncomputable def tupV (st:Store)(x:PV):Option PV :=
 match x with
 | .tp k xs => some (.tp k xs)
 |x => (lstOf st x).map .tup
noncomputable def revV:PV->Option PV
 | .tp _ xs => if xs.isEmpty then none else some (.tup xs.reverse)
 | .lst xs => some (.lst xs.reverse)
 |_ => none
noncomputable def anyB:List PV->Option Bool
 | [] => some false
 | .bl b::r => match anyB r with
  |some c => some (b || c)
  |none => none
 |_ => none
noncomputable def strV:PV->Option PV
 | .int i => if i=0 then some (.str "0") else if i=1 then some (.str "1") else none
 |_ => none
noncomputable def bltV (b:Blt)(st:Store)(vs:List PV):Option PV :=
 match vs with
 | [x] => match b with
  | .len => lenV st x
  | .int => intV x
  | .abs => absV1 x
  | .max => (lstOf st x).bind fun xs => (maxI xs).map .int
  | .tuple => tupV st x
  | .list => (seqOf st x).map .lst
  | .all => (lstOf st x).bind fun xs => (allB xs).map .bl
  | .sum => (lstOf st x).bind fun xs => (sumI xs).map .int
  | .rev => revV x
  | .str => strV x
  | .any => (lstOf st x).bind fun xs => (anyB xs).map .bl
  |_ => none
 | [x,y] => match b with
  | .min => minV x y
  | .max => maxV x y
  |_ => none
 |_ => none
noncomputable def dctOf (st:Store):PV->Option (Bool×List (PV×PV))
 | .loc n => match st[n]? with
  |some (.dct t xs) => some (t,xs)
  |_ => none
 |_ => none
noncomputable def mthOk (m:Mth)(st:Store)(x:PV):Option Bool :=
 match m with
 | .append => (lstOf st x).map fun _ => true
 | .extend => (lstOf st x).map fun _ => true
 | .insert => (lstOf st x).map fun _ => true
 | .count => (lstOf st x).map fun _ => true
 | .index => (lstOf st x).map fun _ => true
 | .get => (dctOf st x).map fun _ => true
 | .bits => match x with
  | .int _ => some true
  |_ => none
 | .upper => match x with
  | .str _ => some true
  |_ => none
 | .join => match x with
  | .str _ => some true
  |_ => none
 | .split => match x with
  | .str _ => some true
  |_ => none
 | .sidx => match x with
  | .str _ => some true
  |_ => none
 | .clear => match x with
  | .loc n => (lstOf st (.loc n)).map fun _ => true
  |_ => none
noncomputable def appV (st:Store)(o v:PV):R PV :=
 match o with
 | .loc n => match st[n]? with
  |some (.lst xs) => if xs.length<1000000 then .ok .non (st.set n (.lst (xs++[v]))) else .bad
  |_ => .bad
 |_ => .bad
noncomputable def extV (st:Store)(o v:PV):R PV :=
 match o with
 | .loc n => match st[n]? with
  |some (.lst xs) => match v with
   | .lst ys => if xs.length+ys.length<=1000000 then .ok .non (st.set n (.lst (xs++ys))) else .bad
   |_ => .bad
  |_ => .bad
 |_ => .bad
noncomputable def insV (st:Store)(o i v:PV):R PV :=
 match o with
 | .loc n => match st[n]? with
  |some (.lst xs) => match i with
   | .int k => if 0<=k/\k<=xs.length/\xs.length<1000000 then .ok .non (st.set n (.lst (xs.take k.toNat++v::xs.drop k.toNat))) else .bad
   |_ => .bad
  |_ => .bad
 |_ => .bad
noncomputable def getV (st:Store)(o k d:PV):R PV :=
 match dctOf st o with
 |some (t,kvs) => if isKey t k then .ok ((look k kvs).getD d) st else .bad
 |none => .bad
noncomputable def cntV (st:Store)(o v:PV):R PV :=
 match lstOf st o with
 |some xs => if flat v && xs.all flat then .ok (.int (xs.countP fun y => peq y v)) st else .bad
 |none => .bad
noncomputable def findP (v:PV):List PV->Option Nat
 | [] => none
 |y::ys => if peq y v then some 0 else (findP v ys).map (·+1)
noncomputable def fndV (st:Store)(o v:PV):R PV :=
 match lstOf st o with
 |some xs => if flat v && xs.all flat then (match findP v xs with
  |some j => .ok (.int j) st
  |none => .bad) else .bad
 |none => .bad
noncomputable def upC (c:Nat):Nat := if 97<=c/\c<=122 then c - 32 else c
noncomputable def upS (s:Str):Str := ⟨(s.cps.toList.map upC).toArray⟩
noncomputable def splitL (c:Nat):List Nat->List (List Nat)
 | [] => [[]]
 |x::xs => if x=c then []::splitL c xs else match splitL c xs with
  | [] => [[x]]
  |p::ps => (x::p)::ps
noncomputable def strsOf:List PV->Option (List Str)
 | [] => some []
 | .str s::r => (strsOf r).map (s :: ·)
 |_ => none
noncomputable def joinV (st:Store)(o v:PV):R PV :=
 match o,lstOf st v with
 | .str s,some xs => match strsOf xs with
  |some ys => if s.length<=10/\xs.length<=1000/\(ys.all fun y => decide (y.length<=1000))=true then .ok (.str (Str.join s ys)) st else .bad
  |none => .bad
 |_,_ => .bad
noncomputable def clrV (st:Store)(o:PV):R PV :=
 match o with
 | .loc n => match st[n]? with
  |some (.lst _) => .ok .non (st.set n (.lst []))
  |_ => .bad
 |_ => .bad
noncomputable def dsubV (ks:List Str)(vs:List PV)(y:PV):Option PV :=
 match y with
 | .str q => look (.str q) ((ks.zip vs).foldl (fun acc kv => put (.str kv.1) kv.2 acc) [])
 |_ => none
noncomputable def islV (st:Store)(x:PV):Option PV :=
 match x with
 | .loc n => (lstOf st (.loc n)).map fun _ => .bl true
 | .tp _ _ => some (.bl false)
 |_ => none
noncomputable def sidxV (st:Store)(o v:PV):R PV :=
 match o,v with
 | .str s,.str y => if s=Str.ofString "01" then (if y=Str.ofString "0" then .ok (.int 0) st else if y=Str.ofString "1" then .ok (.int 1) st else .bad) else .bad
 |_,_ => .bad
noncomputable def splitV (st:Store)(o v:PV):R PV :=
 match o,v with
 | .str s,.str y => match y.cps.toList with
  | [c] => if s.length<=100000 then .ok (.lst ((splitL c s.cps.toList).map fun l => .str ⟨l.toArray⟩)) st else .bad
  |_ => .bad
 |_,_ => .bad
noncomputable def mthV (m:Mth)(st:Store)(o:PV)(vs:List PV):R PV :=
 match m,vs with
 | .append,[v] => appV st o v
 | .extend,[v] => extV st o v
 | .insert,[i,v] => insV st o i v
 | .get,[k,d] => getV st o k d
 | .count,[v] => cntV st o v
 | .index,[v] => fndV st o v
 | .join,[v] => joinV st o v
 | .split,[v] => splitV st o v
 | .sidx,[v] => sidxV st o v
 | .clear,[] => clrV st o
 | .bits,[] => match o with
  | .int i => .ok (.int (Builtin.Int.intBits i)) st
  |_ => .bad
 | .upper,[] => match o with
  | .str s => if s.cps.toList.all (· < 128)/\s.length<=1000000 then .ok (.str (upS s)) st else .bad
  |_ => .bad
 |_,_ => .bad
noncomputable def toR (o:Option PV)(st:Store):R PV :=
 match o with
 |some v => .ok v st
 |none => .bad
noncomputable def bindT (t:Tg)(v:PV)(ρ:Env):Option Env :=
 match t,v with
 | .n i,v => some (ρ.set i (some v))
 | .t l,.tp _ xs => if l.length=xs.length then some ((l.zip xs).foldl (fun ρ p => ρ.set p.1 (some p.2)) ρ) else none
 |_,_ => none
noncomputable def pairsUp:Nat->List PV->List PV
 |_,[] => []
 |k,x::xs => .tup [.int k,x]::pairsUp (k+1) xs
noncomputable def zipUp:List PV->List PV->List PV
 |x::xs,y::ys => .tup [x,y]::zipUp xs ys
 |_,_ => []
noncomputable def revL:PV->Option (List PV)
 | .tp _ xs => some xs.reverse
 | .lst xs => some xs.reverse
 |_ => none
noncomputable def charsV:PV->Option (List PV)
 | .str s => if s.length<=1000000 then some (s.cps.toList.map fun c => .str ⟨#[c]⟩) else none
 |_ => none
noncomputable def zipV (x y:PV):Option (List PV) :=
 match x,y with
 | .tp _ xs,.tp _ ys => if xs.length<=ys.length then some (zipUp xs ys) else none
 |_,_ => none
noncomputable def dlook (s:Str):List (Str×PV)->Option PV
 | [] => none
 | (a,b)::r => if decide (a=s) then some b else dlook s r
noncomputable def dixV (D:List (Str×PV))(x:PV):Option PV :=
 match x with
 | .str s => dlook s D
 |_ => none
noncomputable def dinV (D:List (Str×PV))(x:PV):Option PV :=
 match x with
 | .str s => some (.bl (dlook s D).isSome)
 |_ => none
noncomputable def rangeL:Nat->Int->Int->List PV
 |0,_,_ => []
 |n+1,a,d => .int a::rangeL n (a+d) d
noncomputable def rng1 (x:PV):Option (List PV) :=
 match x with
 | .int j => if j.natAbs<1000000000 then some (rangeL j.toNat 0 1) else none
 |_ => none
noncomputable def rngR (x:PV):Option (List PV) :=
 match x with
 | .int j => if 0<=j/\j<1000000000 then some (rangeL j.toNat (j - 1) (-1)) else none
 |_ => none
noncomputable def rng2 (x y:PV):Option (List PV) :=
 match x,y with
 | .int i,.int j => if i.natAbs<1000000000/\j.natAbs<1000000000 then some (rangeL (j - i).toNat i 1) else none
 |_,_ => none
noncomputable def rngD (x y:PV):Option (List PV) :=
 match x,y with
 | .int i,.int j => if i.natAbs<1000000000/\j.natAbs<1000000000 then some (rangeL (i - j).toNat i (-1)) else none
 |_,_ => none
noncomputable def toL (o:Option (List PV))(st:Store):R (List PV) :=
 match o with
 |some v => .ok v st
 |none => .bad
noncomputable def frzV (v:PV)(st:Store):R PV :=
 match v with
 | .loc n => match st[n]? with
  |some (.lst xs) => .ok (.lst xs) (st.set n .dead)
  |_ => .bad
 |v => .ok v st
noncomputable def thwV (v:PV)(st:Store):R PV :=
 match v with
 | .lst xs => .ok (.loc st.length) (st++[.lst xs])
 |_ => .bad
noncomputable def ninV (st:Store)(x y:PV):Option PV :=
 match y with
 | .loc n => match st[n]? with
  |some (.lst xs) => if shp x && shds 60 xs then some (.bl (!inL x xs)) else none
  |_ => none
 |_ => none
noncomputable def dgtV (st:Store)(x k:PV):Option PV :=
 match dctOf st x with
 |some (t,kvs) => if isKey t k then look k kvs else none
 |none => none
noncomputable def innV (st:Store)(x y:PV):Option PV :=
 match seqOf st y with
 |some xs => if shp x && shds 60 xs then some (.bl (inL x xs)) else none
 |none => none
noncomputable def mkV (D:List (Str×Nat))(b:Bool)(x:PV):Option Nat :=
 match x with
 | .str s => if b then D.lookup s else none
 |_ => none
noncomputable def fldV (c:Nat)(st:Store)(x:PV)(f:Str):Option PV :=
 match x with
 | .loc n => match st[n]? with
  |some (.ins d fs) => if d=c then fs.lookup f else none
  |_ => none
 |_ => none
noncomputable def putA (f:Str)(v:PV):List (Str×PV)->List (Str×PV)
 | [] => [(f,v)]
 | (g,x)::r => if g=f then (g,v)::r else (g,x)::putA f v r
noncomputable def sflV (c:Nat)(st:Store)(x:PV)(f:Str)(v:PV):Option Store :=
 match x with
 | .loc n => match st[n]? with
  |some (.ins d fs) => if d=c/\fs.length<1000 then some (st.set n (.ins c (putA f v fs))) else none
  |_ => none
 |_ => none
noncomputable def insB (c:Nat)(m:Str)(st:Store)(x:PV):Option Bool :=
 match x with
 | .loc n => match st[n]? with
  |some (.ins d fs) => if d=c/\fs.lookup m=none then some true else none
  |_ => none
 |_ => none
noncomputable def newV (n:Nat)(v:PV)(st:Store):R PV :=
 match v with
 | .non => .ok (.loc n) st
 |_ => .bad
noncomputable def noExc (r:R PV):R PV :=
 match r with
 | .ok v st => .ok v st
 |_ => .bad
inductive Fl where
 | nx (ρ:Env) (st:Store)|rt (v:PV) (st:Store)|bk (ρ:Env) (st:Store)|ct (ρ:Env) (st:Store)|exc (c:Nat) (ρ:Env) (st:Store)|bad
noncomputable def onBl {α:Type}(x:PV)(k:Bool->R α):R α :=
 match x with
 | .bl b => k b
 |_ => .bad
noncomputable def onO {α:Type}(o:Option Bool)(k:Bool->R α):R α :=
 match o with
 |some b => k b
 |none => .bad
noncomputable def onF (o:Option Bool)(k:Bool->Fl):Fl :=
 match o with
 |some b => k b
 |none => .bad
noncomputable def onP {α:Type}(o:Option (Option Int))(k:Option Int->R α):R α :=
 match o with
 |some b => k b
 |none => .bad
noncomputable def blO (o:Option PV):Option Bool :=
 match o with
 |some (.bl b) => some b
 |_ => none
noncomputable def consO (o:Option PV)(ys:List PV):List PV :=
 match o with
 |some y => y::ys
 |none => ys
noncomputable def compL (one:PV->Store->R (Option PV)):List PV->Store->R (List PV)
 | [],st => .ok [] st
 |x::xs,st => (one x st).bind fun o st1 => (compL one xs st1).bind fun ys st2 => .ok (consO o ys) st2
noncomputable def lstR (r:R (List PV)):R PV :=
 match r with
 | .ok ys st => if ys.length<=1000000 then .ok (.lst ys) st else .bad
 |_ => .bad
mutual
noncomputable def ev (call:Nat->List PV->Store->R PV)(ρ:Env)(st:Store):Ce->R PV
 | .cst v => .ok v st
 | .var i => match ρ[i]? with
  |some (some v) => .ok v st
  |_ => .bad
 | .bin o a b => (ev call ρ st a).bind fun x st1 => (ev call ρ st1 b).bind fun y st2 => toR (binV o x y) st2
 | .neg a => (ev call ρ st a).bind fun x st1 => match x with
  | .int i => .ok (.int (-i)) st1
  |_ => .bad
 | .not a => (ev call ρ st a).bind fun x st1 => onBl x fun k => .ok (.bl (!k)) st1
 | .and a b => (ev call ρ st a).bind fun x st1 => onBl x fun k => cond k (ev call ρ st1 b) (.ok (.bl false) st1)
 | .or a b => (ev call ρ st a).bind fun x st1 => onBl x fun k => cond k (.ok (.bl true) st1) (ev call ρ st1 b)
 | .cmp o a b => (ev call ρ st a).bind fun x st1 => (ev call ρ st1 b).bind fun y st2 => toR (cmpV o x y) st2
 | .chain o p a b c => (ev call ρ st a).bind fun x st1 => (ev call ρ st1 b).bind fun y st2 => onO (blO (cmpV o x y)) fun k => cond k ((ev call ρ st2 c).bind fun z st3 => toR (cmpV p y z) st3) (.ok (.bl false) st2)
 | .ite c a b => (ev call ρ st c).bind fun x st1 => onO (truV st1 x) fun k => cond k (ev call ρ st1 a) (ev call ρ st1 b)
 | .tup es => (evs call ρ st es).bind fun vs st1 => if vs.length<=sizeMax then .ok (.tup vs) st1 else .bad
 | .lst es => (evs call ρ st es).bind fun vs st1 => if vs.length<=sizeMax then .ok (.lst vs) st1 else .bad
 | .newl es => (evs call ρ st es).bind fun vs st1 => if vs.length<=sizeMax then .ok (.loc st1.length) (st1++[.lst vs]) else .bad
 | .newd kvs => if kvs.length<=15 then .ok (.loc st.length) (st++[.dct false (kvs.foldl (fun acc kv => put (.str kv.1) (.int kv.2) acc) [])]) else .bad
 | .dict0 t => .ok (.loc st.length) (st++[.dct t []])
 | .idx a i => (ev call ρ st a).bind fun x st1 => (ev call ρ st1 i).bind fun y st2 => toR (idxV st2 x y) st2
 | .slc a l h => (ev call ρ st a).bind fun x st1 => (ev call ρ st1 l).bind fun y st2 => onP (optI y) fun o => (ev call ρ st2 h).bind fun z st3 => toR (slcV x o z) st3
 | .call f es => (evs call ρ st es).bind fun vs st1 => call f vs st1
 | .blt b es => (evs call ρ st es).bind fun vs st1 => toR (bltV b st1 vs) st1
 | .mth m o es => (ev call ρ st o).bind fun x st1 => onO (mthOk m st1 x) fun _ => (evs call ρ st1 es).bind fun vs st2 => mthV m st2 x vs
 | .isi a ts => (ev call ρ st a).bind fun x st1 => toR (isiV x ts) st1
 | .isx a cs ts => (ev call ρ st a).bind fun x st1 => toR (isxV cs x ts) st1
 | .comp sl tg it c e => (evi call ρ st it).bind fun xs st1 =>
  let ρ0:Env := sl.map fun o => o.bind fun j => (ρ[j]?).join
  lstR (compL (fun x st2 => match bindT tg x ρ0 with
   |none => .bad
   |some ρ1 => (ev call ρ1 st2 c).bind fun b st3 => onO (truV st3 b) fun k => cond k ((ev call ρ1 st3 e).bind fun y st4 => .ok (some y) st4) (.ok none st3)) xs st1)
 | .nope => .bad
 | .frz a => (ev call ρ st a).bind fun x st1 => frzV x st1
 | .fst es => fstR (evs call ρ st es)
 | .rep a b => (ev call ρ st a).bind fun x st1 => (ev call ρ st1 b).bind fun y st2 => toR (repV x y) st2
 | .dix D a => (ev call ρ st a).bind fun x st1 => toR (dixV D x) st1
 | .din a D => (ev call ρ st a).bind fun x st1 => toR (dinV D x) st1
 | .thw a => (ev call ρ st a).bind fun x st1 => thwV x st1
 | .nin a b => (ev call ρ st a).bind fun x st1 => (ev call ρ st1 b).bind fun y st2 => toR (ninV st2 x y) st2
 | .fld c a f => (ev call ρ st a).bind fun x st1 => toR (fldV c st1 x f) st1
 | .new c i es => (evs call ρ st es).bind fun vs st1 => (noExc (call i (.loc st1.length::vs) (st1++[.ins c []]))).bind fun v st2 => newV st1.length v st2
 | .dgt a i => (ev call ρ st a).bind fun x st1 => (ev call ρ st1 i).bind fun y st2 => toR (dgtV st2 x y) st2
 | .qcl i es => (evs call ρ st es).bind fun vs st1 => noExc (call i vs st1)
 | .inn a b => (ev call ρ st a).bind fun x st1 => (ev call ρ st1 b).bind fun y st2 => toR (innV st2 x y) st2
 | .mcl c i m o es => (ev call ρ st o).bind fun x st1 => onO (insB c m st1 x) fun _ => (evs call ρ st1 es).bind fun vs st2 => call i (x::vs) st2
 | .dsub ks es i => match evs call ρ st es with
  | .ok vs st1 => if ks.length=vs.length/\ks.length<=15 then (ev call ρ st1 i).bind fun y st2 => toR (dsubV ks vs y) st2 else .bad
  |_ => .bad
 | .isl a => (ev call ρ st a).bind fun x st1 => toR (islV st1 x) st1
noncomputable def evs (call:Nat->List PV->Store->R PV)(ρ:Env)(st:Store):Ces->R (List PV)
 | .nil => .ok [] st
 | .cons e es => (ev call ρ st e).bind fun v st1 => (evs call ρ st1 es).bind fun vs st2 => .ok (v::vs) st2
noncomputable def evi (call:Nat->List PV->Store->R PV)(ρ:Env)(st:Store):Cit->R (List PV)
 | .seq e => (ev call ρ st e).bind fun v st1 => match v with
  | .tp _ xs => .ok xs st1
  | .lst xs => .ok xs st1
  |_ => .bad
 | .range1 a => (ev call ρ st a).bind fun x st1 => toL (rng1 x) st1
 | .range2 a b => (ev call ρ st a).bind fun x st1 => (ev call ρ st1 b).bind fun y st2 => toL (rng2 x y) st2
 | .rangeD a b => (ev call ρ st a).bind fun x st1 => (ev call ρ st1 b).bind fun y st2 => toL (rngD x y) st2
 | .enum e => (ev call ρ st e).bind fun v st1 => match v with
  | .tp _ xs => .ok (pairsUp 0 xs) st1
  |_ => .bad
 | .zip a b => (ev call ρ st a).bind fun x st1 => (ev call ρ st1 b).bind fun y st2 => toL (zipV x y) st2
 | .revl e => (ev call ρ st e).bind fun v st1 => toL (revL v) st1
 | .revr a => (ev call ρ st a).bind fun x st1 => toL (rngR x) st1
 | .chars e => (ev call ρ st e).bind fun v st1 => toL (charsV v) st1
end
noncomputable def R.fl {α:Type}(r:R α)(ρ:Env)(k:α->Store->Fl):Fl :=
 match r with
 | .ok a st => k a st
 | .exc c st => .exc c ρ st
 | .bad => .bad
noncomputable def againF (f:Fl)(k:Env->Store->Fl):Fl :=
 match f with
 | .nx ρ st => k ρ st
 | .ct ρ st => k ρ st
 | .bk ρ st => .nx ρ st
 |f => f
noncomputable def forL (t:Tg)(body:Env->Store->Fl):List PV->Env->Store->Fl
 | [],ρ,st => .nx ρ st
 |x::xs,ρ,st => match bindT t x ρ with
  |none => .bad
  |some ρ1 => againF (body ρ1 st) fun ρ2 st2 => forL t body xs ρ2 st2
noncomputable def forV (t:Tg)(body:Env->Store->Fl)(n:Nat):Nat->Nat->Env->Store->Fl
 |0,_,_,_ => .bad
 |f+1,i,ρ,st => match st[n]? with
  |some (.lst xs) => match xs[i]? with
   |some x => (match bindT t x ρ with
    |none => .bad
    |some ρ1 => againF (body ρ1 st) fun ρ2 st2 => forV t body n f (i+1) ρ2 st2)
   |none => .nx ρ st
  |_ => .bad
noncomputable def whileL (test:Env->Store->R PV)(body:Env->Store->Fl):Nat->Env->Store->Fl
 |0,_,_ => .bad
 |n+1,ρ,st => (test ρ st).fl ρ fun x st1 => onF (truV st1 x) fun k => cond k (againF (body ρ st1) fun ρ2 st2 => whileL test body n ρ2 st2) (.nx ρ st1)
noncomputable def sixV (st:Store)(o i v:PV):Option Store :=
 match o with
 | .loc n => match st[n]? with
  |some (.lst xs) => match i with
   | .int k => match ixI xs.length k with
    |some j => some (st.set n (.lst (xs.set j v)))
    |none => none
   |_ => none
  |_ => none
 |_ => none
noncomputable def dputV (st:Store)(o i v:PV):Option Store :=
 match o with
 | .loc n => match st[n]? with
  |some (.dct t kvs) => if isKey t i/\kvs.length<1000000 then some (st.set n (.dct t (put i v kvs))) else none
  |_ => none
 |_ => none
mutual
noncomputable def ex (call:Nat->List PV->Store->R PV)(ρ:Env)(st:Store):Cs->Fl
 | .expr e => (ev call ρ st e).fl ρ fun _ st1 => .nx ρ st1
 | .asg t e => (ev call ρ st e).fl ρ fun v st1 => match bindT t v ρ with
  |some ρ1 => .nx ρ1 st1
  |none => .bad
 | .six o i e => (ev call ρ st e).fl ρ fun v st1 => (ev call ρ st1 o).fl ρ fun x st2 => (ev call ρ st2 i).fl ρ fun y st3 => match sixV st3 x y v with
  |some st4 => .nx ρ st4
  |none => .bad
 | .dput o i e => (ev call ρ st e).fl ρ fun v st1 => (ev call ρ st1 o).fl ρ fun x st2 => (ev call ρ st2 i).fl ρ fun y st3 => match dputV st3 x y v with
  |some st4 => .nx ρ st4
  |none => .bad
 | .aug i o e => match ρ[i]? with
  |some (some x) => (ev call ρ st e).fl ρ fun y st1 => match augV o x y with
   |some z => .nx (ρ.set i (some z)) st1
   |none => .bad
  |_ => .bad
 | .ret e => (ev call ρ st e).fl ρ fun v st1 => .rt v st1
 | .ite c a b => (ev call ρ st c).fl ρ fun x st1 => onF (truV st1 x) fun k => cond k (exs call ρ st1 a) (exs call ρ st1 b)
 | .for t it b => (evi call ρ st it).fl ρ fun xs st1 => forL t (fun ρ2 st2 => exs call ρ2 st2 b) xs ρ st1
 | .while c b => whileL (fun ρ2 st2 => ev call ρ2 st2 c) (fun ρ2 st2 => exs call ρ2 st2 b) 100000 ρ st
 | .nope => .bad
 | .brk => .bk ρ st
 | .cnt => .ct ρ st
 | .pass => .nx ρ st
 | .raise c e => (ev call ρ st e).fl ρ fun _ st1 => .exc c ρ st1
 | .try b cs i h => match exs call ρ st b with
  | .exc d ρ1 st1 => if cs.contains d then (match exs call (ρ1.set i (some (.exn d))) st1 h with
   | .nx ρ2 st2 => .nx (ρ2.set i none) st2
   | .rt v st2 => .rt v st2
   |_ => .bad) else .bad
  |f => f
 | .six2 o i p j e f => (ev call ρ st e).fl ρ fun v st1 => (ev call ρ st1 f).fl ρ fun w st2 => (ev call ρ st2 o).fl ρ fun x st3 => (ev call ρ st3 i).fl ρ fun y st4 => match sixV st4 x y v with
  |none => .bad
  |some st5 => (ev call ρ st5 p).fl ρ fun x2 st6 => (ev call ρ st6 j).fl ρ fun y2 st7 => match sixV st7 x2 y2 w with
   |some st8 => .nx ρ st8
   |none => .bad
 | .mkr i D n es => (ev call ρ st n).fl ρ fun x st1 => match mkV D (decide (i<ρ.length)) x with
  |some j => ((evs call (ρ.set i none) st1 es).bind fun vs st2 => call j vs st2).fl (ρ.set i none) fun v st3 => .rt v st3
  |none => .bad
 | .forl t e b => (ev call ρ st e).fl ρ fun v st1 => match v with
  | .tp _ xs => forL t (fun ρ2 st2 => exs call ρ2 st2 b) xs ρ st1
  | .lst xs => forL t (fun ρ2 st2 => exs call ρ2 st2 b) xs ρ st1
  | .loc n => forV t (fun ρ2 st2 => exs call ρ2 st2 b) n 100000 0 ρ st1
  |_ => .bad
 | .sfl c o f e => (ev call ρ st e).fl ρ fun v st1 => (ev call ρ st1 o).fl ρ fun x st2 => match sflV c st2 x f v with
  |some st3 => .nx ρ st3
  |none => .bad
noncomputable def exs (call:Nat->List PV->Store->R PV)(ρ:Env)(st:Store):Css->Fl
 | .nil => .nx ρ st
 | .cons s ss => match ex call ρ st s with
  | .nx ρ1 st1 => exs call ρ1 st1 ss
  |f => f
end
structure Fn where
 np:Nat
 ns:Nat
 pure:Bool
 body:Css
noncomputable def callT (T:Nat->Option Fn):Nat->Nat->List PV->Store->R PV
 |0,_,_,_ => .bad
 |k+1,f,args,st => match T f with
  |none => .bad
  |some fn => if args.length=fn.np then
    if fn.pure then
     if noLocs args then match exs (callT T k) (args.map some++List.replicate (fn.ns - fn.np) none) [] fn.body with
      | .rt v _ => if noLoc v then .ok v st else .bad
      | .nx _ _ => .ok .non st
      | .exc c _ _ => .exc c st
      |_ => .bad
     else .bad
    else match exs (callT T k) (args.map some++List.replicate (fn.ns - fn.np) none) st fn.body with
     | .rt v st1 => .ok v st1
     | .nx _ st1 => .ok .non st1
     | .exc c _ st1 => .exc c st1
     |_ => .bad
   else .bad
def RLe {α:Type}(r q:R α):Prop := r=.bad \/ r=q
def FLe (f g:Fl):Prop := f=.bad \/ f=g
noncomputable abbrev Cl := Nat->List PV->Store->R PV
def CLe (c d:Cl):Prop := ∀f a s,RLe (c f a s) (d f a s)
theorem RLe.rfl {α:Type}{r:R α}:RLe r r := .inr (Eq.refl _)
theorem FLe.rfl {f:Fl}:FLe f f := .inr (Eq.refl _)
theorem RLe.bind {α β:Type}{r q:R α}{k l:α->Store->R β}(h:RLe r q)(hk:∀a s,RLe (k a s) (l a s)):RLe (r.bind k) (q.bind l) := by
 rcases h with h|h
 ·subst h;exact .inl (Eq.refl _)
 ·subst h
  cases r with
  |ok a s => exact hk a s
  |exc c s => exact .rfl
  |bad => exact .rfl
theorem RLe.fl {α:Type}{r q:R α}{ρ:Env}{k l:α->Store->Fl}(h:RLe r q)(hk:∀a s,FLe (k a s) (l a s)):FLe (r.fl ρ k) (q.fl ρ l) := by
 rcases h with h|h
 ·subst h;exact .inl (Eq.refl _)
 ·subst h
  cases r with
  |ok a s => exact hk a s
  |exc c s => exact .rfl
  |bad => exact .rfl
theorem RLe.comp {r q:R (List PV)}(h:RLe r q):RLe (lstR r) (lstR q) := by
 rcases h with h|h
 ·subst h;exact .inl (Eq.refl _)
 ·subst h;exact .rfl
theorem ze7 {α:Type}{x:PV}{k l:Bool->R α}(h:∀b,RLe (k b) (l b)):RLe (onBl x k) (onBl x l) := by
 cases x with
 |bl b => exact h b
 |_ => exact .rfl
theorem zdl {α:Type}{x:Option Bool}{k l:Bool->R α}(h:∀b,RLe (k b) (l b)):RLe (onO x k) (onO x l) := by
 cases x with
 |some b => exact h b
 |none => exact .rfl
theorem zhz {x:Option Bool}{k l:Bool->Fl}(h:∀b,FLe (k b) (l b)):FLe (onF x k) (onF x l) := by
 cases x with
 |some b => exact h b
 |none => exact .rfl
theorem ziT {α:Type}{x:Option (Option Int)}{k l:Option Int->R α}(h:∀b,RLe (k b) (l b)):RLe (onP x k) (onP x l) := by
 cases x with
 |some b => exact h b
 |none => exact .rfl
theorem zbR {α:Type}{b:Bool}{r q r' q':R α}(h:RLe r q)(h':RLe r' q'):RLe (cond b r r') (cond b q q') := by
 cases b
 ·exact h'
 ·exact h
theorem zei {b:Bool}{r q r' q':Fl}(h:FLe r q)(h':FLe r' q'):FLe (cond b r r') (cond b q q') := by
 cases b
 ·exact h'
 ·exact h
theorem zcK {f g:PV->Store->R (Option PV)}(h:∀x s,RLe (f x s) (g x s)):∀xs s,RLe (compL f xs s) (compL g xs s)
 | [],s => .rfl
 |x::xs,s => (h x s).bind fun o s1 => (zcK h xs s1).bind fun ys s2 => .rfl
theorem zb6 {f g:Fl}{k l:Env->Store->Fl}(h:FLe f g)(hk:∀ρ s,FLe (k ρ s) (l ρ s)):FLe (againF f k) (againF g l) := by
 rcases h with h|h
 ·subst h;exact .inl (Eq.refl _)
 ·subst h
  cases f with
  |nx ρ s => exact hk ρ s
  |ct ρ s => exact hk ρ s
  |_ => exact .rfl
theorem zcH {t:Tg}{f g:Env->Store->Fl}(h:∀ρ s,FLe (f ρ s) (g ρ s)):∀xs ρ s,FLe (forL t f xs ρ s) (forL t g xs ρ s)
 | [],ρ,s => .rfl
 |x::xs,ρ,s => by
  unfold forL
  cases bindT t x ρ with
  |none => exact .rfl
  |some ρ1 => exact zb6 (h ρ1 s) fun ρ2 s2 => zcH h xs ρ2 s2
theorem zfx {t:Tg}{f g:Env->Store->Fl}{n:Nat}(h:∀ρ s,FLe (f ρ s) (g ρ s)):∀k i ρ s,FLe (forV t f n k i ρ s) (forV t g n k i ρ s)
 |0,i,ρ,s => .rfl
 |k+1,i,ρ,s => by
  unfold forV
  cases s[n]? with
  |none => exact .rfl
  |some o =>
   cases o with
   |lst xs =>
    dsimp only
    cases xs[i]? with
    |none => exact .rfl
    |some x =>
     dsimp only
     cases bindT t x ρ with
     |none => exact .rfl
     |some ρ1 => exact zb6 (h ρ1 s) fun ρ2 s2 => zfx h k (i+1) ρ2 s2
   |_ => exact .rfl
theorem zdd {t u:Env->Store->R PV}{f g:Env->Store->Fl}(ht:∀ρ s,RLe (t ρ s) (u ρ s))(h:∀ρ s,FLe (f ρ s) (g ρ s)):∀n ρ s,FLe (whileL t f n ρ s) (whileL u g n ρ s)
 |0,ρ,s => .rfl
 |n+1,ρ,s => by
  unfold whileL
  exact (ht ρ s).fl fun x s1 => zhz fun b => zei (zb6 (h ρ s1) fun ρ2 s2 => zdd ht h n ρ2 s2) .rfl
mutual
theorem zm {c d:Cl}(h:CLe c d):∀(e:Ce) (ρ:Env) (s:Store),RLe (ev c ρ s e) (ev d ρ s e)
 | .cst v,ρ,s => by simp only [ev];exact .rfl
 | .var i,ρ,s => by simp only [ev];exact .rfl
 | .bin o a b,ρ,s => by
  simp only [ev]
  exact (zm h a ρ s).bind fun x s1 => (zm h b ρ s1).bind fun y s2 => .rfl
 | .neg a,ρ,s => by
  simp only [ev]
  exact (zm h a ρ s).bind fun x s1 => .rfl
 | .not a,ρ,s => by
  simp only [ev]
  exact (zm h a ρ s).bind fun x s1 => .rfl
 | .and a b,ρ,s => by
  simp only [ev]
  refine (zm h a ρ s).bind fun x s1 => ?_
  exact ze7 fun k => zbR (zm h b ρ s1) .rfl
 | .or a b,ρ,s => by
  simp only [ev]
  refine (zm h a ρ s).bind fun x s1 => ?_
  exact ze7 fun k => zbR .rfl (zm h b ρ s1)
 | .cmp o a b,ρ,s => by
  simp only [ev]
  exact (zm h a ρ s).bind fun x s1 => (zm h b ρ s1).bind fun y s2 => .rfl
 | .chain o p a b k,ρ,s => by
  simp only [ev]
  refine (zm h a ρ s).bind fun x s1 => (zm h b ρ s1).bind fun y s2 => ?_
  exact zdl fun q => zbR ((zm h k ρ s2).bind fun z s3 => .rfl) .rfl
 | .ite k a b,ρ,s => by
  simp only [ev]
  exact (zm h k ρ s).bind fun x s1 => zdl fun q => zbR (zm h a ρ s1) (zm h b ρ s1)
 | .tup es,ρ,s => by
  simp only [ev]
  exact (zaf h es ρ s).bind fun x s1 => .rfl
 | .lst es,ρ,s => by
  simp only [ev]
  exact (zaf h es ρ s).bind fun x s1 => .rfl
 | .newl es,ρ,s => by
  simp only [ev]
  exact (zaf h es ρ s).bind fun x s1 => .rfl
 | .newd kvs,ρ,s => by simp only [ev];exact .rfl
 | .dict0 t,ρ,s => by simp only [ev];exact .rfl
 | .idx a i,ρ,s => by
  simp only [ev]
  exact (zm h a ρ s).bind fun x s1 => (zm h i ρ s1).bind fun y s2 => .rfl
 | .slc a l u,ρ,s => by
  simp only [ev]
  exact (zm h a ρ s).bind fun x s1 => (zm h l ρ s1).bind fun y s2 => ziT fun o => (zm h u ρ s2).bind fun z s3 => .rfl
 | .call f es,ρ,s => by
  simp only [ev]
  exact (zaf h es ρ s).bind fun x s1 => h f x s1
 | .blt b es,ρ,s => by
  simp only [ev]
  exact (zaf h es ρ s).bind fun x s1 => .rfl
 | .mth m o es,ρ,s => by
  simp only [ev]
  exact (zm h o ρ s).bind fun x s1 => zdl fun _ => (zaf h es ρ s1).bind fun y s2 => .rfl
 | .isi a ts,ρ,s => by
  simp only [ev]
  exact (zm h a ρ s).bind fun x s1 => .rfl
 | .isx a cs ts,ρ,s => by
  simp only [ev]
  exact (zm h a ρ s).bind fun x s1 => .rfl
 | .comp sl tg it k e,ρ,s => by
  simp only [ev]
  refine (zhq h it ρ s).bind fun xs s1 => ?_
  have q := fun (f g:PV->Store->R (Option PV)) (hfg:∀x s,RLe (f x s) (g x s)) => zcK hfg xs s1
  refine RLe.comp (zcK (fun x s2 => ?_) xs s1)
  cases bindT tg x _ with
  |none => exact .rfl
  |some ρ1 =>
   dsimp only
   exact (zm h k ρ1 s2).bind fun b s3 => zdl fun q => zbR ((zm h e ρ1 s3).bind fun y s4 => .rfl) .rfl
 | .nope,ρ,s => by simp only [ev];exact .rfl
 | .frz a,ρ,s => by
  simp only [ev]
  exact (zm h a ρ s).bind fun x s1 => .rfl
 | .fst es,ρ,s => by
  simp only [ev]
  rcases zaf h es ρ s with e|e
  ·rw [e];exact .inl (Eq.refl _)
  ·rw [e];exact .rfl
 | .rep a b,ρ,s => by
  simp only [ev]
  exact (zm h a ρ s).bind fun x s1 => (zm h b ρ s1).bind fun y s2 => .rfl
 | .dix D a,ρ,s => by
  simp only [ev]
  exact (zm h a ρ s).bind fun x s1 => .rfl
 | .din a D,ρ,s => by
  simp only [ev]
  exact (zm h a ρ s).bind fun x s1 => .rfl
 | .thw a,ρ,s => by
  simp only [ev]
  exact (zm h a ρ s).bind fun x s1 => .rfl
 | .nin a b,ρ,s => by
  simp only [ev]
  exact (zm h a ρ s).bind fun x s1 => (zm h b ρ s1).bind fun y s2 => .rfl
 | .fld q a f,ρ,s => by
  simp only [ev]
  exact (zm h a ρ s).bind fun x s1 => .rfl
 | .new q i es,ρ,s => by
  simp only [ev]
  refine (zaf h es ρ s).bind fun x s1 => RLe.bind ?_ fun v s2 => .rfl
  rcases h i (.loc s1.length::x) (s1++[.ins q []]) with e|e
  ·rw [e];exact .inl (Eq.refl _)
  ·rw [e];exact .rfl
 | .dgt a i,ρ,s => by
  simp only [ev]
  exact (zm h a ρ s).bind fun x s1 => (zm h i ρ s1).bind fun y s2 => .rfl
 | .qcl i es,ρ,s => by
  simp only [ev]
  refine (zaf h es ρ s).bind fun x s1 => ?_
  rcases h i x s1 with e|e
  ·rw [e];exact .inl (Eq.refl _)
  ·rw [e];exact .rfl
 | .inn a b,ρ,s => by
  simp only [ev]
  exact (zm h a ρ s).bind fun x s1 => (zm h b ρ s1).bind fun y s2 => .rfl
 | .mcl q i m o es,ρ,s => by
  simp only [ev]
  exact (zm h o ρ s).bind fun x s1 => zdl fun _ => (zaf h es ρ s1).bind fun y s2 => h i (x::y) s2
 | .dsub ks es i,ρ,s => by
  simp only [ev]
  rcases zaf h es ρ s with hq|hq
  ·rw [hq];exact .inl rfl
  ·rw [hq]
   cases evs d ρ s es with
   |ok vs s1 =>
    dsimp only
    split
    ·exact (zm h i ρ s1).bind fun x s2 => .rfl
    ·exact .inl rfl
   |exc k s1 => exact .inl rfl
   |bad => exact .inl rfl
 | .isl a,ρ,s => by
  simp only [ev]
  exact (zm h a ρ s).bind fun x s1 => .rfl
theorem zaf {c d:Cl}(h:CLe c d):∀(e:Ces) (ρ:Env) (s:Store),RLe (evs c ρ s e) (evs d ρ s e)
 | .nil,ρ,s => by simp only [evs];exact .rfl
 | .cons e es,ρ,s => by
  simp only [evs]
  exact (zm h e ρ s).bind fun x s1 => (zaf h es ρ s1).bind fun y s2 => .rfl
theorem zhq {c d:Cl}(h:CLe c d):∀(e:Cit) (ρ:Env) (s:Store),RLe (evi c ρ s e) (evi d ρ s e)
 | .seq e,ρ,s => by
  simp only [evi]
  exact (zm h e ρ s).bind fun x s1 => .rfl
 | .range1 a,ρ,s => by
  simp only [evi]
  exact (zm h a ρ s).bind fun x s1 => .rfl
 | .range2 a b,ρ,s => by
  simp only [evi]
  exact (zm h a ρ s).bind fun x s1 => (zm h b ρ s1).bind fun y s2 => .rfl
 | .rangeD a b,ρ,s => by
  simp only [evi]
  exact (zm h a ρ s).bind fun x s1 => (zm h b ρ s1).bind fun y s2 => .rfl
 | .enum e,ρ,s => by
  simp only [evi]
  exact (zm h e ρ s).bind fun x s1 => .rfl
 | .zip a b,ρ,s => by
  simp only [evi]
  exact (zm h a ρ s).bind fun x s1 => (zm h b ρ s1).bind fun y s2 => .rfl
 | .revl e,ρ,s => by
  simp only [evi]
  exact (zm h e ρ s).bind fun x s1 => .rfl
 | .revr e,ρ,s => by
  simp only [evi]
  exact (zm h e ρ s).bind fun x s1 => .rfl
 | .chars e,ρ,s => by
  simp only [evi]
  exact (zm h e ρ s).bind fun x s1 => .rfl
end
mutual
theorem zkn {c d:Cl}(h:CLe c d):∀(x:Cs) (ρ:Env) (s:Store),FLe (ex c ρ s x) (ex d ρ s x)
 | .expr e,ρ,s => by
  simp only [ex]
  exact (zm h e ρ s).fl fun x s1 => .rfl
 | .asg t e,ρ,s => by
  simp only [ex]
  exact (zm h e ρ s).fl fun x s1 => .rfl
 | .six o i e,ρ,s => by
  simp only [ex]
  exact (zm h e ρ s).fl fun x s1 => (zm h o ρ s1).fl fun y s2 => (zm h i ρ s2).fl fun z s3 => .rfl
 | .dput o i e,ρ,s => by
  simp only [ex]
  exact (zm h e ρ s).fl fun x s1 => (zm h o ρ s1).fl fun y s2 => (zm h i ρ s2).fl fun z s3 => .rfl
 | .aug i o e,ρ,s => by
  simp only [ex]
  split
  ·exact (zm h e ρ s).fl fun x s1 => .rfl
  ·exact .rfl
 | .ret e,ρ,s => by
  simp only [ex]
  exact (zm h e ρ s).fl fun x s1 => .rfl
 | .ite k a b,ρ,s => by
  simp only [ex]
  exact (zm h k ρ s).fl fun x s1 => zhz fun q => zei (zaw h a ρ s1) (zaw h b ρ s1)
 | .for t it b,ρ,s => by
  simp only [ex]
  exact (zhq h it ρ s).fl fun xs s1 => zcH (fun ρ2 s2 => zaw h b ρ2 s2) xs ρ s1
 | .forl t e b,ρ,s => by
  simp only [ex]
  refine (zm h e ρ s).fl fun x s1 => ?_
  cases x with
  |tp k xs => exact zcH (fun ρ2 s2 => zaw h b ρ2 s2) xs ρ s1
  |lst xs => exact zcH (fun ρ2 s2 => zaw h b ρ2 s2) xs ρ s1
  |loc n => exact zfx (fun ρ2 s2 => zaw h b ρ2 s2) 100000 0 ρ s1
  |_ => exact .rfl
 | .while k b,ρ,s => by
  simp only [ex]
  exact zdd (fun ρ2 s2 => zm h k ρ2 s2) (fun ρ2 s2 => zaw h b ρ2 s2) _ ρ s
 | .nope,ρ,s => by simp only [ex];exact .rfl
 | .brk,ρ,s => by simp only [ex];exact .rfl
 | .cnt,ρ,s => by simp only [ex];exact .rfl
 | .pass,ρ,s => by simp only [ex];exact .rfl
 | .raise k e,ρ,s => by
  simp only [ex]
  exact (zm h e ρ s).fl fun x s1 => .rfl
 | .try b k i u,ρ,s => by
  simp only [ex]
  rcases zaw h b ρ s with e|e
  ·rw [e];exact .inl (Eq.refl _)
  ·rw [e]
   cases exs d ρ s b with
   |exc q ρ1 s1 =>
    dsimp only
    split
    ·rcases zaw h u (ρ1.set i (some (.exn q))) s1 with e|e
     ·rw [e];exact .inl (Eq.refl _)
     ·rw [e];exact .rfl
    ·exact .rfl
   |_ => exact .rfl
 | .six2 o i p j e f,ρ,s => by
  simp only [ex]
  refine (zm h e ρ s).fl fun v s1 => (zm h f ρ s1).fl fun w s2 => (zm h o ρ s2).fl fun x s3 => (zm h i ρ s3).fl fun y s4 => ?_
  split
  ·exact .rfl
  ·exact (zm h p ρ _).fl fun x2 s6 => (zm h j ρ s6).fl fun y2 s7 => .rfl
 | .mkr i D n es,ρ,s => by
  simp only [ex]
  refine (zm h n ρ s).fl fun x s1 => ?_
  split
  ·exact ((zaf h es _ s1).bind fun vs s2 => h _ vs s2).fl fun v s3 => .rfl
  ·exact .rfl
 | .sfl q o f e,ρ,s => by
  simp only [ex]
  exact (zm h e ρ s).fl fun x s1 => (zm h o ρ s1).fl fun y s2 => .rfl
theorem zaw {c d:Cl}(h:CLe c d):∀(x:Css) (ρ:Env) (s:Store),FLe (exs c ρ s x) (exs d ρ s x)
 | .nil,ρ,s => by simp only [exs];exact .rfl
 | .cons x xs,ρ,s => by
  simp only [exs]
  rcases zkn h x ρ s with e|e
  ·rw [e];exact .inl (Eq.refl _)
  ·rw [e]
   cases ex d ρ s x with
   |nx ρ1 s1 => exact zaw h xs ρ1 s1
   |_ => exact .rfl
end
theorem zdt (T:Nat->Option Fn):∀k,CLe (callT T k) (callT T (k+1))
 |0,f,a,s => .inl (Eq.refl _)
 |k+1,f,a,s => by
  have h := zdt T k
  rw [callT,callT]
  cases T f with
  |none => exact .rfl
  |some fn =>
   dsimp only
   split
   ·split
    ·split
     ·rcases zaw h fn.body (a.map some++List.replicate (fn.ns - fn.np) none) [] with e|e
      ·rw [e];exact .inl (Eq.refl _)
      ·rw [e];exact .rfl
     ·exact .rfl
    ·rcases zaw h fn.body (a.map some++List.replicate (fn.ns - fn.np) none) s with e|e
     ·rw [e];exact .inl (Eq.refl _)
     ·rw [e];exact .rfl
   ·exact .rfl
theorem zbg {T:Nat->Option Fn}{k:Nat}{f:Nat}{a:List PV}{s s':Store}{v:PV}(h:callT T k f a s=.ok v s'):∀j,callT T (k+j) f a s=.ok v s'
 |0 => h
 |j+1 => by
  have q := zbg h j
  rcases zdt T (k+j) f a s with e|e
  ·rw [q] at e;cases e
  ·rw [Nat.add_assoc] at e
   rw [<- e];exact q
end IC
namespace L2
open PySem PySem.Spec PyProof.Rows IC
noncomputable abbrev Ph := List (Option Addr)
section
variable (K:PySem.W.Frag)(cl:Nat->Addr)(B:Addr->Prop)(φ:Ph)(H:Hp)
def RTup (k:Bool)(a:Addr)(xs:List V):Prop := (H a=some (.tup xs)/\¬B a/\some a∉φ) \/
 k=true/\∃(o:Obj) (its:Array Value) (n:Nat),K.lookup a=some o/\o.cls=.type "tuple"/\o.data=.seq its n/\its.size<=sizeLine/\Vals xs its.toList
def RLst (a:Addr)(xs:List V):Prop := H a=some (.lst xs)/\¬B a/\some a∉φ
def RScr (a:Addr)(xs:List V):Prop := (Rd H a (.lst xs)/\¬B a/\some a∉φ) \/
 ∃(o:Obj) (its:Array Value) (n:Nat),K.lookup a=some o/\o.cls=.type "list"/\o.dict=none/\o.data=.seq its n/\its.size<=sizeLine/\Vals xs its.toList
mutual
noncomputable def RepV:PV->V->Prop
 | .non,x => x=.non
 | .bl b,x => x=.bl b
 | .int i,x => x=.int i
 | .str s,x => x=.str s
 | .tp k vs,x => ∃a xs,x=.ref a/\RTup K B φ H k a xs/\RepL vs xs
 | .lst vs,x => ∃a xs,x=.ref a/\RLst B φ H a xs/\RepL vs xs
 | .loc n,x => n<φ.length/\∃a,x=.ref a/\∀b,φ[n]?=some (some b)->b=a
 | .exn c,x => ∃a,x=.ref a/\H a=some (.ext (ExcO a (cl c)))/\¬B a/\some a∉φ
 | .scr vs,x => ∃a xs,x=.ref a/\RScr K B φ H a xs/\RepL vs xs
noncomputable def RepL:List PV->List V->Prop
 | [],xs => xs=[]
 |v::vs,xs => ∃y ys,xs=y::ys/\RepV v y/\RepL vs ys
end
noncomputable def keyP:Key->PV
 | .inl i => .int i
 | .inr y => .str y
noncomputable def DK:List (PV×PV)->List (Key×V)->Prop
 | [],ks => ks=[]
 | (k,v)::r,ks => ∃q x s,ks=(q,x)::s/\k=keyP q/\RepV K cl B φ H v x/\DK r s
noncomputable def DT:List (PV×PV)->List (List Key×V)->Prop
 | [],ks => ks=[]
 | (k,v)::r,ks => ∃q x s,ks=(q,x)::s/\k=.tup (q.map keyP)/\RepV K cl B φ H v x/\DT r s
noncomputable def FS:List (Str×PV)->List (Str×V)->Prop
 | [],ks => ks=[]
 | (k,v)::r,ks => ∃x s,ks=(k,x)::s/\RepV K cl B φ H v x/\FS r s
noncomputable def RepO:Ob->Addr->Prop
 | .lst vs,a => ∃xs,H a=some (.lst xs)/\RepL K cl B φ H vs xs
 | .dct false kvs,a => ∃ks,H a=some (.dK ks)/\DK K cl B φ H kvs ks
 | .dct true kvs,a => ∃ks,H a=some (.dT ks)/\DT K cl B φ H kvs ks
 | .dead,_ => False
 | .ins c fs,a => ∃ks,(∃dx,H a=some (.ins (cl c) dx ks))/\FS K cl B φ H fs ks
structure RepS (st:Store):Prop where
 len:φ.length=st.length
 inj:∀(m n:Nat) (a:Addr),φ[m]?=some (some a)->φ[n]?=some (some a)->m=n
 obj:∀(n:Nat) (a:Addr),φ[n]?=some (some a)->∃o,st[n]?=some o/\RepO K cl B φ H o a
 liv:∀(n:Nat) (o:Ob),st[n]?=some o->o ≠ .dead->∃a,φ[n]?=some (some a)
 nb:∀a,some a∈φ->¬B a
 dom:∀a,B a->∃o,H a=some o
structure RepE (ρ:IC.Env)(σ:St):Prop where
 len:ρ.length=σ.length
 get:∀(i:Nat) (v:PV),ρ[i]?=some (some v)->∃x,σ[i]?=some (some x)/\RepV K cl B φ H v x
end
structure Step (φ:Ph)(H:Hp)(φ':Ph)(H':Hp):Prop where
 keep:∀b o,some b∉φ->H b=some o->H' b=some o
 len:φ.length<=φ'.length
 pre:∀(n:Nat) (a:Addr),n<φ.length->φ'[n]?=some (some a)->φ[n]?=some (some a)
 new:∀b,some b∈φ'->some b∈φ \/ H b=none
theorem Step.rfl {φ:Ph}{H:Hp}:Step φ H φ H := ⟨fun _ _ _ e => e,Nat.le_refl _,fun _ _ _ e => e,fun _ h => .inl h⟩
theorem Step.trans {φ φ1 φ2:Ph}{H H1 H2:Hp}(s:Step φ H φ1 H1)(t:Step φ1 H1 φ2 H2):Step φ H φ2 H2 := by
 refine ⟨fun b o n e => ?_,Nat.le_trans s.len t.len,fun n a hn e => s.pre n a hn (t.pre n a (Nat.lt_of_lt_of_le hn s.len) e),fun b hb => ?_⟩
 ·refine t.keep b o (fun h => ?_) (s.keep b o n e)
  rcases s.new b h with q|q
  ·exact n q
  ·rw [e] at q;cases q
 ·rcases t.new b hb with q|q
  ·exact s.new b q
  ·by_cases h:some b∈φ
   ·exact .inl h
   ·refine .inr ?_
    cases e:H b with
    |none => exact Eq.refl _
    |some o => rw [s.keep b o h e] at q;cases q
section
variable {K:PySem.W.Frag}{cl:Nat->Addr}{B:Addr->Prop}{φ φ':Ph}{H H':Hp}{st:Store}{ρ:IC.Env}{σ:St}
theorem Rd.step (s:Step φ H φ' H'){a:Addr}{u:HO}(n:some a∉φ)(r:Rd H a u):Rd H' a u/\some a∉φ' := by
 have h:∃o,H a=some o := by
  rcases r with r|⟨o,r⟩ <;> exact ⟨_,r⟩
 refine ⟨?_,fun z => ?_⟩
 ·rcases r with r|⟨o,r⟩
  ·exact .inl (s.keep _ _ n r)
  ·exact .inr ⟨o,s.keep _ _ n r⟩
 ·obtain ⟨o,e⟩ := h
  rcases s.new a z with q|q
  ·exact n q
  ·rw [e] at q;cases q
theorem RTup.step (s:Step φ H φ' H'){k:Bool}{a:Addr}{xs:List V}(r:RTup K B φ H k a xs):RTup K B φ' H' k a xs := by
 rcases r with ⟨r,b,n⟩|r
 ·obtain ⟨_,n'⟩ := (Rd.of r).step s n
  exact .inl ⟨s.keep _ _ n r,b,n'⟩
 ·exact .inr r
theorem RLst.step (s:Step φ H φ' H'){a:Addr}{xs:List V}(r:RLst B φ H a xs):RLst B φ' H' a xs := by
 obtain ⟨r,b,n⟩ := r
 obtain ⟨_,n'⟩ := (Rd.of r).step s n
 exact ⟨s.keep _ _ n r,b,n'⟩
theorem RScr.step (s:Step φ H φ' H'){a:Addr}{xs:List V}(r:RScr K B φ H a xs):RScr K B φ' H' a xs := by
 rcases r with ⟨r,b,n⟩|r
 ·obtain ⟨r',n'⟩ := r.step s n
  exact .inl ⟨r',b,n'⟩
 ·exact .inr r
mutual
theorem RepV.step (s:Step φ H φ' H'):∀(v:PV) (x:V),RepV K cl B φ H v x->RepV K cl B φ' H' v x
 | .non,x,h => by simp only [RepV] at h ⊢;exact h
 | .bl b,x,h => by simp only [RepV] at h ⊢;exact h
 | .int i,x,h => by simp only [RepV] at h ⊢;exact h
 | .str y,x,h => by simp only [RepV] at h ⊢;exact h
 | .tp k vs,x,h => by
  simp only [RepV] at h ⊢
  obtain ⟨a,xs,e,r,l⟩ := h
  exact ⟨a,xs,e,r.step s,RepL.step s vs xs l⟩
 | .lst vs,x,h => by
  simp only [RepV] at h ⊢
  obtain ⟨a,xs,e,r,l⟩ := h
  exact ⟨a,xs,e,r.step s,RepL.step s vs xs l⟩
 | .loc n,x,h => by
  simp only [RepV] at h ⊢
  obtain ⟨h1,a,e,h2⟩ := h
  exact ⟨Nat.lt_of_lt_of_le h1 s.len,a,e,fun b q => h2 b (s.pre n b h1 q)⟩
 | .exn c,x,h => by
  simp only [RepV] at h ⊢
  obtain ⟨a,e,r,b,n⟩ := h
  obtain ⟨_,n'⟩ := (Rd.of r).step s n
  exact ⟨a,e,s.keep _ _ n r,b,n'⟩
 | .scr vs,x,h => by
  simp only [RepV] at h ⊢
  obtain ⟨a,xs,e,r,l⟩ := h
  exact ⟨a,xs,e,r.step s,RepL.step s vs xs l⟩
theorem RepL.step (s:Step φ H φ' H'):∀(v:List PV) (x:List V),RepL K cl B φ H v x->RepL K cl B φ' H' v x
 | [],x,h => by simp only [RepL] at h ⊢;exact h
 |v::vs,x,h => by
  simp only [RepL] at h ⊢
  obtain ⟨y,ys,e,r,l⟩ := h
  exact ⟨y,ys,e,RepV.step s v y r,RepL.step s vs ys l⟩
end
theorem RepE.step (s:Step φ H φ' H')(r:RepE K cl B φ H ρ σ):RepE K cl B φ' H' ρ σ := ⟨r.len,fun i v e => by
 obtain ⟨x,h,q⟩ := r.get i v e
 exact ⟨x,h,q.step s⟩⟩
mutual
theorem RepV.inn (hn:∀a,some a∈φ->¬B a):∀(v:PV) (x:V),noLoc v=true->RepV K cl B φ H v x->RepV K cl (fun a => B a \/ some a∈φ) [] H v x
 | .non,x,_,h => by simp only [RepV] at h ⊢;exact h
 | .bl b,x,_,h => by simp only [RepV] at h ⊢;exact h
 | .int i,x,_,h => by simp only [RepV] at h ⊢;exact h
 | .str y,x,_,h => by simp only [RepV] at h ⊢;exact h
 | .tp k vs,x,q,h => by
  simp only [RepV] at h ⊢
  obtain ⟨a,xs,e,r,l⟩ := h
  refine ⟨a,xs,e,?_,RepL.inn hn vs xs (by simpa only [noLoc] using q) l⟩
  rcases r with ⟨r,b,n⟩|r
  ·exact .inl ⟨r,fun z => z.elim b n,by simp⟩
  ·exact .inr r
 | .lst vs,x,q,h => by
  simp only [RepV] at h ⊢
  obtain ⟨a,xs,e,⟨r,b,n⟩,l⟩ := h
  exact ⟨a,xs,e,⟨r,fun z => z.elim b n,by simp⟩,RepL.inn hn vs xs (by simpa only [noLoc] using q) l⟩
 | .loc n,x,q,h => by simp [noLoc] at q
 | .exn c,x,q,h => by simp [noLoc] at q
 | .scr vs,x,q,h => by
  simp only [RepV] at h ⊢
  obtain ⟨a,xs,e,r,l⟩ := h
  refine ⟨a,xs,e,?_,RepL.inn hn vs xs (by simpa only [noLoc] using q) l⟩
  rcases r with ⟨r,b,n⟩|r
  ·exact .inl ⟨r,fun z => z.elim b n,by simp⟩
  ·exact .inr r
theorem RepL.inn (hn:∀a,some a∈φ->¬B a):∀(v:List PV) (x:List V),noLocs v=true->RepL K cl B φ H v x->RepL K cl (fun a => B a \/ some a∈φ) [] H v x
 | [],x,_,h => by simp only [RepL] at h ⊢;exact h
 |v::vs,x,q,h => by
  simp only [RepL] at h ⊢
  simp only [noLocs,Bool.and_eq_true] at q
  obtain ⟨y,ys,e,r,l⟩ := h
  exact ⟨y,ys,e,RepV.inn hn v y q.1 r,RepL.inn hn vs ys q.2 l⟩
end
mutual
theorem RepV.out {ψ:Ph}:∀(v:PV) (x:V),noLoc v=true->RepV K cl (fun a => B a \/ some a∈φ) ψ H v x->RepV K cl B φ H v x
 | .non,x,_,h => by simp only [RepV] at h ⊢;exact h
 | .bl b,x,_,h => by simp only [RepV] at h ⊢;exact h
 | .int i,x,_,h => by simp only [RepV] at h ⊢;exact h
 | .str y,x,_,h => by simp only [RepV] at h ⊢;exact h
 | .tp k vs,x,q,h => by
  simp only [RepV] at h ⊢
  obtain ⟨a,xs,e,r,l⟩ := h
  refine ⟨a,xs,e,?_,RepL.out vs xs (by simpa only [noLoc] using q) l⟩
  rcases r with ⟨r,b,n⟩|r
  ·exact .inl ⟨r,fun z => b (.inl z),fun z => b (.inr z)⟩
  ·exact .inr r
 | .lst vs,x,q,h => by
  simp only [RepV] at h ⊢
  obtain ⟨a,xs,e,⟨r,b,n⟩,l⟩ := h
  exact ⟨a,xs,e,⟨r,fun z => b (.inl z),fun z => b (.inr z)⟩,RepL.out vs xs (by simpa only [noLoc] using q) l⟩
 | .loc n,x,q,h => by simp [noLoc] at q
 | .exn c,x,q,h => by simp [noLoc] at q
 | .scr vs,x,q,h => by
  simp only [RepV] at h ⊢
  obtain ⟨a,xs,e,r,l⟩ := h
  refine ⟨a,xs,e,?_,RepL.out vs xs (by simpa only [noLoc] using q) l⟩
  rcases r with ⟨r,b,n⟩|r
  ·exact .inl ⟨r,fun z => b (.inl z),fun z => b (.inr z)⟩
  ·exact .inr r
theorem RepL.out {ψ:Ph}:∀(v:List PV) (x:List V),noLocs v=true->RepL K cl (fun a => B a \/ some a∈φ) ψ H v x->RepL K cl B φ H v x
 | [],x,_,h => by simp only [RepL] at h ⊢;exact h
 |v::vs,x,q,h => by
  simp only [RepL] at h ⊢
  simp only [noLocs,Bool.and_eq_true] at q
  obtain ⟨y,ys,e,r,l⟩ := h
  exact ⟨y,ys,e,RepV.out v y q.1 r,RepL.out vs ys q.2 l⟩
end
theorem RepL.length:∀{v:List PV} {x:List V},RepL K cl B φ H v x->v.length=x.length
 | [],x,h => by simp only [RepL] at h;subst h;rfl
 |v::vs,x,h => by
  simp only [RepL] at h
  obtain ⟨y,ys,rfl,_,l⟩ := h
  simp [RepL.length l]
theorem DK.step (s:Step φ H φ' H'):∀{kvs:List (PV×PV)} {ks:List (Key×V)},DK K cl B φ H kvs ks->DK K cl B φ' H' kvs ks
 | [],ks,h => h
 | (k,v)::r,ks,h => by
  obtain ⟨q,x,t,e,m,rv,l⟩ := h
  exact ⟨q,x,t,e,m,rv.step s,DK.step s l⟩
theorem DT.step (s:Step φ H φ' H'):∀{kvs:List (PV×PV)} {ks:List (List Key×V)},DT K cl B φ H kvs ks->DT K cl B φ' H' kvs ks
 | [],ks,h => h
 | (k,v)::r,ks,h => by
  obtain ⟨q,x,t,e,m,rv,l⟩ := h
  exact ⟨q,x,t,e,m,rv.step s,DT.step s l⟩
theorem FS.step (s:Step φ H φ' H'):∀{kvs:List (Str×PV)} {ks:List (Str×V)},FS K cl B φ H kvs ks->FS K cl B φ' H' kvs ks
 | [],ks,h => h
 | (k,v)::r,ks,h => by
  obtain ⟨x,t,e,rv,l⟩ := h
  exact ⟨x,t,e,rv.step s,FS.step s l⟩
theorem RepO.step (s:Step φ H φ' H'){o:Ob}{a:Addr}(e:H' a=H a)(r:RepO K cl B φ H o a):RepO K cl B φ' H' o a := by
 cases o with
 |lst vs =>
  obtain ⟨xs,q,l⟩ := r
  exact ⟨xs,e.trans q,l.step s⟩
 |dct t kvs =>
  cases t with
  |false => obtain ⟨ks,q,l⟩ := r;exact ⟨ks,e.trans q,l.step s⟩
  |true => obtain ⟨ks,q,l⟩ := r;exact ⟨ks,e.trans q,l.step s⟩
 |dead => exact r
 |ins c fs => obtain ⟨ks,⟨dx,q⟩,l⟩ := r;exact ⟨ks,⟨dx,e.trans q⟩,l.step s⟩
theorem RepO.there {o:Ob}{a:Addr}(r:RepO K cl B φ H o a):∃u,H a=some u := by
 cases o with
 |lst vs => obtain ⟨xs,q,l⟩ := r;exact ⟨_,q⟩
 |dct t kvs => cases t <;> (obtain ⟨ks,q,l⟩ := r;exact ⟨_,q⟩)
 |dead => exact r.elim
 |ins c fs => obtain ⟨ks,⟨dx,q⟩,l⟩ := r;exact ⟨_,q⟩
theorem RepS.there (S:RepS K cl B φ H st){a:Addr}(h:some a∈φ):∃u,H a=some u := by
 obtain ⟨n,e⟩ := List.mem_iff_getElem?.mp h
 obtain ⟨o,_,r⟩ := S.obj n a e
 exact r.there
theorem Step.upd {p:Addr}{o:HO}(hp:H p=none):Step φ H φ (upd H p o) :=
 ⟨fun b u n e => by rw [zp (zx e hp)];exact e,Nat.le_refl _,fun _ _ _ e => e,fun _ h => .inl h⟩
theorem RepS.same (S:RepS K cl B φ H st)(k:∀b o,H b=some o->H' b=some o):RepS K cl B φ H' st := by
 have s:Step φ H φ H' := ⟨fun b o _ e => k b o e,Nat.le_refl _,fun _ _ _ e => e,fun _ h => .inl h⟩
 refine ⟨S.len,S.inj,fun n a e => ?_,S.liv,S.nb,fun a h => ?_⟩
 ·obtain ⟨o,q,r⟩ := S.obj n a e
  obtain ⟨u,z⟩ := r.there
  exact ⟨o,q,r.step s ((k a u z).trans z.symm)⟩
 ·obtain ⟨o,q⟩ := S.dom a h
  exact ⟨o,k a o q⟩
theorem RepS.upd {p:Addr}{o:HO}(S:RepS K cl B φ H st)(hp:H p=none):RepS K cl B φ (upd H p o) st := S.same fun b u e => by rw [zp (zx e hp)];exact e
mutual
theorem RepV.moreB {B':Addr->Prop}(hn:∀y,B' y->B y \/ H y=none):∀(v:PV) (x:V),RepV K cl B φ H v x->RepV K cl B' φ H v x
 | .non,x,h => by simp only [RepV] at h ⊢;exact h
 | .bl b,x,h => by simp only [RepV] at h ⊢;exact h
 | .int i,x,h => by simp only [RepV] at h ⊢;exact h
 | .str y,x,h => by simp only [RepV] at h ⊢;exact h
 | .tp k vs,x,h => by
  simp only [RepV] at h ⊢
  obtain ⟨y,xs,e,r,l⟩ := h
  refine ⟨y,xs,e,?_,RepL.moreB hn vs xs l⟩
  rcases r with ⟨r,b,n⟩|r
  ·exact .inl ⟨r,fun z => (hn y z).elim b fun q => (by rw [q] at r;cases r),n⟩
  ·exact .inr r
 | .lst vs,x,h => by
  simp only [RepV] at h ⊢
  obtain ⟨y,xs,e,⟨r,b,n⟩,l⟩ := h
  exact ⟨y,xs,e,⟨r,fun z => (hn y z).elim b fun q => (by rw [q] at r;cases r),n⟩,RepL.moreB hn vs xs l⟩
 | .loc n,x,h => by simp only [RepV] at h ⊢;exact h
 | .exn c,x,h => by
  simp only [RepV] at h ⊢
  obtain ⟨y,e,r,b,n⟩ := h
  exact ⟨y,e,r,fun z => (hn y z).elim b fun q => (by rw [q] at r;cases r),n⟩
 | .scr vs,x,h => by
  simp only [RepV] at h ⊢
  obtain ⟨y,xs,e,r,l⟩ := h
  refine ⟨y,xs,e,?_,RepL.moreB hn vs xs l⟩
  rcases r with ⟨r,b,n⟩|r
  ·refine .inl ⟨r,fun z => (hn y z).elim b fun q => ?_,n⟩
   rcases r with r|⟨o,r⟩ <;> (rw [q] at r;cases r)
  ·exact .inr r
theorem RepL.moreB {B':Addr->Prop}(hn:∀y,B' y->B y \/ H y=none):∀(v:List PV) (x:List V),RepL K cl B φ H v x->RepL K cl B' φ H v x
 | [],x,h => by simp only [RepL] at h ⊢;exact h
 |v::vs,x,h => by
  simp only [RepL] at h ⊢
  obtain ⟨y,ys,e,r,l⟩ := h
  exact ⟨y,ys,e,RepV.moreB hn v y r,RepL.moreB hn vs ys l⟩
end
end
structure Se where
 cl:Nat->Addr
 call:Nat->List PV->Store->R PV
 may:Bool
section
variable (S:Se)(X:Cx)
def ExcAt (σ:St)(B:Addr->Prop)(φ:Ph)(H:Hp)(k:Nat)(st':Store)(e:Value)(s':Shared):Prop :=
 (∃pins H1 s φ1,Inv X pins σ H1 s/\Step φ H φ1 H1/\CX1 X.prog X.w X.stack H1 s (fun cls _ H' => cls=.ref (S.cl k)/\∃φ',Step φ1 H1 φ' H'/\RepS X.K S.cl B φ' H' st') e s') \/
 (S.may=true/\∃pins H1 s φ1 h' e0 vs,Inv X pins σ H1 s/\Step φ H φ1 H1/\RepS X.K S.cl B φ1 H1 st'/\Heap.MadeExcOf s.heap h' e0 (.ref (S.cl k)) vs/\e=.ref e0/\s'={ s with heap := h' })
def Run {α β:Type}(σ:St)(B:Addr->Prop)(φ:Ph)(H:Hp)(Rel:Ph->Hp->α->β->Prop)(r:R α)(Q:β->Hp->Prop):Prop :=
 match r with
 | .ok v st' => ∀x H' φ',Step φ H φ' H'->RepS X.K S.cl B φ' H' st'->Rel φ' H' v x->Q x H'
 | .exc k st' => ∀e s',ExcAt S X σ B φ H k st' e s'->X.xe e s'
 | .bad => False
noncomputable abbrev RV (B:Addr->Prop):Ph->Hp->PV->V->Prop := fun φ H => RepV X.K S.cl B φ H
noncomputable abbrev RL (B:Addr->Prop):Ph->Hp->List PV->List V->Prop := fun φ H => RepL X.K S.cl B φ H
noncomputable abbrev RB:Ph->Hp->Bool->Bool->Prop := fun _ _ b c => b=c
noncomputable def tE (c:Ce):TE := fun σ H Q => ∃B φ st ρ,RepS X.K S.cl B φ H st/\RepE X.K S.cl B φ H ρ σ/\Run S X σ B φ H (RV S X B) (ev S.call ρ st c) Q
noncomputable def tAs (c:Ces):TA := fun σ H Q => ∃B φ st ρ,RepS X.K S.cl B φ H st/\RepE X.K S.cl B φ H ρ σ/\Run S X σ B φ H (RL S X B) (evs S.call ρ st c) Q
noncomputable def truR (r:R PV):R Bool := r.bind fun x st => onO (truV st x) fun b => .ok b st
noncomputable def tTs (c:Ce):TT := fun σ H Q => ∃B φ st ρ,RepS X.K S.cl B φ H st/\RepE X.K S.cl B φ H ρ σ/\Run S X σ B φ H RB (truR (ev S.call ρ st c)) Q
end
section
variable {S:Se}{X:Cx}{σ:St}{B:Addr->Prop}{φ φ1:Ph}{H H1:Hp}
theorem ExcAt.back {k:Nat}{st':Store}{e:Value}{s':Shared}(s:Step φ H φ1 H1)(h:ExcAt S X σ B φ1 H1 k st' e s'):ExcAt S X σ B φ H k st' e s' := by
 rcases h with ⟨pins,H2,t,φ2,I,q,c⟩|⟨m,pins,H2,t,φ2,h',e0,vs,I,q,c⟩
 ·exact .inl ⟨pins,H2,t,φ2,I,s.trans q,c⟩
 ·exact .inr ⟨m,pins,H2,t,φ2,h',e0,vs,I,s.trans q,c⟩
variable {α β γ δ:Type}{Rel:Ph->Hp->α->β->Prop}{Rel2:Ph->Hp->γ->δ->Prop}
theorem Run.on {r:R α}{Q:β->Hp->Prop}(s:Step φ H φ1 H1)(h:Run S X σ B φ H Rel r Q):Run S X σ B φ1 H1 Rel r Q := by
 cases r with
 |ok v st' => exact fun x H' φ' t => h x H' φ' (s.trans t)
 |exc k st' => exact fun e s' x => h e s' (x.back s)
 |bad => exact h
theorem Run.mono {r:R α}{Q Q':β->Hp->Prop}(h:Run S X σ B φ H Rel r Q)(k:∀x H',Q x H'->Q' x H'):Run S X σ B φ H Rel r Q' := by
 cases r with
 |ok v st' => exact fun x H' φ' t rs rv => k x H' (h x H' φ' t rs rv)
 |exc c st' => exact h
 |bad => exact h
theorem Run.bind {r:R α}{k:α->Store->R γ}{Q:δ->Hp->Prop}(h:Run S X σ B φ H Rel2 (r.bind k) Q) :
  Run S X σ B φ H Rel r fun x H1 => ∃v st1 φ1,Step φ H φ1 H1/\RepS X.K S.cl B φ1 H1 st1/\Rel φ1 H1 v x/\Run S X σ B φ1 H1 Rel2 (k v st1) Q := by
 cases r with
 |ok v st' => exact fun x H' φ' t rs rv => ⟨v,st',φ',t,rs,rv,Run.on t h⟩
 |exc c st' => exact h
 |bad => exact h
theorem Run.ok {v:α}{st:Store}{Q:β->Hp->Prop}(h:Run S X σ B φ H Rel (.ok v st) Q)(rs:RepS X.K S.cl B φ H st){x:β}(rv:Rel φ H v x):Q x H := h x H φ .rfl rs rv
theorem PE.imp {e:Expr}{t t':TE}(h:PE X e t')(k:∀σ H Q,t σ H Q->t' σ H Q):PE X e t := fun pins s σ H Q I q => h pins s σ H Q I (k σ H Q q)
theorem PT.imp {e:Expr}{t t':TT}(h:PT X e t')(k:∀σ H Q,t σ H Q->t' σ H Q):PT X e t := fun pins s σ H Q I q => h pins s σ H Q I (k σ H Q q)
theorem PW.imp {e:Expr}{t t':TT}(h:PW X e t')(k:∀σ H Q,t σ H Q->t' σ H Q):PW X e t := fun wh pins s σ H Q I q => h wh pins s σ H Q I (k σ H Q q)
theorem PA.imp {e:List Expr}{t t':TA}(h:PA X e t')(k:∀σ H Q,t σ H Q->t' σ H Q):PA X e t := fun pos pins s σ H Q I q => h pos pins s σ H Q I (k σ H Q q)
theorem tE.bind {c:Ce}{ρ:IC.Env}{st:Store}{k:PV->Store->R γ}{Q:δ->Hp->Prop}{P:V->Hp->Prop}(rs:RepS X.K S.cl B φ H st)(re:RepE X.K S.cl B φ H ρ σ)(h:Run S X σ B φ H Rel2 ((ev S.call ρ st c).bind k) Q)
  (n:∀x H1 v st1 φ1,Step φ H φ1 H1->RepS X.K S.cl B φ1 H1 st1->RepE X.K S.cl B φ1 H1 ρ σ->RepV X.K S.cl B φ1 H1 v x->Run S X σ B φ1 H1 Rel2 (k v st1) Q->P x H1):tE S X c σ H P :=
 ⟨B,φ,st,ρ,rs,re,(Run.bind h).mono fun x H1 ⟨v,st1,φ1,s,rs1,rv,h1⟩ => n x H1 v st1 φ1 s rs1 (re.step s) rv h1⟩
theorem tAs.bind {c:Ces}{ρ:IC.Env}{st:Store}{k:List PV->Store->R γ}{Q:δ->Hp->Prop}{P:List V->Hp->Prop}(rs:RepS X.K S.cl B φ H st)(re:RepE X.K S.cl B φ H ρ σ)(h:Run S X σ B φ H Rel2 ((evs S.call ρ st c).bind k) Q)
  (n:∀x H1 v st1 φ1,Step φ H φ1 H1->RepS X.K S.cl B φ1 H1 st1->RepE X.K S.cl B φ1 H1 ρ σ->RepL X.K S.cl B φ1 H1 v x->Run S X σ B φ1 H1 Rel2 (k v st1) Q->P x H1):tAs S X c σ H P :=
 ⟨B,φ,st,ρ,rs,re,(Run.bind h).mono fun x H1 ⟨v,st1,φ1,s,rs1,rv,h1⟩ => n x H1 v st1 φ1 s rs1 (re.step s) rv h1⟩
variable {i:Int}{b:Bool}{x:Str}{j:Nat}{pos:Pos}{e a a':Expr}{c ca cb cc:Ce}
theorem zjb:PE X (.Constant (.int i) j pos) (tE S X (.cst (.int i))) := pe_int.imp fun σ H Q ⟨B,φ,st,ρ,rs,re,h⟩ => by
 simp only [ev] at h
 exact h.ok rs (by simp only [RepV])
theorem ze:KqE X (.Constant (.int i) j pos) (tE S X (.cst (.int i))) := by with_unfolding_all exact zjb
theorem zkl:PE X (.Constant (.bool b) j pos) (tE S X (.cst (.bl b))) := pe_bl.imp fun σ H Q ⟨B,φ,st,ρ,rs,re,h⟩ => by
 simp only [ev] at h
 exact h.ok rs (by simp only [RepV])
theorem zfq:KqE X (.Constant (.bool b) j pos) (tE S X (.cst (.bl b))) := by with_unfolding_all exact zkl
theorem ziS:PE X (.Constant (.str x) j pos) (tE S X (.cst (.str x))) := pe_str.imp fun σ H Q ⟨B,φ,st,ρ,rs,re,h⟩ => by
 simp only [ev] at h
 exact h.ok rs (by simp only [RepV])
theorem zC:KqE X (.Constant (.str x) j pos) (tE S X (.cst (.str x))) := by with_unfolding_all exact ziS
theorem zhu {i:Nat}(hN:X.N[i]?=some x)(hv:Vis X.env.scope x)(hd:(x == ("__debug__":Str))=false := by decide)(hcd:(x == ("__classdict__":Str))=false := by decide):PE X (.Name x pos) (tE S X (.var i)) :=
 (zhr hN hv hd hcd).imp fun σ H Q ⟨B,φ,st,ρ,rs,re,h⟩ => by
  simp only [ev] at h
  cases q:ρ[i]? with
  |none => rw [q] at h;exact h.elim
  |some o =>
   cases o with
   |none => rw [q] at h;exact h.elim
   |some v =>
    rw [q] at h
    obtain ⟨y,hy,rv⟩ := re.get i v q
    exact ⟨y,hy,h.ok rs rv⟩
theorem zio {v:PV}{y:Addr}(hg:Gl X x)(hm:X.mg x=some (.ref y))(hk:∀B φ H,RepV X.K S.cl B φ H v (.ref y))(hd:(x == ("__debug__":Str))=false := by decide):PE X (.Name x pos) (tE S X (.cst v)) :=
 (zdH hg hm (show RelV (.ref y) (.ref y) from rfl) hd).imp fun σ H Q ⟨B,φ,st,ρ,rs,re,h⟩ => by
  simp only [ev] at h
  exact h.ok rs (hk B φ H)
theorem zac {o:Option PV}{st:Store}{Q:VK}(h:Run S X σ B φ H (RV S X B) (toR o st) Q)(rs:RepS X.K S.cl B φ H st):∃z,o=some z/\∀z' H' φ',Step φ H φ' H'->RepS X.K S.cl B φ' H' st->RepV X.K S.cl B φ' H' z z'->Q z' H' := by
 cases o with
 |none => exact h.elim
 |some z => exact ⟨z,rfl,h⟩
noncomputable def rT2 (S:Se)(X:Cx)(f:PV->PV->Option PV):R2 := fun x y H Q => ∃B φ st v w z,RepS X.K S.cl B φ H st/\RepV X.K S.cl B φ H v x/\RepV X.K S.cl B φ H w y/\f v w=some z /\
 ∀z' H' φ',Step φ H φ' H'->RepS X.K S.cl B φ' H' st->RepV X.K S.cl B φ' H' z z'->Q z' H'
theorem zj8 {op:Operator}{o:BOp}(ho:OpR X (binaryOp op) (rT2 S X (binV o)))(ha:PE X a (tE S X ca))(hb:PE X a' (tE S X cb)):PE X (.BinOp a op a' pos) (tE S X (.bin o ca cb)) :=
 (zks ho ha hb).imp fun σ H Q ⟨B,φ,st,ρ,rs,re,h⟩ => by
  simp only [ev] at h
  refine tE.bind rs re h fun x H1 v st1 φ1 s1 rs1 re1 rv h1 => tE.bind rs1 re1 h1 fun y H2 w st2 φ2 s2 rs2 re2 rw h2 => ?_
  obtain ⟨z,e,q⟩ := zac h2 rs2
  exact ⟨B,φ2,st2,v,w,z,rs2,rv.step s2,rw,e,q⟩
theorem zg {op:Operator}{o:BOp}(ho:OpR X (binaryOp op) (rT2 S X (binV o)))(ha:KqE X a (tE S X ca))(hb:KqE X a' (tE S X cb)):KqE X (.BinOp a op a' pos) (tE S X (.bin o ca cb)) := by with_unfolding_all exact zj8 ho ha hb
theorem zi5 {op:CmpOp}{o:COp}(ho:OpR X (compareOp op) (rT2 S X (cmpV o)))(ha:PE X a (tE S X ca))(hb:PE X a' (tE S X cb))(hm:behindInMarks op a'=false):PE X (.Compare a [op] [a'] pos) (tE S X (.cmp o ca cb)) :=
 (zhP ho ha hb hm).imp fun σ H Q ⟨B,φ,st,ρ,rs,re,h⟩ => by
  simp only [ev] at h
  refine tE.bind rs re h fun x H1 v st1 φ1 s1 rs1 re1 rv h1 => tE.bind rs1 re1 h1 fun y H2 w st2 φ2 s2 rs2 re2 rw h2 => ?_
  obtain ⟨z,e,q⟩ := zac h2 rs2
  exact ⟨B,φ2,st2,v,w,z,rs2,rv.step s2,rw,e,q⟩
theorem zbm {op:CmpOp}{o:COp}(ho:OpR X (compareOp op) (rT2 S X (cmpV o)))(ha:KqE X a (tE S X ca))(hb:KqE X a' (tE S X cb))(hm:behindInMarks op a'=false):KqE X (.Compare a [op] [a'] pos) (tE S X (.cmp o ca cb)) := by with_unfolding_all exact zi5 ho ha hb hm
end
section
variable {S:Se}{X:Cx}{σ:St}{B:Addr->Prop}{φ φ1:Ph}{H H1:Hp}{K:PySem.W.Frag}{cl:Nat->Addr}{st:Store}
theorem RTup.sq {k:Bool}{a:Addr}{xs:List V}(r:RTup K B φ H k a xs):SqT K H a xs := by
 rcases r with ⟨r,_⟩|r
 ·exact .inl (.inl r)
 ·exact .inr r.2
theorem RLst.sq {a:Addr}{xs:List V}(r:RLst B φ H a xs):SqL K H a xs := .inl (.inl r.1)
theorem RepV.tup_new {vs:List PV}{xs:List V}{p:Addr}(hp:H p=none)(rs:RepS K cl B φ H st)(r:RepL K cl B φ H vs xs):RepV K cl B φ (upd H p (.tup xs)) (.tup vs) (.ref p) := by
 simp only [RepV]
 refine ⟨p,xs,rfl,.inl ⟨zH,fun z => ?_,fun z => ?_⟩,r.step (.upd hp)⟩
 ·obtain ⟨o,e⟩ := rs.dom p z
  rw [hp] at e;cases e
 ·obtain ⟨o,e⟩ := rs.there z
  rw [hp] at e;cases e
theorem RepV.lst_new {vs:List PV}{xs:List V}{p:Addr}(hp:H p=none)(rs:RepS K cl B φ H st)(r:RepL K cl B φ H vs xs):RepV K cl B φ (upd H p (.lst xs)) (.lst vs) (.ref p) := by
 simp only [RepV]
 refine ⟨p,xs,rfl,⟨zH,fun z => ?_,fun z => ?_⟩,r.step (.upd hp)⟩
 ·obtain ⟨o,e⟩ := rs.dom p z
  rw [hp] at e;cases e
 ·obtain ⟨o,e⟩ := rs.there z
  rw [hp] at e;cases e
theorem RepL.append:∀{vs ws:List PV} {xs ys:List V},RepL K cl B φ H vs xs->RepL K cl B φ H ws ys->RepL K cl B φ H (vs++ws) (xs++ys)
 | [],ws,xs,ys,h,q => by simp only [RepL] at h;subst h;exact q
 |v::vs,ws,xs,ys,h,q => by
  simp only [RepL] at h
  obtain ⟨y,zs,rfl,r,l⟩ := h
  show RepL K cl B φ H (v::(vs++ws)) (y::(zs++ys))
  simp only [RepL]
  exact ⟨y,zs++ys,rfl,r,RepL.append l q⟩
theorem RepL.get:∀{vs:List PV} {xs:List V} (j:Nat) {v:PV},RepL K cl B φ H vs xs->vs[j]?=some v->∃x,xs[j]?=some x/\RepV K cl B φ H v x
 | [],xs,j,v,h,e => by simp at e
 |w::vs,xs,0,v,h,e => by
  simp only [RepL] at h
  obtain ⟨y,zs,rfl,r,l⟩ := h
  simp at e;subst e
  exact ⟨y,rfl,r⟩
 |w::vs,xs,j+1,v,h,e => by
  simp only [RepL] at h
  obtain ⟨y,zs,rfl,r,l⟩ := h
  obtain ⟨x,q1,q2⟩ := RepL.get j l (by simpa using e)
  exact ⟨x,by simpa using q1,q2⟩
theorem RepL.drop:∀{vs:List PV} {xs:List V} (n:Nat),RepL K cl B φ H vs xs->RepL K cl B φ H (vs.drop n) (xs.drop n)
 |vs,xs,0,h => by simpa using h
 | [],xs,n+1,h => by simp only [RepL] at h;subst h;simp [RepL]
 |v::vs,xs,n+1,h => by
  simp only [RepL] at h
  obtain ⟨y,ys,rfl,_,l⟩ := h
  simpa using RepL.drop n l
theorem RepL.take:∀{vs:List PV} {xs:List V} (n:Nat),RepL K cl B φ H vs xs->RepL K cl B φ H (vs.take n) (xs.take n)
 |vs,xs,0,h => by simp [RepL]
 | [],xs,n+1,h => by simp only [RepL] at h;subst h;simp [RepL]
 |v::vs,xs,n+1,h => by
  simp only [RepL] at h
  obtain ⟨y,ys,rfl,r,l⟩ := h
  simp only [List.take_succ_cons,RepL]
  exact ⟨y,ys.take n,rfl,r,RepL.take n l⟩
theorem zbs {f:Value->Value->Sem Value}{o:BOp}{C:Int->Int->Prop}{g:Int->Int->Int}(h:OpR X f (rI C fun i j => .int (g i j)))
  (hb:∀v w z,binV o v w=some z->∃i j,v=.int i/\w=.int j/\C i j/\z=.int (g i j)):OpR X f (rT2 S X (binV o)) := by
 rintro pins s σ H x y v u Q I rx ry ⟨B,φ,st,a,b,z,rs,ra,rb,e,q⟩
 obtain ⟨i,j,rfl,rfl,hc,rfl⟩ := hb a b z e
 simp only [RepV] at ra rb
 subst ra rb
 exact h pins s σ H _ _ v u Q I rx ry ⟨i,j,rfl,rfl,hc,q _ H φ .rfl rs (by simp only [RepV])⟩
theorem zbK {f:Value->Value->Sem Value}{o:BOp}{g:Int->Int->Int}(h:OpR X f (rI0 fun i j => .int (g i j)))
  (hb:∀v w z,binV o v w=some z->∃i j,v=.int i/\w=.int j/\z=.int (g i j)):OpR X f (rT2 S X (binV o)) := by
 rintro pins s σ H x y v u Q I rx ry ⟨B,φ,st,a,b,z,rs,ra,rb,e,q⟩
 obtain ⟨i,j,rfl,rfl,rfl⟩ := hb a b z e
 simp only [RepV] at ra rb
 subst ra rb
 exact h pins s σ H _ _ v u Q I rx ry ⟨i,j,rfl,rfl,q _ H φ .rfl rs (by simp only [RepV])⟩
theorem zh3 (v w z:PV)(h:binV .sub v w=some z):∃i j,v=.int i/\w=.int j/\z=.int (i - j) := by
 unfold binV at h
 split at h <;> first|(cases h;done)|skip
 exact ⟨_,_,rfl,rfl,(Option.some.inj h).symm⟩
theorem zib (v w z:PV)(h:binV .mul v w=some z):∃i j,v=.int i/\w=.int j/\CMul i j/\z=.int (i*j) := by
 unfold binV at h
 split at h <;> first|(cases h;done)|skip
 rename_i i j
 simp only [IC.binI] at h
 split at h
 ·rename_i c
  refine ⟨i,j,rfl,rfl,?_,(Option.some.inj h).symm⟩
  simp only [CMulB,Bool.or_eq_true,decide_eq_true_eq] at c
  unfold CMul
  rcases c with c|c
  ·left;constructor <;> omega
  ·right;constructor <;> omega
 ·cases h
theorem zgU (v w z:PV)(h:binV .fdiv v w=some z):∃i j,v=.int i/\w=.int j/\CDivB i j/\z=.int (i / j) := by
 unfold binV at h
 split at h <;> first|(cases h;done)|skip
 rename_i i j
 simp only [IC.binI] at h
 split at h
 ·rename_i c
  exact ⟨i,j,rfl,rfl,c,(Option.some.inj h).symm⟩
 ·cases h
theorem zh8 (v w z:PV)(h:binV .mod v w=some z):∃i j,v=.int i/\w=.int j/\0<j/\z=.int (i % j) := by
 unfold binV at h
 split at h <;> first|(cases h;done)|skip
 rename_i i j
 simp only [IC.binI] at h
 split at h
 ·rename_i c
  exact ⟨i,j,rfl,rfl,c,(Option.some.inj h).symm⟩
 ·cases h
theorem zhJ (v w z:PV)(h:binV .pow v w=some z):∃i j,v=.int i/\w=.int j/\CPow i j/\z=.int (i ^ j.toNat) := by
 unfold binV at h
 split at h <;> first|(cases h;done)|skip
 rename_i i j
 simp only [IC.binI] at h
 split at h
 ·rename_i c
  exact ⟨i,j,rfl,rfl,⟨c.1,c.2.1,by have := c.2.2;omega⟩,(Option.some.inj h).symm⟩
 ·cases h
theorem zhK (v w z:PV)(h:binV .shl v w=some z):∃i j,v=.int i/\w=.int j/\CPow i j/\z=.int (i*2 ^ j.toNat) := by
 unfold binV at h
 split at h <;> first|(cases h;done)|skip
 rename_i i j
 simp only [IC.binI] at h
 split at h
 ·rename_i c
  exact ⟨i,j,rfl,rfl,⟨c.1,c.2.1,by have := c.2.2;omega⟩,(Option.some.inj h).symm⟩
 ·cases h
theorem zhW (v w z:PV)(h:binV .shr v w=some z):∃i j,v=.int i/\w=.int j/\0<=j/\z=.int (i / 2 ^ j.toNat) := by
 unfold binV at h
 split at h <;> first|(cases h;done)|skip
 rename_i i j
 simp only [IC.binI] at h
 split at h
 ·rename_i c
  exact ⟨i,j,rfl,rfl,c,(Option.some.inj h).symm⟩
 ·cases h
theorem zgu (v w z:PV)(h:binV .band v w=some z):∃i j,v=.int i/\w=.int j/\z=.int (Builtin.bitAnd i j) := by
 unfold binV at h
 split at h <;> first|(cases h;done)|skip
 exact ⟨_,_,rfl,rfl,(Option.some.inj h).symm⟩
theorem zid (v w z:PV)(h:binV .bor v w=some z):∃i j,v=.int i/\w=.int j/\z=.int (Builtin.bitOr i j) := by
 unfold binV at h
 split at h <;> first|(cases h;done)|skip
 exact ⟨_,_,rfl,rfl,(Option.some.inj h).symm⟩
theorem zhb (v w z:PV)(h:binV .bxor v w=some z):∃i j,v=.int i/\w=.int j/\z=.int (Builtin.bitXor i j) := by
 unfold binV at h
 split at h <;> first|(cases h;done)|skip
 exact ⟨_,_,rfl,rfl,(Option.some.inj h).symm⟩
theorem zau:OpR X (binaryOp .Sub) (rT2 S X (binV .sub)) := zbK ziP zh3
theorem z5:OpR X (binaryOp .Mult) (rT2 S X (binV .mul)) := zbs zj1 zib
theorem zcX:OpR X (binaryOp .FloorDiv) (rT2 S X (binV .fdiv)) := zbs zgT zgU
theorem zaG:OpR X (binaryOp .Mod) (rT2 S X (binV .mod)) := zbs zj6 zh8
theorem zht:OpR X (binaryOp .Pow) (rT2 S X (binV .pow)) := zbs zjt zhJ
theorem zhy:OpR X (binaryOp .LShift) (rT2 S X (binV .shl)) := zbs zjJ zhK
theorem zhB:OpR X (binaryOp .RShift) (rT2 S X (binV .shr)) := zbs ziH zhW
theorem zb4:OpR X (binaryOp .BitAnd) (rT2 S X (binV .band)) := zbK zjx zgu
theorem zgf:OpR X (binaryOp .BitOr) (rT2 S X (binV .bor)) := zbK zkt zid
theorem zgc:OpR X (binaryOp .BitXor) (rT2 S X (binV .bxor)) := zbK zjX zhb
theorem zK:sizeMax=sizeLine := by rw [sizeLine_eq];rfl
theorem zhN:OpR X (binaryOp .Add) (fun x y H Q => ∃a b ys,x=.ref a/\y=.ref b/\SqT X.K H a []/\SqT X.K H b ys/\Q (.ref b) H) := by
 intro pins s σ H x y v u Q I rx ry h
 obtain ⟨a,b,ys,rfl,rfl,ha,hb,q⟩ := h
 cases rx
 cases ry
 obtain ⟨its,r1,p1,_⟩ := I.tuple ha
 obtain ⟨its2,r2,p2,_⟩ := I.tuple hb
 have:its=[] := r1.nil_iff.mpr rfl
 subst this
 obtain ⟨⟨cls,dd,data,sl⟩,ho,hc,n,hd⟩ := id p1
 obtain ⟨⟨cls2,dd2,data2,sl2⟩,ho2,hc2,n2,hd2⟩ := id p2
 simp only at hc hd hc2 hd2
 subst hc hd hc2 hd2
 exact concat_meets ⟨_,ho,rfl⟩ ⟨_,ho2,rfl⟩ noFill_tuple_add seq_tuple_add PySem.F.slot_tuple_add PySem.F.entry_tuple_add (PySem.F.args_tuple_add_2 _ _)
   (tuple_addW0 a b [].toArray its2.toArray n n2 dd dd2 sl sl2 (by simp)) ⟨ho,ho2,⟨.ref b,H,I,rfl,q⟩⟩
theorem zT:OpR X (binaryOp .Add) (rT2 S X (binV .add)) := by
 rintro pins s σ H x y v u Q I rx ry ⟨B,φ,st,a,b,z,rs,ra,rb,e,q⟩
 unfold binV at e
 split at e
 ·rename_i i j
  simp only [RepV] at ra rb
  subst ra rb
  cases e
  exact zjI pins s σ H _ _ v u Q I rx ry ⟨i,j,rfl,rfl,q _ H φ .rfl rs (by simp only [RepV])⟩
 ·rename_i i k
  simp only [RepV] at ra rb
  subst ra rb
  cases e
  exact zfH pins s σ H _ _ v u Q I rx ry ⟨i,k,rfl,rfl,q _ H φ .rfl rs (by simp only [RepV];cases k <;> rfl)⟩
 ·rename_i i j
  simp only [RepV] at ra rb
  subst ra rb
  dsimp only at e
  split at e
  ·rename_i c
   cases e
   exact zeq pins s σ H _ _ v u Q I rx ry ⟨i,j,rfl,rfl,by rw [<- zK];exact c,q _ H φ .rfl rs (by simp only [RepV])⟩
  ·cases e
 ·rename_i k1 vs k2 ws
  simp only [RepV] at ra rb
  obtain ⟨p,xs,rfl,r1,l1⟩ := ra
  obtain ⟨p',ys,rfl,r2,l2⟩ := rb
  dsimp only at e
  split at e
  ·rename_i c
   cases e
   have n1 := l1.length
   have n2 := l2.length
   unfold catT at q
   cases vs with
   |nil =>
    have:xs=[] := by cases xs with|nil => rfl|cons _ _ => simp at n1
    subst this
    refine zhN pins s σ H _ _ v u Q I rx ry ⟨p,p',ys,rfl,rfl,r1.sq,r2.sq,q _ H φ .rfl rs ?_⟩
    simp only [List.isEmpty_nil,if_true,RepV]
    exact ⟨p',ys,rfl,r2,l2⟩
   |cons v1 vr =>
    simp only [List.isEmpty_cons,Bool.false_eq_true,if_false] at q
    refine zh9 pins s σ H _ _ v u Q I rx ry ⟨p,p',xs,ys,rfl,rfl,r1.sq,r2.sq,?_,by rw [<- zK];omega,fun z => ?_,fun z t ht => ?_⟩
    ·rintro rfl
     simp at n1
    ·subst z
     have:ws=[] := by cases ws with|nil => rfl|cons _ _ => simp at n2
     subst this
     simp only [List.isEmpty_nil,if_true] at q
     refine q _ H φ .rfl rs ?_
     simp only [RepV]
     exact ⟨p,xs,rfl,r1,l1⟩
    ·cases ws with
     |nil => exact absurd (List.length_eq_zero_iff.mp n2.symm) z
     |cons w1 wr =>
      simp only [List.isEmpty_cons,Bool.false_eq_true,if_false] at q
      exact q _ _ φ (.upd ht) (rs.upd ht) (.tup_new ht rs (l1.append l2))
  ·cases e
 ·rename_i vs ws
  simp only [RepV] at ra rb
  obtain ⟨p,xs,rfl,r1,l1⟩ := ra
  obtain ⟨p',ys,rfl,r2,l2⟩ := rb
  dsimp only at e
  split at e
  ·rename_i c
   cases e
   have n1 := l1.length
   have n2 := l2.length
   exact zjU pins s σ H _ _ v u Q I rx ry ⟨p,p',xs,ys,rfl,rfl,r1.1,r2.1,by rw [<- zK];omega,fun t ht => q _ _ φ (.upd ht) (rs.upd ht) (.lst_new ht rs (l1.append l2))⟩
  ·cases e
 ·cases e
end
mutual
noncomputable def toD:PV->PyData
 | .non => .none
 | .bl b => .bool b
 | .int i => .int i
 | .str x => .str x
 | .tp _ xs => .tuple (toDs xs)
 | .lst xs => .list (toDs xs)
 |_ => .none
noncomputable def toDs:List PV->List PyData
 | [] => []
 |x::xs => toD x::toDs xs
end
mutual
theorem zf7:∀(v:PV) (n:Nat),shd n v=true->(toD v).canLay0=true/\(toD v).depth<=n
 | .non,n,h => by simp [toD,PyData.canLay0,PyData.depth]
 | .bl b,n,h => by simp [toD,PyData.canLay0,PyData.depth]
 | .int i,n,h => by simp [toD,PyData.canLay0,PyData.depth]
 | .str x,n,h => by
  simp only [shd] at h
  simp only [toD,PyData.canLay0,PyData.depth,Nat.zero_le,and_true]
  exact h
 | .tp _ xs,n,h => by
  simp only [shd,Bool.and_eq_true,decide_eq_true_eq] at h
  obtain ⟨q1,q2⟩ := zc5 xs (n - 1) h.2
  simp only [toD,PyData.canLay0,PyData.depth]
  exact ⟨q1,by omega⟩
 | .lst xs,n,h => by
  simp only [shd,Bool.and_eq_true,decide_eq_true_eq] at h
  obtain ⟨q1,q2⟩ := zc5 xs (n - 1) h.2
  simp only [toD,PyData.canLay0,PyData.depth]
  exact ⟨q1,by omega⟩
 | .loc k,n,h => by simp [shd] at h
 | .exn k,n,h => by simp [shd] at h
 | .scr xs,n,h => by simp [shd] at h
theorem zc5:∀(v:List PV) (n:Nat),shds n v=true->PyData.canLayAll0 (toDs v)=true/\PyData.depthAll (toDs v)<=n
 | [],n,h => by simp [toDs,PyData.canLayAll0,PyData.depthAll]
 |v::vs,n,h => by
  simp only [shds,Bool.and_eq_true] at h
  obtain ⟨q1,q2⟩ := zf7 v n h.1
  obtain ⟨q3,q4⟩ := zc5 vs n h.2
  simp only [toDs,PyData.canLayAll0,PyData.depthAll,Bool.and_eq_true]
  exact ⟨⟨q1,q3⟩,by omega⟩
end
theorem za0 {v:PV}(h:shp v=true):SeqAt.shaped (toD v)=true := by
 obtain ⟨q1,q2⟩ := zf7 v 60 h
 unfold SeqAt.shaped
 rw [q1,Bool.true_and,decide_eq_true_eq]
 omega
mutual
theorem zdU:∀(v w:PV) (n m:Nat),shd n v=true->shd m w=true->PyData.eqv (toD v) (toD w)=peq v w
 | .non,w,n,m,h,q => by cases w <;> simp_all [toD,PyData.eqv,peq,shd]
 | .bl b,w,n,m,h,q => by cases w <;> simp_all [toD,PyData.eqv,peq,shd,bi]
 | .int i,w,n,m,h,q => by cases w <;> simp_all [toD,PyData.eqv,peq,shd,bi]
 | .str x,w,n,m,h,q => by cases w <;> simp_all [toD,PyData.eqv,peq,shd]
 | .tp _ xs,.tp _ ys,n,m,h,q => by
  simp only [shd,Bool.and_eq_true] at h q
  simp only [toD,PyData.eqv,peq]
  exact zcU xs ys (n - 1) (m - 1) h.2 q.2
 | .lst xs,.lst ys,n,m,h,q => by
  simp only [shd,Bool.and_eq_true] at h q
  simp only [toD,PyData.eqv,peq]
  exact zcU xs ys (n - 1) (m - 1) h.2 q.2
 | .tp _ xs,.non,n,m,h,q => by simp [toD,PyData.eqv,peq]
 | .tp _ xs,.bl _,n,m,h,q => by simp [toD,PyData.eqv,peq]
 | .tp _ xs,.int _,n,m,h,q => by simp [toD,PyData.eqv,peq]
 | .tp _ xs,.str _,n,m,h,q => by simp [toD,PyData.eqv,peq]
 | .tp _ xs,.lst _,n,m,h,q => by simp [toD,PyData.eqv,peq]
 | .lst xs,.non,n,m,h,q => by simp [toD,PyData.eqv,peq]
 | .lst xs,.bl _,n,m,h,q => by simp [toD,PyData.eqv,peq]
 | .lst xs,.int _,n,m,h,q => by simp [toD,PyData.eqv,peq]
 | .lst xs,.str _,n,m,h,q => by simp [toD,PyData.eqv,peq]
 | .lst xs,.tp _ _,n,m,h,q => by simp [toD,PyData.eqv,peq]
 | .loc k,w,n,m,h,q => by simp [shd] at h
 | .exn k,w,n,m,h,q => by simp [shd] at h
 | .scr k,w,n,m,h,q => by simp [shd] at h
 |v,.loc k,n,m,h,q => by simp [shd] at q
 |v,.exn k,n,m,h,q => by simp [shd] at q
 |v,.scr k,n,m,h,q => by simp [shd] at q
theorem zcU:∀(v w:List PV) (n m:Nat),shds n v=true->shds m w=true->PyData.eqvAll (toDs v) (toDs w)=peqs v w
 | [],[],n,m,h,q => by simp [toDs,PyData.eqvAll,peqs]
 | [],y::ys,n,m,h,q => by simp [toDs,PyData.eqvAll,peqs]
 |x::xs,[],n,m,h,q => by simp [toDs,PyData.eqvAll,peqs]
 |x::xs,y::ys,n,m,h,q => by
  simp only [shds,Bool.and_eq_true] at h q
  simp only [toDs,PyData.eqvAll,peqs]
  rw [zdU x y n m h.1 q.1,zcU xs ys n m h.2 q.2]
end
section
variable {S:Se}{X:Cx}{σ:St}{B:Addr->Prop}{φ φ1:Ph}{H H1:Hp}{st:Store}{pins:List (Addr×Obj)}{s:Shared}
mutual
theorem zbn (I:Inv X pins σ H s):∀(v:PV) (n:Nat) (x:V) (u:Value),shd n v=true->RepV X.K S.cl B φ H v x->RelV x u->∃as,Reads s.heap u (toD v) as
 | .non,n,x,u,h,r,q => by
  simp only [RepV] at r;subst r;cases (show u=Value.none from q);exact ⟨_,.none⟩
 | .bl b,n,x,u,h,r,q => by
  simp only [RepV] at r;subst r;cases (show u=Value.bool b from q);exact ⟨_,.bool b⟩
 | .int i,n,x,u,h,r,q => by
  simp only [RepV] at r;subst r;obtain ⟨t,rfl⟩ := q;exact ⟨_,.int i t⟩
 | .str y,n,x,u,h,r,q => by
  simp only [RepV] at r;subst r;obtain ⟨t,rfl⟩ := q;exact ⟨_,.str y t⟩
 | .tp _ vs,n,x,u,h,r,q => by
  simp only [RepV] at r
  obtain ⟨a,xs,rfl,rt,l⟩ := r
  cases (show u=Value.ref a from q)
  simp only [shd,Bool.and_eq_true] at h
  obtain ⟨its,rv,⟨o,g,c,k,d⟩,_⟩ := I.tuple rt.sq
  obtain ⟨as,z⟩ := zbW I vs (n - 1) xs its h.2 l rv
  exact ⟨as,.tuple g c d (by simpa using z)⟩
 | .lst vs,n,x,u,h,r,q => by
  simp only [RepV] at r
  obtain ⟨a,xs,rfl,rt,l⟩ := r
  cases (show u=Value.ref a from q)
  simp only [shd,Bool.and_eq_true] at h
  obtain ⟨its,rv,⟨o,k,g,c,_,d⟩,_⟩ := I.list (rt.sq (K := X.K))
  obtain ⟨as,z⟩ := zbW I vs (n - 1) xs its h.2 l rv
  exact ⟨_,.list g c d (by simpa using z)⟩
 | .loc k,n,x,u,h,r,q => by simp [shd] at h
 | .exn k,n,x,u,h,r,q => by simp [shd] at h
 | .scr k,n,x,u,h,r,q => by simp [shd] at h
theorem zbW (I:Inv X pins σ H s):∀(v:List PV) (n:Nat) (x:List V) (u:List Value),shds n v=true->RepL X.K S.cl B φ H v x->Vals x u->∃as,ReadsAll s.heap u (toDs v) as
 | [],n,x,u,h,r,q => by
  simp only [RepL] at r;subst r;cases q;exact ⟨_,.nil⟩
 |v::vs,n,x,u,h,r,q => by
  simp only [RepL] at r
  obtain ⟨y,ys,rfl,rv,l⟩ := r
  simp only [shds,Bool.and_eq_true] at h
  cases q with
  |cons q1 q2 =>
   obtain ⟨as,z1⟩ := zbn I v n y _ h.1 rv q1
   obtain ⟨bs,z2⟩ := zbW I vs n ys _ h.2 l q2
   exact ⟨_,.cons z1 z2⟩
end
theorem zaL (hu:X.A.units+64<cLine):OpR X (compareOp .Eq) (rT2 S X (cmpV .eq)) := by
 rintro pins s σ H x y v u Q I rx ry ⟨B,φ,st,a,b,z,rs,ra,rb,e,q⟩
 simp only [cmpV] at e
 split at e
 ·rename_i c
  rw [Bool.and_eq_true] at c
  cases e
  obtain ⟨as,z1⟩ := zbn (S := S) I a 60 x v c.1 ra rx
  obtain ⟨bs,z2⟩ := zbn (S := S) I b 60 y u c.2 rb ry
  refine eq_dataH z1 z2 (za0 c.1) (za0 c.2) hu ⟨.bl _,H,I,rfl,?_⟩
  rw [zdU a b 60 60 c.1 c.2]
  exact q _ H φ .rfl rs (by simp only [RepV])
 ·cases e
theorem zgt (hu:X.A.units+64<cLine):OpR X (compareOp .NotEq) (rT2 S X (cmpV .ne)) := by
 rintro pins s σ H x y v u Q I rx ry ⟨B,φ,st,a,b,z,rs,ra,rb,e,q⟩
 simp only [cmpV] at e
 split at e
 ·rename_i c
  rw [Bool.and_eq_true] at c
  cases e
  obtain ⟨as,z1⟩ := zbn (S := S) I a 60 x v c.1 ra rx
  obtain ⟨bs,z2⟩ := zbn (S := S) I b 60 y u c.2 rb ry
  refine ne_dataH z1 z2 (za0 c.1) (za0 c.2) hu ⟨.bl _,H,I,rfl,?_⟩
  rw [zdU a b 60 60 c.1 c.2]
  exact q _ H φ .rfl rs (by simp only [RepV])
 ·cases e
theorem zfv {f:Value->Value->Sem Value}{o:COp}{g:Int->Int->Bool}(h:OpR X f (rI0 fun i j => .bl (g i j)))
  (hb:∀v w z,cmpV o v w=some z->∃i j,v=.int i/\w=.int j/\z=.bl (g i j)):OpR X f (rT2 S X (cmpV o)) := by
 rintro pins s σ H x y v u Q I rx ry ⟨B,φ,st,a,b,z,rs,ra,rb,e,q⟩
 obtain ⟨i,j,rfl,rfl,rfl⟩ := hb a b z e
 simp only [RepV] at ra rb
 subst ra rb
 exact h pins s σ H _ _ v u Q I rx ry ⟨i,j,rfl,rfl,q _ H φ .rfl rs (by simp only [RepV])⟩
theorem zku {o:COp}{g:Int->Int->Bool}(ho:∀v w,cmpV o v w=match v,w with
   | .int i,.int j => cmpI o i j
   |_,_ => none) (hg:∀i j,cmpI o i j=some (.bl (g i j))) (v w z:PV) (h:cmpV o v w=some z):∃i j,v=.int i/\w=.int j/\z=.bl (g i j) := by
 rw [ho] at h
 split at h
 ·rename_i i j
  rw [hg] at h
  exact ⟨i,j,rfl,rfl,(Option.some.inj h).symm⟩
 ·cases h
theorem zfG:OpR X (compareOp .LtE) (fun x y H Q => ∃i j,x=.str i/\y=.str j/\Q (.bl (!decide (j.cps.toList<i.cps.toList))) H) := by
 intro pins s σ H x y v u Q I rx ry h
 obtain ⟨i,j,rfl,rfl,q⟩ := h
 obtain ⟨t,rfl⟩ := rx
 obtain ⟨t',rfl⟩ := ry
 exact PySem.P.le_str (zdX I q rfl)
theorem zen:OpR X (compareOp .Lt) (rT2 S X (cmpV .lt)) := by
 rintro pins s σ H x y v u Q I rx ry ⟨B,φ,st,a,b,z,rs,ra,rb,e,q⟩
 simp only [cmpV] at e
 split at e
 ·rename_i i j
  simp only [RepV] at ra rb
  subst ra rb
  cases e
  exact zkO pins s σ H _ _ v u Q I rx ry ⟨i,j,rfl,rfl,q _ H φ .rfl rs (by simp only [RepV])⟩
 ·rename_i i j
  simp only [RepV] at ra rb
  subst ra rb
  cases e
  exact zgg pins s σ H _ _ v u Q I rx ry ⟨i,j,rfl,rfl,q _ H φ .rfl rs (by simp only [RepV])⟩
 ·cases e
theorem ziR:OpR X (compareOp .LtE) (rT2 S X (cmpV .le)) := by
 rintro pins s σ H x y v u Q I rx ry ⟨B,φ,st,a,b,z,rs,ra,rb,e,q⟩
 simp only [cmpV] at e
 split at e
 ·rename_i i j
  simp only [RepV] at ra rb
  subst ra rb
  cases e
  exact zkC pins s σ H _ _ v u Q I rx ry ⟨i,j,rfl,rfl,q _ H φ .rfl rs (by simp only [RepV])⟩
 ·rename_i i j
  simp only [RepV] at ra rb
  subst ra rb
  cases e
  exact zfG pins s σ H _ _ v u Q I rx ry ⟨i,j,rfl,rfl,q _ H φ .rfl rs (by simp only [RepV])⟩
 ·cases e
theorem zed {o:COp}{g:Int->Int->Bool}(ho:∀v w,cmpV o v w=match v,w with
   | .int i,.int j => cmpI o i j
   | .str a,.str b => cmpS o a b
   |_,_ => none) (hs:∀a b,cmpS o a b=none) (hg:∀i j,cmpI o i j=some (.bl (g i j))) (v w z:PV) (h:cmpV o v w=some z):∃i j,v=.int i/\w=.int j/\z=.bl (g i j) := by
 rw [ho] at h
 split at h
 ·rename_i i j
  rw [hg] at h
  exact ⟨i,j,rfl,rfl,(Option.some.inj h).symm⟩
 ·rw [hs] at h;cases h
 ·cases h
theorem zi9:OpR X (compareOp .Gt) (rT2 S X (cmpV .gt)) := zfv zkI (zed (fun _ _ => rfl) (fun _ _ => rfl) fun _ _ => rfl)
theorem ziJ:OpR X (compareOp .GtE) (rT2 S X (cmpV .ge)) := zfv zkN (zed (fun _ _ => rfl) (fun _ _ => rfl) fun _ _ => rfl)
theorem RepV.isNon {K:PySem.W.Frag}{cl:Nat->Addr}{v:PV}{x:V}(r:RepV K cl B φ H v x):decide (x=.non)=IC.isNon v := by
 cases v with
 |loc n => simp only [RepV] at r;obtain ⟨_,a,rfl,_⟩ := r;rfl
 |non => simp only [RepV] at r;subst r;rfl
 |bl b => simp only [RepV] at r;subst r;rfl
 |int b => simp only [RepV] at r;subst r;rfl
 |str b => simp only [RepV] at r;subst r;rfl
 |tp k vs => simp only [RepV] at r;obtain ⟨a,xs,rfl,_⟩ := r;rfl
 |lst vs => simp only [RepV] at r;obtain ⟨a,xs,rfl,_⟩ := r;rfl
 |exn vs => simp only [RepV] at r;obtain ⟨a,rfl,_⟩ := r;rfl
 |scr vs => simp only [RepV] at r;obtain ⟨a,xs,rfl,_⟩ := r;rfl
theorem RepV.flat {K:PySem.W.Frag}{cl:Nat->Addr}{v:PV}{x:V}(r:RepV K cl B φ H v x)(h:IC.flat v=true):flatV x=true/\∀(w:PV) (y:V),IC.flat w=true->RepV K cl B φ H w y->eqV x y=peq v w := by
 cases v with
 |non =>
  simp only [RepV] at r;subst r
  refine ⟨rfl,fun w y hw rw => ?_⟩
  cases w <;> first|(simp [IC.flat] at hw;done)|(simp only [RepV] at rw;subst rw;simp [eqV,peq,bi])
 |bl b =>
  simp only [RepV] at r;subst r
  refine ⟨rfl,fun w y hw rw => ?_⟩
  cases w <;> first|(simp [IC.flat] at hw;done)|(simp only [RepV] at rw;subst rw;simp [eqV,peq,bi])
 |int b =>
  simp only [RepV] at r;subst r
  refine ⟨rfl,fun w y hw rw => ?_⟩
  cases w <;> first|(simp [IC.flat] at hw;done)|(simp only [RepV] at rw;subst rw;simp [eqV,peq,bi])
 |str b =>
  simp only [RepV] at r;subst r
  refine ⟨rfl,fun w y hw rw => ?_⟩
  cases w <;> first|(simp [IC.flat] at hw;done)|(simp only [RepV] at rw;subst rw;simp [eqV,peq,bi])
 |_ => simp [IC.flat] at h
theorem zbY {K:PySem.W.Frag}{cl:Nat->Addr}{v:PV}{x:V}(r:RepV K cl B φ H v x)(h:IC.flat v=true):∀{vs:List PV} {xs:List V},RepL K cl B φ H vs xs->vs.all IC.flat=true->xs.all flatV=true/\inV x xs=inL v vs
 | [],xs,l,_ => by simp only [RepL] at l;subst l;exact ⟨rfl,rfl⟩
 |w::vs,xs,l,f => by
  simp only [RepL] at l
  obtain ⟨y,ys,rfl,rw,l⟩ := l
  rw [List.all_cons,Bool.and_eq_true] at f
  obtain ⟨q1,q2⟩ := zbY r h l f.2
  obtain ⟨q3,q4⟩ := rw.flat f.1
  refine ⟨by rw [List.all_cons,q3,q1];rfl,?_⟩
  unfold inV at q2 ⊢
  rw [List.any_cons,q2,q4 v x h r]
  rfl
end
theorem zfC (a b:Str):(!(Builtin.Str.occurrences b a 0 b.length 1).isEmpty)=inS a b := by
 rw [Bool.eq_iff_iff,StrLaws.found_iff]
 unfold inS
 rw [List.any_eq_true]
 constructor
 ·rintro ⟨i,h1,h2⟩
  exact ⟨i,by rw [List.mem_range];omega,by rw [Bool.and_eq_true,decide_eq_true_eq];exact ⟨h1,h2⟩⟩
 ·rintro ⟨i,_,h⟩
  rw [Bool.and_eq_true,decide_eq_true_eq] at h
  exact ⟨i,h.1,h.2⟩
section
variable {S:Se}{X:Cx}{σ:St}{B:Addr->Prop}{φ φ1:Ph}{H H1:Hp}{st:Store}
theorem zkk:OpR X (compareOp .In) (rT2 S X (cmpV .isin)) := by
 rintro pins s σ H x y v u Q I rx ry ⟨B,φ,st,a,b,z,rs,ra,rb,e,q⟩
 simp only [cmpV] at e
 split at e
 ·rename_i i j
  simp only [RepV] at ra rb
  subst ra rb
  cases e
  exact zfN pins s σ H _ _ v u Q I rx ry ⟨i,j,rfl,rfl,by rw [zfC];exact q _ H φ .rfl rs (by simp only [RepV])⟩
 ·rename_i l
  split at e
  ·rename_i c
   rw [Bool.and_eq_true] at c
   cases e
   simp only [RepV] at rb
   obtain ⟨p,xs,rfl,r,l'⟩ := rb
   obtain ⟨q1,q2⟩ := zbY ra c.1 l' c.2
   exact zc7 pins s σ H _ _ v u Q I rx ry ⟨p,xs,rfl,.inr r.sq,(ra.flat c.1).1,q1,q _ H φ .rfl rs (by simp only [RepV];rw [<- q2];rfl)⟩
  ·cases e
 ·rename_i l
  split at e
  ·rename_i c
   rw [Bool.and_eq_true] at c
   cases e
   simp only [RepV] at rb
   obtain ⟨p,xs,rfl,r,l'⟩ := rb
   obtain ⟨q1,q2⟩ := zbY ra c.1 l' c.2
   exact zc7 pins s σ H _ _ v u Q I rx ry ⟨p,xs,rfl,.inl r.sq,(ra.flat c.1).1,q1,q _ H φ .rfl rs (by simp only [RepV];rw [<- q2];rfl)⟩
  ·cases e
 ·cases e
theorem zgN:OpR X (compareOp .NotIn) (rT2 S X (cmpV .notin)) := by
 rintro pins s σ H x y v u Q I rx ry ⟨B,φ,st,a,b,z,rs,ra,rb,e,q⟩
 simp only [cmpV] at e
 split at e
 ·rename_i i j
  simp only [RepV] at ra rb
  subst ra rb
  cases e
  exact zdb pins s σ H _ _ v u Q I rx ry ⟨i,j,rfl,rfl,by rw [zfC];exact q _ H φ .rfl rs (by simp only [RepV])⟩
 ·rename_i l
  split at e
  ·rename_i c
   rw [Bool.and_eq_true] at c
   cases e
   simp only [RepV] at rb
   obtain ⟨p,xs,rfl,r,l'⟩ := rb
   obtain ⟨q1,q2⟩ := zbY ra c.1 l' c.2
   exact zbC pins s σ H _ _ v u Q I rx ry ⟨p,xs,rfl,.inr r.sq,(ra.flat c.1).1,q1,q _ H φ .rfl rs (by simp only [RepV];rw [<- q2];rfl)⟩
  ·cases e
 ·rename_i l
  split at e
  ·rename_i c
   rw [Bool.and_eq_true] at c
   cases e
   simp only [RepV] at rb
   obtain ⟨p,xs,rfl,r,l'⟩ := rb
   obtain ⟨q1,q2⟩ := zbY ra c.1 l' c.2
   exact zbC pins s σ H _ _ v u Q I rx ry ⟨p,xs,rfl,.inl r.sq,(ra.flat c.1).1,q1,q _ H φ .rfl rs (by simp only [RepV];rw [<- q2];rfl)⟩
  ·cases e
 ·cases e
theorem RepL.empty {K:PySem.W.Frag}{cl:Nat->Addr}{vs:List PV}{xs:List V}(l:RepL K cl B φ H vs xs):vs.isEmpty=xs.isEmpty := by
 have := l.length
 cases vs <;> cases xs <;> simp_all
theorem zis {K:PySem.W.Frag}{cl:Nat->Addr}{v:PV}{x:V}{k:Bool}(rs:RepS K cl B φ H st)(r:RepV K cl B φ H v x)(h:truV st v=some k):TruV K x H k := by
 cases v with
 |non => simp only [RepV] at r;subst r;cases h;rfl
 |bl b => simp only [RepV] at r;subst r;cases h;rfl
 |int b => simp only [RepV] at r;subst r;cases h;rfl
 |str b =>
  simp only [RepV] at r;subst r
  simp only [truV] at h
  split at h
  ·rename_i c
   cases h
   exact ⟨by rw [<- zK];exact c,rfl⟩
  ·cases h
 |tp k vs =>
  simp only [RepV] at r
  obtain ⟨a,xs,rfl,rt,l⟩ := r
  cases h
  exact .inr (.inl ⟨xs,rt.sq,by rw [l.empty]⟩)
 |lst vs =>
  simp only [RepV] at r
  obtain ⟨a,xs,rfl,rt,l⟩ := r
  cases h
  exact .inl ⟨xs,rt.sq,by rw [l.empty]⟩
 |loc n =>
  simp only [RepV] at r
  obtain ⟨hn,a,rfl,ha⟩ := r
  simp only [truV] at h
  split at h
  ·rename_i vs hv
   cases h
   obtain ⟨b,hb⟩ := rs.liv n _ hv (by intro z;cases z)
   obtain rfl := ha b hb
   obtain ⟨o,ho,ro⟩ := rs.obj n b hb
   rw [hv] at ho;cases ho
   obtain ⟨xs,hx,l⟩ := ro
   exact .inl ⟨xs,.of hx,by rw [l.empty]⟩
  ·cases h
 |exn c => cases h
 |scr c => cases h
end
theorem R.bind_assoc {α β γ:Type}{r:R α}{k:α->Store->R β}{l:β->Store->R γ}:(r.bind k).bind l=r.bind fun a s => (k a s).bind l := by
 cases r <;> rfl
section
variable {S:Se}{X:Cx}{σ:St}{B:Addr->Prop}{φ φ1:Ph}{H H1:Hp}{st:Store}{ρ:IC.Env}{pos:Pos}{a b c d:Expr}{ca cb cc:Ce}{es:List Expr}{ces:Ces}
theorem zfi {o:COp}{v w z:PV}(h:cmpV o v w=some z):∃k,z=.bl k := by
 cases o <;> simp only [cmpV] at h
 all_goals (repeat' split at h) <;> first|(cases h;done)|(cases h;exact ⟨_,rfl⟩)|skip
 all_goals (simp only [cmpI] at h;cases h;exact ⟨_,rfl⟩)
theorem zj0 {op:CmpOp}{o:COp}(ho:OpR X (compareOp op) (rT2 S X (cmpV o)))(ha:PE X a (tE S X ca))(hb:PE X b (tE S X cb))(hm:behindInMarks op b=false):PT X (.Compare a [op] [b] pos) (tTs S X (.cmp o ca cb)) :=
 (zhG ho ha hb hm).imp fun σ H Q ⟨B,φ,st,ρ,rs,re,h⟩ => by
  simp only [ev,truR,R.bind_assoc] at h
  refine tE.bind rs re h fun x H1 v st1 φ1 s1 rs1 re1 rv h1 => tE.bind rs1 re1 h1 fun y H2 w st2 φ2 s2 rs2 re2 rw h2 => ?_
  cases e:cmpV o v w with
  |none => rw [e] at h2;exact h2.elim
  |some z =>
   obtain ⟨k,rfl⟩ := zfi e
   rw [e] at h2
   refine ⟨B,φ2,st2,v,w,.bl k,rs2,rv.step s2,rw,e,fun z' H' φ' s' rs' rz => ?_⟩
   simp only [RepV] at rz
   exact ⟨k,rz,h2 k H' φ' s' rs' rfl⟩
theorem zq {op:CmpOp}{o:COp}(ho:OpR X (compareOp op) (rT2 S X (cmpV o)))(ha:KqE X a (tE S X ca))(hb:KqE X b (tE S X cb))(hm:behindInMarks op b=false):KqT X (.Compare a [op] [b] pos) (tTs S X (.cmp o ca cb)) := by with_unfolding_all exact zj0 ho ha hb hm
theorem zjP (ha:PE X a (tE S X ca))(he:∀whole,isTrue a X.env whole=(do let v <- whole;standAt a.pos;holding [v] (truthy v)) := by intro _;rfl):PT X a (tTs S X ca) :=
 (zgB ha he).imp fun σ H Q ⟨B,φ,st,ρ,rs,re,h⟩ => by
  simp only [truR] at h
  refine tE.bind rs re h fun x H1 v st1 φ1 s1 rs1 re1 rv h1 => ?_
  cases e:truV st1 v with
  |none => rw [e] at h1;exact h1.elim
  |some k =>
   rw [e] at h1
   exact ⟨k,zis rs1 rv e,h1.ok rs1 rfl⟩
theorem zaZ (ha:KqE X a (tE S X ca))(he:∀whole,isTrue a X.env whole=(do let v <- whole;standAt a.pos;holding [v] (truthy v)) := by intro _;rfl):KqT X a (tTs S X ca) := by with_unfolding_all exact zjP ha he
theorem tTs.bind {γ δ:Type}{Rel2:Ph->Hp->γ->δ->Prop}{k:Bool->Store->R γ}{Q:δ->Hp->Prop}{P:Bool->Hp->Prop}(rs:RepS X.K S.cl B φ H st)(re:RepE X.K S.cl B φ H ρ σ)(h:Run S X σ B φ H Rel2 ((truR (ev S.call ρ st ca)).bind k) Q)
  (n:∀b H1 st1 φ1,Step φ H φ1 H1->RepS X.K S.cl B φ1 H1 st1->RepE X.K S.cl B φ1 H1 ρ σ->Run S X σ B φ1 H1 Rel2 (k b st1) Q->P b H1):tTs S X ca σ H P :=
 ⟨B,φ,st,ρ,rs,re,(Run.bind h).mono fun x H1 ⟨v,st1,φ1,s,rs1,rv,h1⟩ => by
  subst rv
  exact n v H1 st1 φ1 s rs1 (re.step s) h1⟩
theorem zdP (r:R PV)(f:Bool->Store->R PV):truR (r.bind fun x st1 => onBl x fun b => f b st1)=r.bind fun x st1 => onBl x fun b => truR (f b st1) := by
 unfold truR
 rw [R.bind_assoc]
 congr 1
 funext x st1
 cases x <;> rfl
theorem Run.bl_tru {r:R PV}{k:Bool->Store->R Bool}{Q:Bool->Hp->Prop}(h:Run S X σ B φ H RB (r.bind fun x st1 => onBl x fun b => k b st1) Q):Run S X σ B φ H RB ((truR r).bind k) Q := by
 cases r with
 |bad => exact h
 |exc c s => exact h
 |ok v s =>
  cases v with
  |bl b => exact h
  |_ => exact h.elim
theorem zjH (ha:PT X a (tTs S X ca)):PT X (.UnaryOp .Not a pos) (tTs S X (.not ca)) :=
 (ziO ha).imp fun σ H Q ⟨B,φ,st,ρ,rs,re,h⟩ => by
  simp only [ev] at h
  rw [zdP _ fun k st1 => .ok (.bl (!k)) st1] at h
  exact tTs.bind rs re (Run.bl_tru (k := fun b st1 => .ok (!b) st1) h) fun b H1 st1 φ1 s1 rs1 re1 h1 => h1.ok rs1 rfl
theorem zec (ha:KqT X a (tTs S X ca)):KqT X (.UnaryOp .Not a pos) (tTs S X (.not ca)) := by with_unfolding_all exact zjH ha
variable {rest:List Expr}
theorem ziy (ha:PT X a (tTs S X ca)):PW X (.BoolOp .And [a] pos) (tTs S X ca) := zij ha
theorem zbT (ha:KqT X a (tTs S X ca)):KqW X (.BoolOp .And [a] pos) (tTs S X ca) := by with_unfolding_all exact ziy ha
theorem zj4 (ha:PT X a (tTs S X ca)):PW X (.BoolOp .Or [a] pos) (tTs S X ca) := zjF ha
theorem zc0 (ha:KqT X a (tTs S X ca)):KqW X (.BoolOp .Or [a] pos) (tTs S X ca) := by with_unfolding_all exact zj4 ha
theorem ziZ (ha:PT X a (tTs S X ca))(hb:PW X (.BoolOp .And (b::rest) pos) (tTs S X cb)):PW X (.BoolOp .And (a::b::rest) pos) (tTs S X (.and ca cb)) :=
 (zjr ha hb).imp fun σ H Q ⟨B,φ,st,ρ,rs,re,h⟩ => by
  simp only [ev] at h
  rw [zdP _ fun k st1 => cond k (ev S.call ρ st1 cb) (.ok (.bl false) st1)] at h
  refine tTs.bind rs re (Run.bl_tru h) fun k H1 st1 φ1 s1 rs1 re1 h1 => ?_
  cases k with
  |false => exact h1.ok rs1 rfl
  |true => exact ⟨B,φ1,st1,ρ,rs1,re1,h1⟩
theorem zc2 (ha:KqT X a (tTs S X ca))(hb:KqW X (.BoolOp .And (b::rest) pos) (tTs S X cb)):KqW X (.BoolOp .And (a::b::rest) pos) (tTs S X (.and ca cb)) := by with_unfolding_all exact ziZ ha hb
theorem zkr (ha:PT X a (tTs S X ca))(hb:PW X (.BoolOp .Or (b::rest) pos) (tTs S X cb)):PW X (.BoolOp .Or (a::b::rest) pos) (tTs S X (.or ca cb)) :=
 (zkQ ha hb).imp fun σ H Q ⟨B,φ,st,ρ,rs,re,h⟩ => by
  simp only [ev] at h
  rw [zdP _ fun k st1 => cond k (.ok (.bl true) st1) (ev S.call ρ st1 cb)] at h
  refine tTs.bind rs re (Run.bl_tru h) fun k H1 st1 φ1 s1 rs1 re1 h1 => ?_
  cases k with
  |true => exact h1.ok rs1 rfl
  |false => exact ⟨B,φ1,st1,ρ,rs1,re1,h1⟩
theorem zcV (ha:KqT X a (tTs S X ca))(hb:KqW X (.BoolOp .Or (b::rest) pos) (tTs S X cb)):KqW X (.BoolOp .Or (a::b::rest) pos) (tTs S X (.or ca cb)) := by with_unfolding_all exact zkr ha hb
theorem zi4 {op:BoolOp}(h:PE X a (tE S X ca)):PE X (.BoolOp op [a] pos) (tE S X ca) := ziM h
theorem zcZ {op:BoolOp}(h:KqE X a (tE S X ca)):KqE X (.BoolOp op [a] pos) (tE S X ca) := by with_unfolding_all exact zi4 h
theorem zjA (ha:PE X a (tE S X ca))(hb:PE X (.BoolOp .And (b::rest) pos) (tE S X cb)):PE X (.BoolOp .And (a::b::rest) pos) (tE S X (.and ca cb)) :=
 (ziN ha hb).imp fun σ H Q ⟨B,φ,st,ρ,rs,re,h⟩ => by
  simp only [ev] at h
  refine tE.bind rs re h fun x H1 v st1 φ1 s1 rs1 re1 rv h1 => ?_
  cases v with
  |bl k =>
   simp only [RepV] at rv
   refine ⟨k,rv,?_⟩
   cases k with
   |true => exact ⟨B,φ1,st1,ρ,rs1,re1,h1⟩
   |false => exact h1.ok rs1 (by simp only [RepV])
  |_ => exact h1.elim
theorem zd3 (ha:KqE X a (tE S X ca))(hb:KqE X (.BoolOp .And (b::rest) pos) (tE S X cb)):KqE X (.BoolOp .And (a::b::rest) pos) (tE S X (.and ca cb)) := by with_unfolding_all exact zjA ha hb
theorem zkP (ha:PE X a (tE S X ca))(hb:PE X (.BoolOp .Or (b::rest) pos) (tE S X cb)):PE X (.BoolOp .Or (a::b::rest) pos) (tE S X (.or ca cb)) :=
 (zkM ha hb).imp fun σ H Q ⟨B,φ,st,ρ,rs,re,h⟩ => by
  simp only [ev] at h
  refine tE.bind rs re h fun x H1 v st1 φ1 s1 rs1 re1 rv h1 => ?_
  cases v with
  |bl k =>
   simp only [RepV] at rv
   refine ⟨k,rv,?_⟩
   cases k with
   |false => exact ⟨B,φ1,st1,ρ,rs1,re1,h1⟩
   |true => exact h1.ok rs1 (by simp only [RepV])
  |_ => exact h1.elim
theorem ziw (ha:KqE X a (tE S X ca))(hb:KqE X (.BoolOp .Or (b::rest) pos) (tE S X cb)):KqE X (.BoolOp .Or (a::b::rest) pos) (tE S X (.or ca cb)) := by with_unfolding_all exact zkP ha hb
theorem zjB (ha:PE X a (tE S X ca)):PE X (.UnaryOp .Not a pos) (tE S X (.not ca)) :=
 (zjS ha).imp fun σ H Q ⟨B,φ,st,ρ,rs,re,h⟩ => by
  simp only [ev] at h
  refine tE.bind rs re h fun x H1 v st1 φ1 s1 rs1 re1 rv h1 => ?_
  cases v with
  |bl k =>
   simp only [RepV] at rv
   exact ⟨k,rv,h1.ok rs1 (by simp only [RepV])⟩
  |_ => exact h1.elim
theorem zg0 (ha:KqE X a (tE S X ca)):KqE X (.UnaryOp .Not a pos) (tE S X (.not ca)) := by with_unfolding_all exact zjB ha
theorem zjV (hc:PT X c (tTs S X cc))(ha:PE X a (tE S X ca))(hb:PE X b (tE S X cb)):PE X (.IfExp c a b pos) (tE S X (.ite cc ca cb)) :=
 (zgO hc ha hb).imp fun σ H Q ⟨B,φ,st,ρ,rs,re,h⟩ => by
  simp only [ev] at h
  have e:((ev S.call ρ st cc).bind fun x st1 => onO (truV st1 x) fun k => cond k (ev S.call ρ st1 ca) (ev S.call ρ st1 cb))=(truR (ev S.call ρ st cc)).bind fun k st1 => cond k (ev S.call ρ st1 ca) (ev S.call ρ st1 cb) := by
   unfold truR
   rw [R.bind_assoc]
   congr 1
   funext x st1
   cases truV st1 x <;> rfl
  rw [e] at h
  refine tTs.bind rs re h fun k H1 st1 φ1 s1 rs1 re1 h1 => ?_
  cases k with
  |true => exact ⟨B,φ1,st1,ρ,rs1,re1,h1⟩
  |false => exact ⟨B,φ1,st1,ρ,rs1,re1,h1⟩
theorem zeg (hc:KqT X c (tTs S X cc))(ha:KqE X a (tE S X ca))(hb:KqE X b (tE S X cb)):KqE X (.IfExp c a b pos) (tE S X (.ite cc ca cb)) := by with_unfolding_all exact zjV hc ha hb
theorem zhx:PA X [] (tAs S X .nil) := pa_nil.imp fun σ H Q ⟨B,φ,st,ρ,rs,re,h⟩ => by
 simp only [evs] at h
 exact h.ok rs (by simp only [RepL])
theorem zh:KqA X [] (tAs S X .nil) := by with_unfolding_all exact zhx
theorem zfD (ha:PE X a (tE S X ca))(hr:PA X es (tAs S X ces))(hs:starEach (a::es) X.env=(false,eval a X.env)::starEach es X.env := by rfl):PA X (a::es) (tAs S X (.cons ca ces)) :=
 (zba ha hr hs).imp fun σ H Q ⟨B,φ,st,ρ,rs,re,h⟩ => by
  simp only [evs] at h
  refine tE.bind rs re h fun x H1 v st1 φ1 s1 rs1 re1 rv h1 => tAs.bind rs1 re1 h1 fun xs H2 vs st2 φ2 s2 rs2 re2 rvs h2 => ?_
  refine h2.ok rs2 ?_
  simp only [RepL]
  exact ⟨x,xs,rfl,rv.step s2,rvs⟩
theorem za (ha:KqE X a (tE S X ca))(hr:KqA X es (tAs S X ces))(hs:starEach (a::es) X.env=(false,eval a X.env)::starEach es X.env := by rfl):KqA X (a::es) (tAs S X (.cons ca ces)) := by with_unfolding_all exact zfD ha hr hs
theorem zjK {k:Nat}(h:PA X es (tAs S X ces)):PE X (.Tuple es k pos) (tE S X (.tup ces)) :=
 (zjC h).imp fun σ H Q ⟨B,φ,st,ρ,rs,re,h⟩ => by
  simp only [ev] at h
  refine tAs.bind rs re h fun xs H1 vs st1 φ1 s1 rs1 re1 rv h1 => ?_
  split at h1
  ·rename_i c
   refine ⟨by rw [<- zK,<- rv.length];exact c,fun p hp => h1 _ _ φ1 (.upd hp) (rs1.upd hp) (.tup_new hp rs1 rv)⟩
  ·exact h1.elim
theorem zo {k:Nat}(h:KqA X es (tAs S X ces)):KqE X (.Tuple es k pos) (tE S X (.tup ces)) := by with_unfolding_all exact zjK h
theorem zjD (h:PA X es (tAs S X ces)):PE X (.List es pos) (tE S X (.lst ces)) :=
 (zhw h).imp fun σ H Q ⟨B,φ,st,ρ,rs,re,h⟩ => by
  simp only [ev] at h
  refine tAs.bind rs re h fun xs H1 vs st1 φ1 s1 rs1 re1 rv h1 => ?_
  split at h1
  ·rename_i c
   refine ⟨by rw [<- zK,<- rv.length];exact c,fun p hp => h1 _ _ φ1 (.upd hp) (rs1.upd hp) (.lst_new hp rs1 rv)⟩
  ·exact h1.elim
theorem zg4 (h:KqA X es (tAs S X ces)):KqE X (.List es pos) (tE S X (.lst ces)) := by with_unfolding_all exact zjD h
theorem Step.push {p:Addr}{o:HO}(hp:H p=none):Step φ H (φ++[some p]) (L2.upd H p o) := by
 refine ⟨fun b u n e => by rw [zp (zx e hp)];exact e,by simp,fun n a hn e => ?_,fun b h => ?_⟩
 ·rw [List.getElem?_append_left hn] at e
  exact e
 ·rw [List.mem_append] at h
  rcases h with h|h
  ·exact .inl h
  ·have:b=p := by simpa using h
   subst this
   exact .inr hp
theorem RepS.push {K:PySem.W.Frag}{cl:Nat->Addr}{p:Addr}{u:HO}{o:Ob}(rs:RepS K cl B φ H st)(hp:H p=none)(hb:¬B p)(ho:RepO K cl B (φ++[some p]) (L2.upd H p u) o p):RepS K cl B (φ++[some p]) (L2.upd H p u) (st++[o]) := by
 have s:Step φ H (φ++[some p]) (L2.upd H p u) := .push hp
 have np:some p∉φ := fun z => by
  obtain ⟨w,e⟩ := rs.there z
  rw [hp] at e;cases e
 have hl:φ.length=st.length := rs.len
 refine ⟨by simp [hl],fun m n a e1 e2 => ?_,fun n a e => ?_,fun n o' e ho' => ?_,fun a h => ?_,fun a h => ?_⟩
 ·by_cases hm:m<φ.length
  ·rw [List.getElem?_append_left hm] at e1
   by_cases hn:n<φ.length
   ·rw [List.getElem?_append_left hn] at e2
    exact rs.inj m n a e1 e2
   ·rw [List.getElem?_append_right (by omega)] at e2
    have:a=p := by
     cases q:n - φ.length with
     |zero => rw [q] at e2;simpa using e2.symm
     |succ k => rw [q] at e2;simp at e2
    subst this
    exact absurd (List.mem_of_getElem? e1) np
  ·rw [List.getElem?_append_right (by omega)] at e1
   have:m - φ.length=0/\a=p := by
    cases q:m - φ.length with
    |zero => rw [q] at e1;exact ⟨rfl,by simpa using e1.symm⟩
    |succ k => rw [q] at e1;simp at e1
   obtain ⟨q1,rfl⟩ := this
   by_cases hn:n<φ.length
   ·rw [List.getElem?_append_left hn] at e2
    exact absurd (List.mem_of_getElem? e2) np
   ·rw [List.getElem?_append_right (by omega)] at e2
    have:n - φ.length=0 := by
     cases q:n - φ.length with
     |zero => rfl
     |succ k => rw [q] at e2;simp at e2
    omega
 ·by_cases hn:n<φ.length
  ·rw [List.getElem?_append_left hn] at e
   obtain ⟨o',q,r⟩ := rs.obj n a e
   refine ⟨o',by rw [List.getElem?_append_left (by omega)];exact q,r.step s ?_⟩
   rw [zp]
   rintro rfl
   exact np (List.mem_of_getElem? e)
  ·rw [List.getElem?_append_right (by omega)] at e
   have:n - φ.length=0/\a=p := by
    cases q:n - φ.length with
    |zero => rw [q] at e;exact ⟨rfl,by simpa using e.symm⟩
    |succ k => rw [q] at e;simp at e
   obtain ⟨q1,rfl⟩ := this
   refine ⟨o,?_,ho⟩
   rw [List.getElem?_append_right (by omega)]
   have:n - st.length=0 := by omega
   rw [this];rfl
 ·by_cases hn:n<φ.length
  ·rw [List.getElem?_append_left (by omega)] at e
   obtain ⟨a,q⟩ := rs.liv n o' e ho'
   exact ⟨a,by rw [List.getElem?_append_left hn];exact q⟩
  ·rw [List.getElem?_append_right (by omega)] at e
   have:n - st.length=0 := by
    cases q:n - st.length with
    |zero => rfl
    |succ k => rw [q] at e;simp at e
   refine ⟨p,?_⟩
   rw [List.getElem?_append_right (by omega)]
   have:n - φ.length=0 := by omega
   rw [this];rfl
 ·rw [List.mem_append] at h
  rcases h with h|h
  ·exact rs.nb a h
  ·have:a=p := by simpa using h
   subst this
   exact hb
 ·obtain ⟨w,e⟩ := rs.dom a h
  exact ⟨w,by rw [zp (zx e hp)];exact e⟩
theorem RepS.nB {K:PySem.W.Frag}{cl:Nat->Addr}{p:Addr}(rs:RepS K cl B φ H st)(hp:H p=none):¬B p := fun z => by
 obtain ⟨o,e⟩ := rs.dom p z
 rw [hp] at e;cases e
theorem RepV.loc_new {K:PySem.W.Frag}{cl:Nat->Addr}{p:Addr}(rs:RepS K cl B φ H st):RepV K cl B (φ++[some p]) H1 (.loc st.length) (.ref p) := by
 simp only [RepV]
 have hl := rs.len
 refine ⟨by simp [hl],p,rfl,fun b e => ?_⟩
 rw [List.getElem?_append_right (by omega)] at e
 have:st.length - φ.length=0 := by omega
 rw [this] at e
 simpa using e.symm
theorem zhS (h:PA X es (tAs S X ces)):PE X (.List es pos) (tE S X (.newl ces)) :=
 (zhw h).imp fun σ H Q ⟨B,φ,st,ρ,rs,re,h⟩ => by
  simp only [ev] at h
  refine tAs.bind rs re h fun xs H1 vs st1 φ1 s1 rs1 re1 rv h1 => ?_
  split at h1
  ·rename_i c
   refine ⟨by rw [<- zK,<- rv.length];exact c,fun p hp => h1 _ _ (φ1++[some p]) (.push hp) (rs1.push hp (rs1.nB hp) ⟨xs,zH,rv.step (.push hp)⟩) (.loc_new rs1)⟩
  ·exact h1.elim
theorem zeQ (h:KqA X es (tAs S X ces)):KqE X (.List es pos) (tE S X (.newl ces)) := by with_unfolding_all exact zhS h
end
section
variable {S:Se}{X:Cx}{σ:St}{B:Addr->Prop}{φ φ1:Ph}{H H1:Hp}{st:Store}{ρ:IC.Env}{pos p2:Pos}{a b c d:Expr}{ca cb cc:Ce}{es:List Expr}{ces:Ces}{K:PySem.W.Frag}{cl:Nat->Addr}
theorem ziq {o:COp}{v w:PV}{α β:Type}{Rel:Ph->Hp->α->β->Prop}{k:Bool->R α}{Q:β->Hp->Prop}(h:Run S X σ B φ H Rel (onO (blO (cmpV o v w)) k) Q):∃b,cmpV o v w=some (.bl b)/\Run S X σ B φ H Rel (k b) Q := by
 cases e:cmpV o v w with
 |none => rw [e] at h;exact h.elim
 |some z =>
  obtain ⟨b,rfl⟩ := zfi e
  rw [e] at h
  exact ⟨b,rfl,h⟩
theorem zgM {op op':CmpOp}{o p:COp}(ho:OpR X (compareOp op) (rT2 S X (cmpV o)))(ho':OpR X (compareOp op') (rT2 S X (cmpV p)))(ha:PE X a (tE S X ca))(hb:PE X b (tE S X cb))(hc:PE X c (tE S X cc))
  (hm:lastMarks [op,op'] [b,c]=false := by with_unfolding_all rfl):PE X (.Compare a [op,op'] [b,c] pos) (tE S X (.chain o p ca cb cc)) :=
 (zha ho ho' ha hb hc hm).imp fun σ H Q ⟨B,φ,st,ρ,rs,re,h⟩ => by
  simp only [ev] at h
  refine tE.bind rs re h fun x H1 v st1 φ1 s1 rs1 re1 rv h1 => tE.bind rs1 re1 h1 fun y H2 w st2 φ2 s2 rs2 re2 rw h2 => ?_
  obtain ⟨k,e,h2⟩ := ziq h2
  refine ⟨B,φ2,st2,v,w,.bl k,rs2,rv.step s2,rw,e,fun z' H' φ' s' rs' rz => ?_⟩
  simp only [RepV] at rz
  refine ⟨k,rz,?_⟩
  cases k with
  |false => exact h2 _ H' φ' s' rs' (by simp only [RepV])
  |true =>
   refine tE.bind rs' (re2.step s') (Run.on s' h2) fun z H3 v3 st3 φ3 s3 rs3 re3 rv3 h3 => ?_
   obtain ⟨q,eq,hq⟩ := zac h3 rs3
   exact ⟨B,φ3,st3,w,v3,q,rs3,(rw.step s').step s3,rv3,eq,hq⟩
theorem zeK {op op':CmpOp}{o p:COp}(ho:OpR X (compareOp op) (rT2 S X (cmpV o)))(ho':OpR X (compareOp op') (rT2 S X (cmpV p)))(ha:KqE X a (tE S X ca))(hb:KqE X b (tE S X cb))(hc:KqE X c (tE S X cc))
  (hm:lastMarks [op,op'] [b,c]=false := by with_unfolding_all rfl):KqE X (.Compare a [op,op'] [b,c] pos) (tE S X (.chain o p ca cb cc)) := by with_unfolding_all exact zgM ho ho' ha hb hc hm
theorem RepL.at {vs:List PV}{xs:List V}{i:Int}{v:PV}(l:RepL K cl B φ H vs xs)(h:at? vs i=some v):∃x,atI xs i=some x/\RepV K cl B φ H v x := by
 unfold at? at h
 rw [l.length] at h
 unfold atI
 cases e:ixI xs.length i with
 |none => rw [e] at h;cases h
 |some j =>
  rw [e] at h
  have e':ixN xs.length i=some j := e
  rw [e']
  exact l.get j h
theorem RepS.list {n:Nat}{vs:List PV}{x:V}(rs:RepS K cl B φ H st)(r:RepV K cl B φ H (.loc n) x)(h:st[n]?=some (.lst vs)):∃a xs,x=.ref a/\φ[n]?=some (some a)/\H a=some (.lst xs)/\RepL K cl B φ H vs xs := by
 simp only [RepV] at r
 obtain ⟨hn,a,rfl,ha⟩ := r
 obtain ⟨b,hb⟩ := rs.liv n _ h (by intro z;cases z)
 obtain rfl := ha b hb
 obtain ⟨o,ho,ro⟩ := rs.obj n b hb
 rw [h] at ho;cases ho
 obtain ⟨xs,hx,l⟩ := ro
 exact ⟨b,xs,rfl,hb,hx,l⟩
noncomputable def rTS (S:Se)(X:Cx)(f:Store->PV->PV->Option PV):R2 := fun x y H Q => ∃B φ st v w z,RepS X.K S.cl B φ H st/\RepV X.K S.cl B φ H v x/\RepV X.K S.cl B φ H w y/\f st v w=some z /\
 ∀z' H' φ',Step φ H φ' H'->RepS X.K S.cl B φ' H' st->RepV X.K S.cl B φ' H' z z'->Q z' H'
theorem zbO {α:Type}{xs:List α}{i:PV}{z:α}(h:idxI xs i=some z):∃k,i=.int k/\at? xs k=some z := by
 cases i with
 |int k => exact ⟨k,rfl,h⟩
 |_ => cases h
theorem zik:IxR X (rTS S X idxV) := by
 rintro value slice pins s σ H x y v u Q I rx ry ⟨B,φ,st,a,i,z,rs,ra,ri,e,q⟩ hs
 cases a with
 |tp k vs =>
  obtain ⟨k,rfl,e⟩ := zbO e
  simp only [RepV] at ra ri
  subst ri
  obtain ⟨p,xs,rfl,rt,l⟩ := ra
  obtain ⟨w,e1,rw⟩ := l.at e
  exact zej value slice pins s σ H _ _ v u Q I rx ry (.inr (.inl ⟨p,xs,k,w,rfl,rfl,rt.sq,e1,q w H φ .rfl rs rw⟩)) hs
 |lst vs =>
  obtain ⟨k,rfl,e⟩ := zbO e
  simp only [RepV] at ra ri
  subst ri
  obtain ⟨p,xs,rfl,rt,l⟩ := ra
  obtain ⟨w,e1,rw⟩ := l.at e
  exact zej value slice pins s σ H _ _ v u Q I rx ry (.inl ⟨p,xs,k,w,rfl,rfl,rt.sq,e1,q w H φ .rfl rs rw⟩) hs
 |loc n =>
  simp only [idxV] at e
  split at e
  ·rename_i vs h1
   obtain ⟨k,rfl,e⟩ := zbO e
   simp only [RepV] at ri
   subst ri
   obtain ⟨p,xs,rfl,_,hx,l⟩ := rs.list ra h1
   obtain ⟨w,e1,rw⟩ := l.at e
   exact zej value slice pins s σ H _ _ v u Q I rx ry (.inl ⟨p,xs,k,w,rfl,rfl,.of hx,e1,q w H φ .rfl rs rw⟩) hs
  ·cases e
 |str t =>
  simp only [idxV] at e
  split at e
  ·rename_i hl
   cases e1:idxI t.cps.toList i with
   |none => rw [e1] at e;cases e
   |some c =>
    rw [e1] at e
    cases e
    obtain ⟨k,rfl,e1⟩ := zbO e1
    simp only [RepV] at ra ri
    subst ra ri
    exact zej value slice pins s σ H _ _ v u Q I rx ry (.inr (.inr ⟨t,k,c,rfl,rfl,by rw [<- zK];exact hl,e1,q _ H φ .rfl rs (by simp only [RepV])⟩)) hs
  ·cases e
 |_ => cases e
theorem zja (ha:PE X a (tE S X ca))(hb:PE X b (tE S X cb))(hs:PlainIx b := by exact fun _ _ => rfl):PE X (.Subscript a b pos) (tE S X (.idx ca cb)) :=
 (zkF zik ha hb hs).imp fun σ H Q ⟨B,φ,st,ρ,rs,re,h⟩ => by
  simp only [ev] at h
  refine tE.bind rs re h fun x H1 v st1 φ1 s1 rs1 re1 rv h1 => tE.bind rs1 re1 h1 fun y H2 w st2 φ2 s2 rs2 re2 rw h2 => ?_
  obtain ⟨z,e,q⟩ := zac h2 rs2
  exact ⟨B,φ2,st2,v,w,z,rs2,rv.step s2,rw,e,q⟩
theorem zz (ha:KqE X a (tE S X ca))(hb:KqE X b (tE S X cb))(hs:PlainIx b := by exact fun _ _ => rfl):KqE X (.Subscript a b pos) (tE S X (.idx ca cb)) := by with_unfolding_all exact zja ha hb hs
theorem RepL.cut {vs:List PV}{xs:List V}(lo hi:Option Int)(l:RepL K cl B φ H vs xs):RepL K cl B φ H (IC.cut vs lo hi) (cutV xs lo hi) := by
 have e1:∀n o,loOf n o=HT.sIx n 0 o := fun n o => by cases o <;> rfl
 have e2:∀n o,hiOf n o=HT.sIx n n o := fun n o => by cases o <;> rfl
 unfold IC.cut cutV
 rw [l.length,e1,e2]
 exact (l.drop _).take _
noncomputable def tO (S:Se)(X:Cx)(c:Ce):TO := fun σ H Q => tE S X c σ H fun x H1 => (x=.non/\Q none H1) \/ ∃i,x=.int i/\Q (some i) H1
theorem zhO:PO X none (tO S X (.cst .non)) := fun pins s σ H Q I h => by
 refine zil pins s σ H Q I ?_
 obtain ⟨B,φ,st,ρ,rs,re,h⟩ := h
 simp only [ev] at h
 rcases h.ok rs (x := V.non) (by simp only [RepV]) with q|⟨i,z,_⟩
 ·exact q.2
 ·cases z
theorem zfj:KqO X none (tO S X (.cst .non)) := by with_unfolding_all exact zhO
theorem zhL (ha:PE X a (tE S X ca)):PO X (some a) (tO S X ca) := by
 intro pins s σ H Q I hw
 rw [evalPart_some]
 refine thn (ha pins s σ H _ I hw) fun u s1 ⟨x,H1,I1,r1,q1⟩ => ?_
 rcases q1 with ⟨rfl,q⟩|⟨i,rfl,q⟩
 ·cases r1
  exact ⟨none,H1,I1,.none,q⟩
 ·obtain ⟨t,rfl⟩ := r1
  exact ⟨some i,H1,I1,.int i t,q⟩
theorem zge (ha:KqE X a (tE S X ca)):KqO X (some a) (tO S X ca) := by with_unfolding_all exact zhL ha
noncomputable def rSl (S:Se)(X:Cx):V->Option Int->Option Int->Hp->VK->Prop := fun x lo hi H Q => ∃B φ st v z,RepS X.K S.cl B φ H st/\RepV X.K S.cl B φ H v x/\slcO v lo hi=some z /\
 ∀z' H' φ',Step φ H φ' H'->RepS X.K S.cl B φ' H' st->RepV X.K S.cl B φ' H' z z'->Q z' H'
theorem za6 {prog:Program}{w:World}{A:Around}{E:Value->Shared->Prop}{s:Shared}{t sl:Addr}{items:Array Value}{vl vu:Value}{lo hi:Option Int}{Q:Value->Shared->Prop}(ht:IsTup s.heap t items)(hs:s.heap.IsSliceOf sl vl vu .none)(pl:IsPart vl lo)(pu:IsPart vu hi)
  (hw:HT.sIx items.size 0 lo=0/\HT.sIx items.size items.size hi=items.size)
  (h:Q (.ref t) s):wpAny (model prog w) A (getItem (.ref t) (.ref sl)) Q E s := by
 obtain ⟨os,hos,hcs,hds⟩ := id hs
 have hTs:s.TypeIs (.ref sl) "slice" := ⟨os,hos,hcs⟩
 unfold getItem
 try with_reducible refine wpAny_holding ?_
 first|refine wpAny_bind (wpAny_pure ?_)|skip
 refine wpAny_bind (wpAny_sequenceKey ht.typeIs (by decide) ?_)
 refine wpAny_bind (wpAny_callSpecial?_slot (name := Str.ofString "__getitem__") ht.typeIs PyProof.Rows.slot_tuple_getitem
  (wpAny_call_entry PyProof.Rows.slot_tuple_getitem ht.typeIs entry_tuple_getitem ?_ (args_tuple_getitem _ _)))
 show wpAny _ _ (Builtin.Tuple.tupleItemsOf (.ref t) >>= _) _ _ s
 refine wpAny_bind (PyProof.Rows.tupleItemsOf_ ht ?_)
 refine wpAny_bind (wpAny_typeOf hTs ?_)
 rw [if_pos (by decide)]
 refine wpAny_bind (HT.sliceApplied_gen hs pl pu ?_)
 have hyes:(((HT.sIx items.size 0 lo:Nat):Int) == 0 && (1:Int) == 1 && (HT.sIx items.size items.size hi - HT.sIx items.size 0 lo) == items.size)=true := by
  rw [hw.1,hw.2]
  simp
 show wpAny _ _ (if (((HT.sIx items.size 0 lo:Nat):Int) == 0 && (1:Int) == 1 && (HT.sIx items.size items.size hi - HT.sIx items.size 0 lo) == items.size)=true then _ else _) _ _ s
 rw [if_pos hyes]
 refine wpAny_bind (wpAny_bind (wpAny_typeOf ht.typeIs (wpAny_pure ?_)))
 rw [if_pos (by decide)]
 first
  | exact wpAny_bind (wpAny_pure (wpAny_pure ⟨_,rfl,wpAny_pure h⟩))
  | exact wpAny_bind (wpAny_rule (wpAny_pure ⟨_,rfl,wpAny_pure h⟩))
  | (wp_step;wp_step;exact ⟨_,rfl,wpAny_pure h⟩)
noncomputable def rSlW (K:PySem.W.Frag):V->Option Int->Option Int->Hp->VK->Prop := fun x lo hi H Q => ∃a xs,x=.ref a/\SqT K H a xs /\
 (HT.sIx xs.length 0 lo=0/\HT.sIx xs.length xs.length hi=xs.length)/\Q (.ref a) H
theorem zgx:SlR X (rSlW X.K) := by
 intro pins s σ H x v vl vu lo hi sl Q I rx hs pl pu h
 obtain ⟨a,xs,rfl,hx,hw,q⟩ := h
 cases rx
 obtain ⟨its,r,ht,hz⟩ := I.tuple hx
 have hlen:its.toArray.size=xs.length := by rw [List.size_toArray];exact r.length.symm
 refine ⟨"tuple",_,PyProof.Rows.slot_tuple_getitem.lookup,ht.typeIs,?_⟩
 exact za6 ht hs pl pu (by rw [hlen];exact hw) ⟨.ref a,H,I,rfl,q⟩
noncomputable def rSlS:V->Option Int->Option Int->Hp->VK->Prop := fun x lo hi H Q => ∃y:Str,x=.str y/\y.length<=sizeLine/\Q (.str ⟨((y.cps.toList.drop (HT.sIx y.cps.toList.length 0 lo)).take (HT.sIx y.cps.toList.length y.cps.toList.length hi - HT.sIx y.cps.toList.length 0 lo)).toArray⟩) H
theorem sIdx (lo hi:Option Int)(n:Nat):Builtin.Str.strSliceIndices lo hi 1 n=sliceRange ((HT.sIx n 0 lo:Nat):Int) ((HT.sIx n n hi:Nat):Int) 1 := by
 unfold Builtin.Str.strSliceIndices
 simp only [show (1:Int) > 0 by decide,if_true]
 congr 1
 ·cases lo with
  |none => simp [HT.sIx]
  |some i =>
   simp only [HT.sIx]
   by_cases h:i<0
   ·simp only [h,if_true] <;> omega
   ·simp only [h,if_false] <;> omega
 ·cases hi with
  |none => simp [HT.sIx]
  |some i =>
   simp only [HT.sIx]
   by_cases h:i<0
   ·simp only [h,if_true] <;> omega
   ·simp only [h,if_false] <;> omega
theorem ze8 (y:Str)(lo hi:Option Int):Txt.slice y lo hi=⟨((y.cps.toList.drop (HT.sIx y.cps.toList.length 0 lo)).take (HT.sIx y.cps.toList.length y.cps.toList.length hi - HT.sIx y.cps.toList.length 0 lo)).toArray⟩ := by
 have hn:y.length=y.cps.toList.length := by simp [Str.length]
 unfold Txt.slice
 rw [sIdx,hn,sliceRange_one]
 have ha := HT.sIx_le y.cps.toList.length 0 (Nat.zero_le _) lo
 have hb := HT.sIx_le y.cps.toList.length y.cps.toList.length (Nat.le_refl _) hi
 generalize HT.sIx y.cps.toList.length 0 lo=a at *
 generalize HT.sIx y.cps.toList.length y.cps.toList.length hi=b at *
 split
 ·rename_i c
  simp only [List.length_map,List.length_range,Bool.and_eq_true,beq_iff_eq] at c
  obtain ⟨rfl,rfl⟩:a=0/\b=y.cps.toList.length := by omega
  rw [List.drop_zero,Nat.sub_zero,List.take_length]
 ·rw [pick_run]
theorem ziv:SlR X rSlS := by
 intro pins s σ H x v vl vu lo hi sl Q I rx hs pl pu h
 obtain ⟨y,rfl,hz,q⟩ := h
 obtain ⟨t,rfl⟩ := rx
 rw [<- ze8] at q
 refine ⟨"str",_,PySem.F.slot_str_getitem.lookup,typeIs_str _ _ _,?_⟩
 have go:∀l u:Option (Int×Tok),vl=partValue l->vu=partValue u->lo=l.map (·.1)->hi=u.map (·.1)->wpAny (model X.prog X.w) X.A (getItem (.str y t) (.ref sl)) (EP X pins σ Q) X.xe s := by
  rintro l u rfl rfl rfl rfl
  refine wpAny_getItem_str_slice (l := l) (u := u) (st := none) hs rfl ?_
  exact post_val_or_str ⟨Nat.le_trans (Txt.slice_le y _ _) hz,fun t' k => ⟨.str _,H,I.tok k,⟨_,rfl⟩,q⟩⟩
 cases pl with
 |none =>
  cases pu with
  |none => exact go none none rfl rfl rfl rfl
  |int j u => exact go none (some (j,u)) rfl rfl rfl rfl
 |int i t1 =>
  cases pu with
  |none => exact go (some (i,t1)) none rfl rfl rfl rfl
  |int j u => exact go (some (i,t1)) (some (j,u)) rfl rfl rfl rfl
theorem ziC:SlR X (rSl S X) := by
 rintro pins s σ H x v vl vu lo hi sl Q I rx hs pl pu ⟨B,φ,st,w,z,rs,rw,e,q⟩
 have e1:∀n o,loOf n o=HT.sIx n 0 o := fun n o => by cases o <;> rfl
 have e2:∀n o,hiOf n o=HT.sIx n n o := fun n o => by cases o <;> rfl
 cases w with
 |tp k vs =>
  simp only [slcO] at e
  split at e
  ·rename_i c
   cases e
   have rw' := rw
   simp only [RepV] at rw
   obtain ⟨p,xs,rfl,rt,l⟩ := rw
   refine zgx pins s σ H _ v vl vu lo hi sl Q I rx hs pl pu ⟨p,xs,rfl,rt.sq,?_,q _ H φ .rfl rs rw'⟩
   rw [l.length,e1,e2] at c
   exact c
  ·rename_i c
   cases e
   simp only [RepV] at rw
   obtain ⟨p,xs,rfl,rt,l⟩ := rw
   refine zj2 pins s σ H _ v vl vu lo hi sl Q I rx hs pl pu ⟨p,xs,rfl,rt.sq,?_,fun t ht => q _ _ φ (.upd ht) (rs.upd ht) (.tup_new ht rs (l.cut lo hi))⟩
   rw [l.length,e1,e2] at c
   exact c
 |str y =>
  simp only [slcO] at e
  split at e
  ·rename_i c
   cases e
   simp only [RepV] at rw
   subst rw
   refine ziv pins s σ H _ v vl vu lo hi sl Q I rx hs pl pu ⟨y,rfl,by rw [<- zK];exact c,?_⟩
   have := q (.str ⟨(cut y.cps.toList lo hi).toArray⟩) H φ .rfl rs (by simp only [RepV])
   rw [cut,e1,e2] at this
   exact this
  ·cases e
 |lst vs =>
  simp only [slcO] at e
  cases e
  simp only [RepV] at rw
  obtain ⟨p,xs,rfl,rt,l⟩ := rw
  exact zfY pins s σ H _ v vl vu lo hi sl Q I rx hs pl pu ⟨p,xs,rfl,rt.sq,fun t ht => q _ _ φ (.upd ht) (rs.upd ht) (.lst_new ht rs (l.cut lo hi))⟩
 |scr vs =>
  simp only [slcO] at e
  cases e
  simp only [RepV] at rw
  obtain ⟨p,xs,rfl,rt,l⟩ := rw
  exact zfY pins s σ H _ v vl vu lo hi sl Q I rx hs pl pu ⟨p,xs,rfl,(by rcases rt with rt|rt;exact .inl rt.1;exact .inr rt),fun t ht => q _ _ φ (.upd ht) (rs.upd ht) (.lst_new ht rs (l.cut lo hi))⟩
 |_ => cases e
theorem zjM {lo hi:Option Expr}(ha:PE X a (tE S X ca))(hl:PO X lo (tO S X cb))(hh:PO X hi (tO S X cc)):PE X (.Subscript a (.Slice lo hi none p2) pos) (tE S X (.slc ca cb cc)) :=
 (zhg ziC ha hl hh).imp fun σ H Q ⟨B,φ,st,ρ,rs,re,h⟩ => by
  simp only [ev] at h
  have oi:∀{v:PV} {x:V} {o:Option Int} {B φ H},RepV X.K S.cl B φ H v x->optI v=some o->(x=.non/\o=none) \/ ∃i,x=.int i/\o=some i := fun {v x o B φ H} r e => by
   cases v with
   |non => simp only [RepV] at r;cases e;exact .inl ⟨r,rfl⟩
   |int i => simp only [RepV] at r;cases e;exact .inr ⟨i,r,rfl⟩
   |_ => cases e
  refine tE.bind rs re h fun x H1 v st1 φ1 s1 rs1 re1 rv h1 => tE.bind rs1 re1 h1 fun y H2 w st2 φ2 s2 rs2 re2 rw h2 => ?_
  cases eo:optI w with
  |none => rw [eo] at h2;exact h2.elim
  |some o1 =>
   rw [eo] at h2
   have key:tO S X cc σ H2 fun u H3 => rSl S X x o1 u H3 Q := by
    refine tE.bind rs2 re2 h2 fun y' H3 w' st3 φ3 s3 rs3 re3 rw' h3 => ?_
    obtain ⟨z,e,q⟩ := zac h3 rs3
    unfold slcV at e
    cases eo':optI w' with
    |none => rw [eo'] at e;cases e
    |some o2 =>
     rw [eo'] at e
     have fin:rSl S X x o1 o2 H3 Q := ⟨B,φ3,st3,v,z,rs3,(rv.step s2).step s3,e,q⟩
     rcases oi rw' eo' with ⟨rfl,rfl⟩|⟨i,rfl,rfl⟩
     ·exact .inl ⟨rfl,fin⟩
     ·exact .inr ⟨i,rfl,fin⟩
   rcases oi rw eo with ⟨rfl,rfl⟩|⟨i,rfl,rfl⟩
   ·exact .inl ⟨rfl,key⟩
   ·exact .inr ⟨i,rfl,key⟩
theorem zgz {lo hi:Option Expr}(ha:KqE X a (tE S X ca))(hl:KqO X lo (tO S X cb))(hh:KqO X hi (tO S X cc)):KqE X (.Subscript a (.Slice lo hi none p2) pos) (tE S X (.slc ca cb cc)) := by with_unfolding_all exact zjM ha hl hh
end
section
variable {S:Se}{X:Cx}{σ:St}{B:Addr->Prop}{φ φ1:Ph}{H H1:Hp}{st:Store}{ρ:IC.Env}{p pos p2:Pos}{a b c d:Expr}{ca cb cc:Ce}{es:List Expr}{ces:Ces}{K:PySem.W.Frag}{cl:Nat->Addr}
noncomputable def rB (S:Se)(X:Cx)(k:Blt):List V->Hp->VK->Prop := fun xs H Q => ∃B φ st vs z,RepS X.K S.cl B φ H st/\RepL X.K S.cl B φ H vs xs/\bltV k st vs=some z /\
 ∀z' H' φ',Step φ H φ' H'->RepS X.K S.cl B φ' H' st->RepV X.K S.cl B φ' H' z z'->Q z' H'
theorem RepL.one {v:PV}{xs:List V}(l:RepL K cl B φ H [v] xs):∃x,xs=[x]/\RepV K cl B φ H v x := by
 simp only [RepL] at l
 obtain ⟨y,ys,rfl,r,rfl⟩ := l
 exact ⟨y,rfl,r⟩
theorem RepL.two {v w:PV}{xs:List V}(l:RepL K cl B φ H [v,w] xs):∃x y,xs=[x,y]/\RepV K cl B φ H v x/\RepV K cl B φ H w y := by
 simp only [RepL] at l
 obtain ⟨y,ys,rfl,r,z,zs,rfl,r2,rfl⟩ := l
 exact ⟨y,z,rfl,r,r2⟩
theorem zbx {k:Blt}{st:Store}{vs:List PV}{z:PV}(h:bltV k st vs=some z)(h2:∀x y,bltV k st [x,y]=none):∃x,vs=[x] := by
 match vs,h with
 | [x],_ => exact ⟨x,rfl⟩
 | [x,y],h => rw [h2] at h;cases h
theorem zcg {v:PV}{x:V}{vs:List PV}(rs:RepS K cl B φ H st)(r:RepV K cl B φ H v x)(h:lstOf st v=some vs):∃a xs,x=.ref a/\SqL K H a xs/\RepL K cl B φ H vs xs := by
 cases v with
 |lst ws =>
  cases h
  simp only [RepV] at r
  obtain ⟨a,xs,rfl,rt,l⟩ := r
  exact ⟨a,xs,rfl,rt.sq,l⟩
 |loc n =>
  simp only [lstOf] at h
  split at h
  ·rename_i ws hw
   cases h
   obtain ⟨a,xs,rfl,_,hx,l⟩ := rs.list r hw
   exact ⟨a,xs,rfl,.of hx,l⟩
  ·cases h
 |_ => cases h
theorem zfl {v:PV}{x:V}{vs:List PV}(rs:RepS K cl B φ H st)(r:RepV K cl B φ H v x)(h:seqOf st v=some vs):∃a xs,x=.ref a/\(SqL K H a xs \/ SqT K H a xs)/\RepL K cl B φ H vs xs := by
 cases v with
 |tp k ws =>
  cases h
  simp only [RepV] at r
  obtain ⟨a,xs,rfl,rt,l⟩ := r
  exact ⟨a,xs,rfl,.inr rt.sq,l⟩
 |lst ws =>
  obtain ⟨a,xs,e,q,l⟩ := zcg rs r (vs := vs) h
  exact ⟨a,xs,e,.inl q,l⟩
 |loc n =>
  obtain ⟨a,xs,e,q,l⟩ := zcg rs r (vs := vs) h
  exact ⟨a,xs,e,.inl q,l⟩
 |_ => cases h
theorem zcw:CallR X (.builtin "len") (rB S X .len) := by
 rintro pins s σ H xs us Q I r ⟨B,φ,st,vs,z,rs,l,e,q⟩
 obtain ⟨v,rfl⟩ := zbx e fun _ _ => rfl
 obtain ⟨x,rfl,rv⟩ := l.one
 simp only [bltV,lenV] at e
 split at e
 ·rename_i t
  split at e
  ·rename_i c
   cases e
   simp only [RepV] at rv
   subst rv
   exact zdo pins s σ H _ us Q I r ⟨t,rfl,by rw [<- zK];exact c,q _ H φ .rfl rs (by simp only [RepV])⟩
  ·cases e
 ·cases e1:seqOf st v with
  |none => rw [e1] at e;cases e
  |some ws =>
   rw [e1] at e
   cases e
   obtain ⟨a,ys,rfl,h,l⟩ := zfl rs rv e1
   refine zdc pins s σ H _ us Q I r ⟨a,ys,rfl,?_,q _ H φ .rfl rs (by simp only [RepV];rw [l.length])⟩
   exact h
theorem zf6:CallR X (.type "int") (rB S X .int) := by
 rintro pins s σ H xs us Q I r ⟨B,φ,st,vs,z,rs,l,e,q⟩
 obtain ⟨v,rfl⟩ := zbx e fun _ _ => rfl
 obtain ⟨x,rfl,rv⟩ := l.one
 simp only [bltV] at e
 cases v with
 |int i =>
  cases e
  simp only [RepV] at rv
  subst rv
  exact zdi pins s σ H _ us Q I r (.inl ⟨i,rfl,q _ H φ .rfl rs (by simp only [RepV])⟩)
 |bl k =>
  cases e
  simp only [RepV] at rv
  subst rv
  exact zdi pins s σ H _ us Q I r (.inr ⟨k,rfl,q _ H φ .rfl rs (by simp only [RepV,bi])⟩)
 |_ => cases e
theorem RepL.ints:∀{ns:List Int} {xs:List V},RepL K cl B φ H (ns.map .int) xs->xs=ns.map V.int
 | [],xs,h => by simpa only [List.map_nil,RepL] using h
 |n::ns,xs,h => by
  simp only [List.map_cons,RepL] at h
  obtain ⟨y,ys,rfl,r,l⟩ := h
  simp only [RepV] at r
  rw [r,RepL.ints l]
  rfl
theorem RepL.bls:∀{ns:List Bool} {xs:List V},RepL K cl B φ H (ns.map .bl) xs->xs=ns.map V.bl
 | [],xs,h => by simpa only [List.map_nil,RepL] using h
 |n::ns,xs,h => by
  simp only [List.map_cons,RepL] at h
  obtain ⟨y,ys,rfl,r,l⟩ := h
  simp only [RepV] at r
  rw [r,RepL.bls l]
  rfl
theorem zel:CallR X (.type "tuple") (rB S X .tuple) := by
 rintro pins s σ H xs us Q I r ⟨B,φ,st,vs,z,rs,l,e,q⟩
 obtain ⟨v,rfl⟩ := zbx e fun _ _ => rfl
 obtain ⟨x,rfl,rv⟩ := l.one
 simp only [bltV,tupV] at e
 split at e
 ·cases e
  simp only [RepV] at rv
  obtain ⟨a,ys,rfl,rt,l⟩ := rv
  exact zbc pins s σ H _ us Q I r ⟨a,ys,rfl,.inr ⟨rt.sq,q _ H φ .rfl rs (by simp only [RepV];exact ⟨a,ys,rfl,rt,l⟩)⟩⟩
 ·cases e1:lstOf st v with
  |none => rw [e1] at e;cases e
  |some ws =>
   rw [e1] at e
   cases e
   obtain ⟨a,ys,rfl,h,l⟩ := zcg rs rv e1
   exact zbc pins s σ H _ us Q I r ⟨a,ys,rfl,.inl ⟨h,fun t ht => q _ _ φ (.upd ht) (rs.upd ht) (.tup_new ht rs l)⟩⟩
theorem zfc:CallR X (.type "list") (rB S X .list) := by
 rintro pins s σ H xs us Q I r ⟨B,φ,st,vs,z,rs,l,e,q⟩
 obtain ⟨v,rfl⟩ := zbx e fun _ _ => rfl
 obtain ⟨x,rfl,rv⟩ := l.one
 simp only [bltV] at e
 cases e1:seqOf st v with
 |none => rw [e1] at e;cases e
 |some ws =>
  rw [e1] at e
  cases e
  obtain ⟨a,ys,rfl,h,l⟩ := zfl rs rv e1
  refine zbB pins s σ H _ us Q I r ⟨a,ys,rfl,?_,fun t ht => q _ _ φ (.upd ht) (rs.upd ht) (.lst_new ht rs l)⟩
  exact h
theorem zhC:∀{vs:List PV} {m:Bool},IC.allB vs=some m->∃ns:List Bool,vs=ns.map .bl/\m=ns.all id
 | [],m,h => by cases h;exact ⟨[],rfl,rfl⟩
 | .bl i::r,m,h => by
  simp only [IC.allB] at h
  split at h
  ·rename_i c e
   cases h
   obtain ⟨ns,e1,e2⟩ := zhC e
   exact ⟨i::ns,by rw [e1];rfl,by rw [e2];rfl⟩
  ·cases h
 | .non::r,m,h => by cases h
 | .int _::r,m,h => by cases h
 | .str _::r,m,h => by cases h
 | .tp _ _::r,m,h => by cases h
 | .lst _::r,m,h => by cases h
 | .loc _::r,m,h => by cases h
 | .exn _::r,m,h => by cases h
 | .scr _::r,m,h => by cases h
theorem zjT (hc:X.calm=true):CallR X (.builtin "all") (rB S X .all) := by
 rintro pins s σ H xs us Q I r ⟨B,φ,st,vs,z,rs,l,e,q⟩
 obtain ⟨v,rfl⟩ := zbx e fun _ _ => rfl
 obtain ⟨x,rfl,rv⟩ := l.one
 simp only [bltV] at e
 cases e1:lstOf st v with
 |none => rw [e1] at e;cases e
 |some ws =>
  rw [e1] at e
  simp only [Option.bind_some] at e
  cases e2:IC.allB ws with
  |none => rw [e2] at e;cases e
  |some m =>
   rw [e2] at e
   cases e
   obtain ⟨ns,rfl,rfl⟩ := zhC e2
   obtain ⟨a,ys,rfl,h,l⟩ := zcg rs rv e1
   rw [l.bls] at h
   exact zgQ hc pins s σ H _ us Q I r ⟨a,ns,rfl,h,q _ H φ .rfl rs (by simp only [RepV])⟩
variable {x:Str}{id T:String}{k:Blt}
theorem zi3 (hc:CallR X (.builtin id) (rB S X k))(hg:Gl X x)(hm:X.mg x=none)(hv:bootBuiltins x=some (.builtin id))(ha:PA X (a::es) (tAs S X ces))(hn:x ≠ "__name__" := by decide)(hdb:(x == ("__debug__":Str))=false := by decide)
  (he:starEach (a::es) X.env=(false,eval a X.env)::starEach es X.env := by rfl) (hpl:(backTo pos (starEach es X.env)).any (·.1)=false := by rfl):PE X (.Call (.Name x p) (a::es) [] pos) (tE S X (.blt k ces)) :=
 (zcG hc hg hm hv ha hn hdb he hpl).imp fun σ H Q ⟨B,φ,st,ρ,rs,re,h⟩ => by
  simp only [ev] at h
  refine tAs.bind rs re h fun xs H1 vs st1 φ1 s1 rs1 re1 rv h1 => ?_
  obtain ⟨z,e,q⟩ := zac h1 rs1
  exact ⟨B,φ1,st1,vs,z,rs1,rv,e,q⟩
theorem zao (hc:CallR X (.builtin id) (rB S X k))(hg:Gl X x)(hm:X.mg x=none)(hv:bootBuiltins x=some (.builtin id))(ha:KqA X (a::es) (tAs S X ces))(hn:x ≠ "__name__" := by decide)(hdb:(x == ("__debug__":Str))=false := by decide)
  (he:starEach (a::es) X.env=(false,eval a X.env)::starEach es X.env := by rfl) (hpl:(backTo pos (starEach es X.env)).any (·.1)=false := by rfl):KqE X (.Call (.Name x p) (a::es) [] pos) (tE S X (.blt k ces)) := by with_unfolding_all exact zi3 hc hg hm hv ha hn hdb he hpl
theorem zhI (hc:CallR X (.type T) (rB S X k))(hg:Gl X x)(hm:X.mg x=none)(hv:bootBuiltins x=some (.type T))(ha:PA X (a::es) (tAs S X ces))(hn:x ≠ "__name__" := by decide)(hdb:(x == ("__debug__":Str))=false := by decide)
  (he:starEach (a::es) X.env=(false,eval a X.env)::starEach es X.env := by rfl) (hpl:(backTo pos (starEach es X.env)).any (·.1)=false := by rfl):PE X (.Call (.Name x p) (a::es) [] pos) (tE S X (.blt k ces)) :=
 (zdk hc hg hm hv ha hn hdb he hpl).imp fun σ H Q ⟨B,φ,st,ρ,rs,re,h⟩ => by
  simp only [ev] at h
  refine tAs.bind rs re h fun xs H1 vs st1 φ1 s1 rs1 re1 rv h1 => ?_
  obtain ⟨z,e,q⟩ := zac h1 rs1
  exact ⟨B,φ1,st1,vs,z,rs1,rv,e,q⟩
theorem z7 (hc:CallR X (.type T) (rB S X k))(hg:Gl X x)(hm:X.mg x=none)(hv:bootBuiltins x=some (.type T))(ha:KqA X (a::es) (tAs S X ces))(hn:x ≠ "__name__" := by decide)(hdb:(x == ("__debug__":Str))=false := by decide)
  (he:starEach (a::es) X.env=(false,eval a X.env)::starEach es X.env := by rfl) (hpl:(backTo pos (starEach es X.env)).any (·.1)=false := by rfl):KqE X (.Call (.Name x p) (a::es) [] pos) (tE S X (.blt k ces)) := by with_unfolding_all exact zhI hc hg hm hv ha hn hdb he hpl
end
section
variable {S:Se}{X:Cx}{σ:St}{B:Addr->Prop}{φ φ1:Ph}{H H1:Hp}{st:Store}{ρ:IC.Env}{p pos p2 apos:Pos}{a b c d:Expr}{ca cb cc:Ce}{es:List Expr}{ces:Ces}{K:PySem.W.Frag}{cl:Nat->Addr}
theorem Step.put {l:Addr}{u:HO}(hl:some l∈φ):Step φ H φ (L2.upd H l u) :=
 ⟨fun b o n e => by rw [zp (show b≠l from fun z => n (by rw [z];exact hl))];exact e,Nat.le_refl _,fun _ _ _ e => e,fun _ h => .inl h⟩
theorem RepS.put {n:Nat}{l:Addr}{u:HO}{o:Ob}(rs:RepS K cl B φ H st)(hn:φ[n]?=some (some l))(ho:RepO K cl B φ (L2.upd H l u) o l):RepS K cl B φ (L2.upd H l u) (st.set n o) := by
 have hm:some l∈φ := List.mem_of_getElem? hn
 have s:Step φ H φ (L2.upd H l u) := .put hm
 have hlt:n<st.length := by rw [<- rs.len];exact (List.getElem?_eq_some_iff.mp hn).1
 refine ⟨by rw [List.length_set];exact rs.len,rs.inj,fun m a e => ?_,fun m o' e ho' => ?_,rs.nb,fun a h => ?_⟩
 ·by_cases hmn:m=n
  ·subst hmn
   rw [hn] at e;cases e
   exact ⟨o,by rw [List.getElem?_set_self hlt],ho⟩
  ·obtain ⟨o',q,r⟩ := rs.obj m a e
   refine ⟨o',by rw [List.getElem?_set_ne (Ne.symm hmn)];exact q,r.step s ?_⟩
   rw [zp]
   rintro rfl
   exact hmn (rs.inj m n a e hn)
 ·by_cases hmn:m=n
  ·subst hmn
   exact ⟨l,hn⟩
  ·rw [List.getElem?_set_ne (Ne.symm hmn)] at e
   exact rs.liv m o' e ho'
 ·obtain ⟨w,e⟩ := rs.dom a h
  by_cases z:a=l
  ·subst z;exact ⟨u,zH⟩
  ·exact ⟨w,by rw [zp z];exact e⟩
theorem zfk {m:Mth}{v:PV}{st:Store}{α β:Type}{Rel:Ph->Hp->α->β->Prop}{k:Bool->R α}{Q:β->Hp->Prop}(h:Run S X σ B φ H Rel (onO (mthOk m st v) k) Q):∃b,mthOk m st v=some b/\Run S X σ B φ H Rel (k b) Q := by
 cases e:mthOk m st v with
 |none => rw [e] at h;exact h.elim
 |some z => rw [e] at h;exact ⟨z,rfl,h⟩
end
section
variable (S:Se)(X:Cx)
def RunF (B:Addr->Prop)(φ:Ph)(H:Hp)(f:Fl)(D:Ends):Prop :=
 match f with
 | .nx ρ' st' => ∀σ' H' φ',Step φ H φ' H'->RepS X.K S.cl B φ' H' st'->RepE X.K S.cl B φ' H' ρ' σ'->D.nx σ' H'
 | .rt v st' => ∀x H' φ',Step φ H φ' H'->RepS X.K S.cl B φ' H' st'->RepV X.K S.cl B φ' H' v x->D.rt x H'
 | .bk ρ' st' => ∀σ' H' φ',Step φ H φ' H'->RepS X.K S.cl B φ' H' st'->RepE X.K S.cl B φ' H' ρ' σ'->D.bk σ' H'
 | .ct ρ' st' => ∀σ' H' φ',Step φ H φ' H'->RepS X.K S.cl B φ' H' st'->RepE X.K S.cl B φ' H' ρ' σ'->D.ct σ' H'
 | .exc k ρ' st' => ∀σ' φ1 H1 e s',Step φ H φ1 H1->RepE X.K S.cl B φ1 H1 ρ' σ'->ExcAt S X σ' B φ1 H1 k st' e s'->X.xe e s'
 | .bad => False
noncomputable def tS (c:Cs):TS := fun D σ H => ∃B φ st ρ,RepS X.K S.cl B φ H st/\RepE X.K S.cl B φ H ρ σ/\RunF S X B φ H (ex S.call ρ st c) D
noncomputable def tSs (c:Css):TS := fun D σ H => ∃B φ st ρ,RepS X.K S.cl B φ H st/\RepE X.K S.cl B φ H ρ σ/\RunF S X B φ H (exs S.call ρ st c) D
end
section
variable {S:Se}{X:Cx}{σ:St}{B:Addr->Prop}{φ φ1:Ph}{H H1:Hp}{st:Store}{ρ:IC.Env}{D:Ends}{pos p2 px:Pos}{a b c o:Expr}{ca cb cc:Ce}{s1:Stmt}{ss ss':List Stmt}{c1:Cs}{cs cs':Css}
theorem RunF.on {f:Fl}(s:Step φ H φ1 H1)(h:RunF S X B φ H f D):RunF S X B φ1 H1 f D := by
 cases f with
 |nx ρ st => exact fun σ' H' φ' t => h σ' H' φ' (s.trans t)
 |rt ρ st => exact fun σ' H' φ' t => h σ' H' φ' (s.trans t)
 |bk ρ st => exact fun σ' H' φ' t => h σ' H' φ' (s.trans t)
 |ct ρ st => exact fun σ' H' φ' t => h σ' H' φ' (s.trans t)
 |exc k ρ st => exact fun σ' φ2 H2 e s' t => h σ' φ2 H2 e s' (s.trans t)
 |bad => exact h
theorem tE.fl {k:PV->Store->Fl}{P:V->Hp->Prop}(rs:RepS X.K S.cl B φ H st)(re:RepE X.K S.cl B φ H ρ σ)(h:RunF S X B φ H ((ev S.call ρ st ca).fl ρ k) D)
  (n:∀x H1 v st1 φ1,Step φ H φ1 H1->RepS X.K S.cl B φ1 H1 st1->RepE X.K S.cl B φ1 H1 ρ σ->RepV X.K S.cl B φ1 H1 v x->RunF S X B φ1 H1 (k v st1) D->P x H1):tE S X ca σ H P := by
 refine ⟨B,φ,st,ρ,rs,re,?_⟩
 cases e:ev S.call ρ st ca with
 |ok v st' =>
  rw [e] at h
  exact fun x H' φ' s rs' rv => n x H' v st' φ' s rs' (re.step s) rv (h.on s)
 |exc k st' =>
  rw [e] at h
  exact fun e s' x => h σ φ H e s' .rfl re x
 |bad => rw [e] at h;exact h
theorem PS.imp {t t':TS}(h:PS X s1 t')(k:∀D σ H,t D σ H->t' D σ H):PS X s1 t := fun pins s σ H D I q => h pins s σ H D I (k D σ H q)
theorem PSs.imp {t t':TS}(h:PSs X ss t')(k:∀D σ H,t D σ H->t' D σ H):PSs X ss t := fun pins s σ H D I q => h pins s σ H D I (k D σ H q)
theorem RepE.set {K:PySem.W.Frag}{cl:Nat->Addr}(r:RepE K cl B φ H ρ σ)(i:Nat){v:PV}{x:V}(rv:RepV K cl B φ H v x):RepE K cl B φ H (ρ.set i (some v)) (σ.set i (some x)) := by
 refine ⟨by rw [List.length_set,List.length_set];exact r.len,fun j w e => ?_⟩
 by_cases h:j=i
 ·subst h
  by_cases hl:j<ρ.length
  ·rw [List.getElem?_set_self hl] at e
   cases e
   exact ⟨x,by rw [List.getElem?_set_self (by rw [<- r.len];exact hl)],rv⟩
  ·rw [List.getElem?_eq_none (by rw [List.length_set];omega)] at e
   cases e
 ·rw [List.getElem?_set_ne (Ne.symm h)] at e ⊢
  exact r.get j w e
theorem ziL:PSs X [] (tSs S X .nil) := pss_nil.imp fun D σ H ⟨B,φ,st,ρ,rs,re,h⟩ => by
 simp only [exs] at h
 exact h σ H φ .rfl rs re
theorem zf:KqSs X [] (tSs S X .nil) := by with_unfolding_all exact ziL
theorem zit (h1:PS X s1 (tS S X c1))(h2:PSs X ss (tSs S X cs)):PSs X (s1::ss) (tSs S X (.cons c1 cs)) :=
 (zdV h1 h2).imp fun D σ H ⟨B,φ,st,ρ,rs,re,h⟩ => by
  simp only [exs] at h
  refine ⟨B,φ,st,ρ,rs,re,?_⟩
  cases e:ex S.call ρ st c1 with
  |nx ρ1 st1 =>
   rw [e] at h
   exact fun σ' H' φ' s rs' re' => ⟨B,φ',st1,ρ1,rs',re',h.on s⟩
  |rt v st1 => rw [e] at h;exact h
  |bk ρ1 st1 => rw [e] at h;exact h
  |ct ρ1 st1 => rw [e] at h;exact h
  |exc k ρ1 st1 => rw [e] at h;exact h
  |bad => rw [e] at h;exact h
theorem zb (h1:KqS X s1 (tS S X c1))(h2:KqSs X ss (tSs S X cs)):KqSs X (s1::ss) (tSs S X (.cons c1 cs)) := by with_unfolding_all exact zit h1 h2
theorem zix (he:PE X a (tE S X ca))(hs:swapsWith a none pos.line X.env=pure false := by rfl):PS X (.Expr a pos) (tS S X (.expr ca)) :=
 (ziB he hs).imp fun D σ H ⟨B,φ,st,ρ,rs,re,h⟩ => by
  simp only [ex] at h
  exact tE.fl rs re h fun x H1 v st1 φ1 s rs1 re1 rv h1 => h1 σ H1 φ1 .rfl rs1 re1
theorem zbV (he:KqE X a (tE S X ca))(hs:swapsWith a none pos.line X.env=pure false := by rfl):KqS X (.Expr a pos) (tS S X (.expr ca)) := by with_unfolding_all exact zix he hs
theorem zj3 (he:PE X a (tE S X ca)):PS X (.Return (some a) pos) (tS S X (.ret ca)) :=
 (zhm he).imp fun D σ H ⟨B,φ,st,ρ,rs,re,h⟩ => by
  simp only [ex] at h
  exact tE.fl rs re h fun x H1 v st1 φ1 s rs1 re1 rv h1 => h1 x H1 φ1 .rfl rs1 rv
theorem zj (he:KqE X a (tE S X ca)):KqS X (.Return (some a) pos) (tS S X (.ret ca)) := by with_unfolding_all exact zj3 he
theorem zjg {i:Nat}{x:Str}(hN:X.N.Nodup)(hi:X.N[i]?=some x)(hx:Loc X.env.scope x)(he:PE X a (tE S X ca))(hs:swapsWith a (some (.Name x px)) pos.line X.env=pure false := by rfl)
  (hf:X.fn x=true \/ X.env.scope.names.lookup x=some .local := by first|exact .inl rfl|exact .inr rfl|assumption):PS X (.Assign [.Name x px] a pos) (tS S X (.asg (.n i) ca)) :=
 (zhv hN hi hx he hs hf).imp fun D σ H ⟨B,φ,st,ρ,rs,re,h⟩ => by
  simp only [ex] at h
  exact tE.fl rs re h fun x H1 v st1 φ1 s rs1 re1 rv h1 => h1 _ H1 φ1 .rfl rs1 (re1.set i rv)
theorem zw {i:Nat}{x:Str}(hN:X.N.Nodup)(hi:X.N[i]?=some x)(hx:Loc X.env.scope x)(he:KqE X a (tE S X ca))(hs:swapsWith a (some (.Name x px)) pos.line X.env=pure false := by rfl)
  (hf:X.fn x=true \/ X.env.scope.names.lookup x=some .local := by first|exact .inl rfl|exact .inr rfl|assumption):KqS X (.Assign [.Name x px] a pos) (tS S X (.asg (.n i) ca)) := by with_unfolding_all exact zjg hN hi hx he hs hf
theorem flT (r:R PV)(f:Bool->Store->Fl):(r.fl ρ fun x st1 => onF (truV st1 x) fun k => f k st1)=(truR r).fl ρ f := by
 cases r with
 |ok v s =>
  simp only [R.fl,truR,R.bind]
  cases truV s v <;> rfl
 |exc c s => rfl
 |bad => rfl
theorem tTs.fl {k:Bool->Store->Fl}{P:Bool->Hp->Prop}(rs:RepS X.K S.cl B φ H st)(re:RepE X.K S.cl B φ H ρ σ)(h:RunF S X B φ H ((truR (ev S.call ρ st ca)).fl ρ k) D)
  (n:∀b H1 st1 φ1,Step φ H φ1 H1->RepS X.K S.cl B φ1 H1 st1->RepE X.K S.cl B φ1 H1 ρ σ->RunF S X B φ1 H1 (k b st1) D->P b H1):tTs S X ca σ H P := by
 refine ⟨B,φ,st,ρ,rs,re,?_⟩
 cases e:truR (ev S.call ρ st ca) with
 |ok v st' =>
  rw [e] at h
  exact fun x H' φ' s rs' rv => by
   subst rv
   exact n v H' st' φ' s rs' (re.step s) (h.on s)
 |exc k st' =>
  rw [e] at h
  exact fun e s' x => h σ φ H e s' .rfl re x
 |bad => rw [e] at h;exact h
theorem zkd (hc:PT X c (tTs S X cc))(ha:PSs X ss (tSs S X cs))(hb:PSs X ss' (tSs S X cs')):PS X (.If c ss ss' pos) (tS S X (.ite cc cs cs')) :=
 (zkf hc ha hb).imp fun D σ H ⟨B,φ,st,ρ,rs,re,h⟩ => by
  simp only [ex] at h
  rw [flT _ fun k st1 => cond k (exs S.call ρ st1 cs) (exs S.call ρ st1 cs')] at h
  refine tTs.fl rs re h fun k H1 st1 φ1 s rs1 re1 h1 => ?_
  cases k with
  |true => exact ⟨B,φ1,st1,ρ,rs1,re1,h1⟩
  |false => exact ⟨B,φ1,st1,ρ,rs1,re1,h1⟩
theorem zD (hc:KqT X c (tTs S X cc))(ha:KqSs X ss (tSs S X cs))(hb:KqSs X ss' (tSs S X cs')):KqS X (.If c ss ss' pos) (tS S X (.ite cc cs cs')) := by with_unfolding_all exact zkd hc ha hb
theorem zi1 {i:Nat}{x:Str}{op:Operator}{bo:BOp}(hN:X.N.Nodup)(hi:X.N[i]?=some x)(hx:Loc X.env.scope x)(he:PE X a (tE S X ca))(ho:PIp X op (rT2 S X (augV bo)))
  (hf:X.fn x=true \/ X.env.scope.names.lookup x=some .local := by first|exact .inl rfl|exact .inr rfl|assumption) (hd:(x == ("__debug__":Str))=false := by decide) (hcd:(x == ("__classdict__":Str))=false := by decide):PS X (.AugAssign (.Name x px) op a pos) (tS S X (.aug i bo ca)) :=
 (zjE hN hi hx he ho hf).imp fun D σ H ⟨B,φ,st,ρ,rs,re,h⟩ => by
  simp only [ex] at h
  cases q:ρ[i]? with
  |none => rw [q] at h;exact h.elim
  |some w =>
   cases w with
   |none => rw [q] at h;exact h.elim
   |some w =>
    rw [q] at h
    obtain ⟨y,hy,rw⟩ := re.get i w q
    refine ⟨y,hy,tE.fl rs re h fun z H1 v st1 φ1 s rs1 re1 rv h1 => ?_⟩
    cases e:augV bo w v with
    |none => rw [e] at h1;exact h1.elim
    |some u =>
     rw [e] at h1
     exact ⟨B,φ1,st1,w,v,u,rs1,rw.step s,rv,e,fun z' H' φ' s' rs' rz => h1 _ H' φ' s' rs' ((re1.step s').set i rz)⟩
theorem zgY {i:Nat}{x:Str}{op:Operator}{bo:BOp}(hN:X.N.Nodup)(hi:X.N[i]?=some x)(hx:Loc X.env.scope x)(he:KqE X a (tE S X ca))(ho:PIp X op (rT2 S X (augV bo)))
  (hf:X.fn x=true \/ X.env.scope.names.lookup x=some .local := by first|exact .inl rfl|exact .inr rfl|assumption) (hd:(x == ("__debug__":Str))=false := by decide) (hcd:(x == ("__classdict__":Str))=false := by decide):KqS X (.AugAssign (.Name x px) op a pos) (tS S X (.aug i bo ca)) := by with_unfolding_all exact zi1 hN hi hx he ho hf hd hcd
end
section
variable (S:Se)(X:Cx)
structure Drw (B:Addr->Prop)(φ0:Ph)(H0:Hp)(xs:List PV)(J:It):Prop where
 stop:∀φ H,Step φ0 H0 φ H->J.stop xs.length H
 go:∀(i:Nat) φ H,Step φ0 H0 φ H->i<xs.length->J.go i H
 yld:∀(i:Nat) φ H st x H' (B':Addr->Prop),(∀y,B' y->B y \/ H0 y=none)->Step φ0 H0 φ H->RepS X.K S.cl B' φ H st->i<xs.length->J.yld i H x H'->∃v,xs[i]?=some v/\RepV X.K S.cl B' φ H' v x/\∀b o,H b=some o->H' b=some o
noncomputable abbrev RD (B:Addr->Prop):Ph->Hp->List PV->It->Prop := fun φ H => Drw S X B φ H
noncomputable def tI (c:Cit):TI := fun σ H R => ∃B φ st ρ,RepS X.K S.cl B φ H st/\RepE X.K S.cl B φ H ρ σ/\Run S X σ B φ H (RD S X B) (evi S.call ρ st c) R
end
section
variable {S:Se}{X:Cx}{σ:St}{B:Addr->Prop}{φ φ1:Ph}{H H1:Hp}{st:Store}{ρ:IC.Env}{D:Ends}{pos p p2 px:Pos}{a b c o tg l:Expr}{ca cb cc:Ce}{es:List Expr}{ces:Ces}{ss:List Stmt}{cs:Css}{ci:Cit}{ct:Tg}
theorem zia {s1:Stmt}:PS X s1 (tS S X .nope) := fun pins s σ H D I ⟨B,φ,st,ρ,rs,re,h⟩ => by
 simp only [ex] at h
 exact h.elim
theorem zaD {s1:Stmt}:KqS X s1 (tS S X .nope) := by with_unfolding_all exact zia
theorem PI.imp {t t':TI}(h:PI X tg l t')(k:∀σ H R,t σ H R->t' σ H R):PI X tg l t := fun pins s σ H R I q => h pins s σ H R I (k σ H R q)
theorem zhs {tl:TE}(hl:PE X l tl):PI X tg l (fun σ H R => tl σ H fun x H1 => ∃a,x=.ref a/\(((∃xs,SqL X.K H1 a xs)/\R (Itl X.K a) H1) \/ ((∃xs,SqT X.K H1 a xs)/\R (Itt X.K a) H1))) := by
 intro pins s σ H R I h
 refine thn (hl pins s σ H _ I h) fun v s1 ⟨x,H1,I1,r1,q1⟩ => ?_
 obtain ⟨a,e,q1⟩ := q1
 subst e
 cases r1
 rcases q1 with ⟨⟨xs,hq⟩,q⟩|⟨⟨xs,hq⟩,q⟩
 ·obtain ⟨its,rv,p,hz⟩ := I1.list hq
  refine wpAny_pyIter_list p.isList ?_
  refine ⟨s1.heap.objs.size,[s1.heap.objs.size],_,_,H1,rfl,I1.kept (t' := s1.toks) fun b o e => Heap.get?_push_of_some _ e,ze4 a _,⟨_,Heap.get?_push_size _ rfl,rfl,rfl⟩,fun b hb => ?_,q⟩
  have e:b=s1.heap.objs.size := by simpa using hb
  subst e
  exact I1.fpOk (Nat.le_refl _) (I1.hok.fresh (Nat.le_refl _))
 ·obtain ⟨its,rv,p,hz⟩ := I1.tuple hq
  refine wpAny_pyIter_tuple (show s1.heap.IsTuple a its.toArray from p) ?_
  refine ⟨s1.heap.objs.size,[s1.heap.objs.size],_,_,H1,rfl,I1.kept (t' := s1.toks) fun b o e => Heap.get?_push_of_some _ e,zeD a _,⟨_,Heap.get?_push_size _ rfl,rfl,rfl⟩,fun b hb => ?_,q⟩
  have e:b=s1.heap.objs.size := by simpa using hb
  subst e
  exact I1.fpOk (Nat.le_refl _) (I1.hok.fresh (Nat.le_refl _))
theorem zfU {k:Bool}{vs:List PV}{xs:List V}{y:Addr}(rt:RTup X.K B φ H k y xs)(l:RepL X.K S.cl B φ H vs xs):Drw S X B φ H vs (Itt X.K y) := by
 have hl := l.length
 refine ⟨fun φ' H' s => ⟨xs,(rt.step s).sq,by omega⟩,fun i φ' H' s hi => ⟨xs,xs[i]'(by omega),(rt.step s).sq,by simp [show i<xs.length by omega]⟩,fun i φ' H' st x H2 B' hB s rs hi q => ?_⟩
 obtain ⟨rfl,q⟩ := q
 obtain ⟨v,hv⟩:∃v,vs[i]?=some v := ⟨vs[i],by simp [hi]⟩
 obtain ⟨x',hx',rv⟩ := l.get i hv
 have := q xs (rt.step s).sq
 rw [this] at hx'
 cases hx'
 exact ⟨v,hv,(rv.moreB hB).step s,fun _ _ e => e⟩
theorem zfP {vs:List PV}{xs:List V}{y:Addr}(rt:RLst B φ H y xs)(l:RepL X.K S.cl B φ H vs xs):Drw S X B φ H vs (Itl X.K y) := by
 have hl := l.length
 refine ⟨fun φ' H' s => ⟨xs,(rt.step s).sq,by omega⟩,fun i φ' H' s hi => ⟨xs,xs[i]'(by omega),(rt.step s).sq,by simp [show i<xs.length by omega]⟩,fun i φ' H' st x H2 B' hB s rs hi q => ?_⟩
 obtain ⟨rfl,q⟩ := q
 obtain ⟨v,hv⟩:∃v,vs[i]?=some v := ⟨vs[i],by simp [hi]⟩
 obtain ⟨x',hx',rv⟩ := l.get i hv
 have := q xs (rt.step s).sq
 rw [this] at hx'
 cases hx'
 exact ⟨v,hv,(rv.moreB hB).step s,fun _ _ e => e⟩
theorem zj7 (hl:PE X l (tE S X ca)):PI X tg l (tI S X (.seq ca)) :=
 (zhs hl).imp fun σ H R ⟨B,φ,st,ρ,rs,re,h⟩ => by
  simp only [evi] at h
  refine tE.bind rs re h fun x H1 v st1 φ1 s1 rs1 re1 rv h1 => ?_
  cases v with
  |tp k vs =>
   simp only [RepV] at rv
   obtain ⟨y,xs,rfl,rt,l⟩ := rv
   exact ⟨y,rfl,.inr ⟨⟨xs,rt.sq⟩,h1.ok rs1 (zfU rt l)⟩⟩
  |lst vs =>
   simp only [RepV] at rv
   obtain ⟨y,xs,rfl,rt,l⟩ := rv
   exact ⟨y,rfl,.inl ⟨⟨xs,rt.sq⟩,h1.ok rs1 (zfP rt l)⟩⟩
  |_ => exact h1.elim
theorem zeh (hl:KqE X l (tE S X ca)):KqI X tg l (tI S X (.seq ca)) := by with_unfolding_all exact zj7 hl
theorem zcz:∀(n:Nat) (lo d:Int) (i:Nat),(rangeL n lo d)[i]?=if i<n then some (.int (lo+i*d)) else none
 |0,lo,d,i => by simp [rangeL]
 |n+1,lo,d,0 => by simp [rangeL]
 |n+1,lo,d,i+1 => by
  simp only [rangeL,List.getElem?_cons_succ]
  rw [zcz n (lo+d) d i]
  by_cases h:i<n
  ·rw [if_pos h,if_pos (by omega),Int.natCast_succ,Int.add_mul,Int.one_mul,Int.add_assoc,Int.add_comm d]
  ·rw [if_neg h,if_neg (by omega)]
theorem zaO:∀(n:Nat) (lo d:Int),(rangeL n lo d).length=n
 |0,lo,d => rfl
 |n+1,lo,d => by simp [rangeL,zaO n]
theorem zfo {lo:Int}{n:Nat}:Drw S X B φ H (rangeL n lo 1) (Itr lo n) := by
 refine ⟨fun φ' H' s => by rw [zaO];exact Nat.le_refl _,fun i φ' H' s hi => by rw [zaO] at hi;exact hi,fun i φ' H' st x H2 B' hB s rs hi q => ?_⟩
 rw [zaO] at hi
 obtain ⟨rfl,rfl⟩ := q
 refine ⟨.int (lo+i),?_,by simp only [RepV],fun _ _ e => e⟩
 rw [zcz,if_pos hi,Int.mul_one]
theorem zh4 {o:Option (List PV)}{st:Store}{Q:It->Hp->Prop}(h:Run S X σ B φ H (RD S X B) (toL o st) Q):∃xs,o=some xs/\Run S X σ B φ H (RD S X B) (.ok xs st) Q := by
 cases o with
 |none => exact h.elim
 |some z => exact ⟨z,rfl,h⟩
theorem zeP (hg:Gl X "range")(hm:X.mg "range"=none)(ha:PE X a (tE S X ca))(hs:starEach [a] X.env=[(false,eval a X.env)] := by rfl):PI X tg (.Call (.Name "range" p) [a] [] pos) (tI S X (.range1 ca)) :=
 (zgb hg hm (zba ha pa_nil hs) hs).imp fun σ H R ⟨B,φ,st,ρ,rs,re,h⟩ => by
  simp only [evi] at h
  refine tE.bind rs re h fun x H1 v st1 φ1 s1 rs1 re1 rv h1 => ?_
  obtain ⟨xs,e,h1⟩ := zh4 h1
  cases v with
  |int j =>
   simp only [rng1] at e
   split at e
   ·cases e
    simp only [RepV] at rv
    subst rv
    exact ⟨j,rfl,by omega,by omega,h1.ok rs1 zfo⟩
   ·cases e
  |_ => cases e
theorem zca (hg:Gl X "range")(hm:X.mg "range"=none)(ha:KqE X a (tE S X ca))(hs:starEach [a] X.env=[(false,eval a X.env)] := by rfl):KqI X tg (.Call (.Name "range" p) [a] [] pos) (tI S X (.range1 ca)) := by with_unfolding_all exact zeP hg hm ha hs
theorem zb1:∀(xs:List PV) (k i:Nat),(pairsUp k xs)[i]?=(xs[i]?).map fun x => .tup [.int ((k+i:Nat):Int),x]
 | [],k,i => by simp [pairsUp]
 |x::xs,k,0 => by simp [pairsUp]
 |x::xs,k,i+1 => by
  simp only [pairsUp,List.getElem?_cons_succ]
  rw [zb1 xs (k+1) i]
  have:k+1+i=k+(i+1) := by omega
  rw [this]
theorem zb2:∀(xs:List PV) (k:Nat),(pairsUp k xs).length=xs.length
 | [],k => rfl
 |x::xs,k => by simp [pairsUp,zb2 xs]
theorem zgV {k:Bool}{vs:List PV}{xs:List V}{y:Addr}(rt:RTup X.K B φ H k y xs)(l:RepL X.K S.cl B φ H vs xs):Drw S X B φ H (pairsUp 0 vs) (Ite X.K y) := by
 have hl := l.length
 have hp := zb2 vs 0
 refine ⟨fun φ' H' s => ⟨xs,(rt.step s).sq,by omega⟩,fun i φ' H' s hi => ⟨xs,xs[i]'(by omega),(rt.step s).sq,by simp [show i<xs.length by omega]⟩,fun i φ' H' st x H2 B' hB s rs hi q => ?_⟩
 obtain ⟨T,hT,rfl,q⟩ := q
 obtain ⟨v,hv⟩:∃v,vs[i]?=some v := ⟨vs[i]'(by omega),by simp [show i<vs.length by omega]⟩
 obtain ⟨x',hx',rv⟩ := l.get i hv
 have e := q xs x' (rt.step s).sq hx'
 subst e
 refine ⟨.tup [.int i,v],?_,.tup_new hT rs ?_,fun b o e => by rw [zp (zx e hT)];exact e⟩
 ·rw [zb1,hv]
  simp
 ·simp only [RepL,RepV]
  exact ⟨_,_,rfl,rfl,x',[],rfl,(rv.moreB hB).step s,rfl⟩
theorem zii {es:List Expr}{kk:Nat}{tp:Pos}(hg:Gl X "enumerate")(hm:X.mg "enumerate"=none)(ha:PE X a (tE S X ca))(hs:starEach [a] X.env=[(false,eval a X.env)] := by rfl) :
  PI X (.Tuple es kk tp) (.Call (.Name "enumerate" p) [a] [] pos) (tI S X (.enum ca)) :=
 (zgD hg hm (zba ha pa_nil hs) hs).imp fun σ H R ⟨B,φ,st,ρ,rs,re,h⟩ => by
  simp only [evi] at h
  refine tE.bind rs re h fun x H1 v st1 φ1 s1 rs1 re1 rv h1 => ?_
  cases v with
  |tp k vs =>
   simp only [RepV] at rv
   obtain ⟨y,xs,rfl,rt,l⟩ := rv
   exact ⟨y,rfl,⟨xs,rt.sq⟩,h1.ok rs1 (zgV rt l)⟩
  |_ => exact h1.elim
theorem zfp {es:List Expr}{kk:Nat}{tp:Pos}(hg:Gl X "enumerate")(hm:X.mg "enumerate"=none)(ha:KqE X a (tE S X ca))(hs:starEach [a] X.env=[(false,eval a X.env)] := by rfl) :
  KqI X (.Tuple es kk tp) (.Call (.Name "enumerate" p) [a] [] pos) (tI S X (.enum ca)) := by with_unfolding_all exact zii hg hm ha hs
noncomputable def tG (S:Se)(X:Cx)(t:Tg):TG := fun v σ H Q => ∃B φ st ρ w ρ',RepS X.K S.cl B φ H st/\RepE X.K S.cl B φ H ρ σ/\RepV X.K S.cl B φ H w v/\bindT t w ρ=some ρ'/\∀σ',RepE X.K S.cl B φ H ρ' σ'->Q σ' H
theorem PG.imp {t t':TG}(h:PG X tg t')(k:∀v σ H Q,t v σ H Q->t' v σ H Q):PG X tg t := fun pins s σ H v u Q I rv q => h pins s σ H v u Q I rv (k v σ H Q q)
theorem zhZ {i:Nat}{x:Str}(hN:X.N.Nodup)(hi:X.N[i]?=some x)(hx:Loc X.env.scope x)(hf:X.fn x=true \/ X.env.scope.names.lookup x=some .local := by first|exact .inl rfl|exact .inr rfl|assumption):PG X (.Name x pos) (tG S X (.n i)) :=
 (zeR hN hi hx hf).imp fun v σ H Q ⟨B,φ,st,ρ,w,ρ',rs,re,rv,e,q⟩ => by
  cases e
  exact q _ (re.set i rv)
theorem zaj {i:Nat}{x:Str}(hN:X.N.Nodup)(hi:X.N[i]?=some x)(hx:Loc X.env.scope x)(hf:X.fn x=true \/ X.env.scope.names.lookup x=some .local := by first|exact .inl rfl|exact .inr rfl|assumption):KqG X (.Name x pos) (tG S X (.n i)) := by with_unfolding_all exact zhZ hN hi hx hf
noncomputable def gNs (l:List Nat):TGs := fun vs σ H Q => vs.length=l.length/\Q ((l.zip vs).foldl (fun σ p => σ.set p.1 (some p.2)) σ) H
theorem PGs.imp {es:List Expr}{t t':TGs}(h:PGs X es t')(k:∀v σ H Q,t v σ H Q->t' v σ H Q):PGs X es t := fun pins s σ H vs us Q I rv q => h pins s σ H vs us Q I rv (k vs σ H Q q)
theorem zh1:PGs X [] (gNs []) := pgs_nil.imp fun vs σ H Q ⟨h,q⟩ => by
 cases vs with
 |nil => exact ⟨rfl,q⟩
 |cons _ _ => cases h
theorem zaA:KqGs X [] (gNs []) := by with_unfolding_all exact zh1
theorem zgi {es:List Expr}{l:List Nat}{i:Nat}{x:Str}(hN:X.N.Nodup)(hi:X.N[i]?=some x)(hx:Loc X.env.scope x)(h2:PGs X es (gNs l))(hf:X.fn x=true \/ X.env.scope.names.lookup x=some .local := by first|exact .inl rfl|exact .inr rfl|assumption):PGs X (.Name x pos::es) (gNs (i::l)) :=
 (zg2 (zeR hN hi hx hf) h2).imp fun vs σ H Q ⟨h,q⟩ => by
  cases vs with
  |nil => cases h
  |cons v vs => exact ⟨v,vs,rfl,by simpa using h,q⟩
theorem zG {es:List Expr}{l:List Nat}{i:Nat}{x:Str}(hN:X.N.Nodup)(hi:X.N[i]?=some x)(hx:Loc X.env.scope x)(h2:KqGs X es (gNs l))(hf:X.fn x=true \/ X.env.scope.names.lookup x=some .local := by first|exact .inl rfl|exact .inr rfl|assumption):KqGs X (.Name x pos::es) (gNs (i::l)) := by with_unfolding_all exact zgi hN hi hx h2 hf
theorem RepE.sets {K:PySem.W.Frag}{cl:Nat->Addr}:∀(l:List Nat) {vs:List PV} {xs:List V} {ρ:IC.Env} {σ:St},RepE K cl B φ H ρ σ->RepL K cl B φ H vs xs ->
  RepE K cl B φ H ((l.zip vs).foldl (fun ρ p => ρ.set p.1 (some p.2)) ρ) ((l.zip xs).foldl (fun σ p => σ.set p.1 (some p.2)) σ)
 | [],vs,xs,ρ,σ,re,l => by simpa using re
 |i::is,[],xs,ρ,σ,re,l => by
  simp only [RepL] at l
  subst l
  simpa using re
 |i::is,v::vs,xs,ρ,σ,re,l => by
  simp only [RepL] at l
  obtain ⟨y,ys,rfl,r,l⟩ := l
  simp only [List.zip_cons_cons,List.foldl_cons]
  exact RepE.sets is (re.set i r) l
theorem zi6 {es:List Expr}{l:List Nat}{k:Nat}(hc:X.calm=true)(h:PGs X es (gNs l))(hn:(assignEach es X.env).length=l.length := by rfl)(hst:(assignEach es X.env).findIdx? (·.1)=none := by rfl):PG X (.Tuple es k pos) (tG S X (.t l)) :=
 (zje hc h hn hst).imp fun v σ H Q ⟨B,φ,st,ρ,w,ρ',rs,re,rv,e,q⟩ => by
  cases w with
  |tp kk vs =>
   simp only [bindT] at e
   split at e
   ·rename_i c
    cases e
    simp only [RepV] at rv
    obtain ⟨y,xs,rfl,rt,lr⟩ := rv
    have hl := lr.length
    exact ⟨y,xs,rfl,rt.sq,by omega,by omega,q _ (RepE.sets l re lr)⟩
   ·cases e
  |_ => cases e
theorem zbh {es:List Expr}{l:List Nat}{k:Nat}(hc:X.calm=true)(h:KqGs X es (gNs l))(hn:(assignEach es X.env).length=l.length := by rfl)(hst:(assignEach es X.env).findIdx? (·.1)=none := by rfl):KqG X (.Tuple es k pos) (tG S X (.t l)) := by with_unfolding_all exact zi6 hc h hn hst
theorem zhY {es:List Expr}{l:List Nat}{k:Nat}(he:PE X a (tE S X ca))(hg:PG X (.Tuple es k p2) (tG S X (.t l)))(hs:swapsWithSole [.Tuple es k p2] a pos.line X.env=pure false := by rfl)(hw:swappedStores [.Tuple es k p2] a X.env=pure none := by rfl) :
  PS X (.Assign [.Tuple es k p2] a pos) (tS S X (.asg (.t l) ca)) :=
 (zhi he hg hs hw).imp fun D σ H ⟨B,φ,st,ρ,rs,re,h⟩ => by
  simp only [ex] at h
  refine tE.fl rs re h fun x H1 v st1 φ1 s rs1 re1 rv h1 => ?_
  cases e:bindT (.t l) v ρ with
  |none => rw [e] at h1;exact h1.elim
  |some ρ' =>
   rw [e] at h1
   exact ⟨B,φ1,st1,ρ,v,ρ',rs1,re1,rv,e,fun σ' re' => h1 σ' H1 φ1 .rfl rs1 re'⟩
theorem zbo {es:List Expr}{l:List Nat}{k:Nat}(he:KqE X a (tE S X ca))(hg:KqG X (.Tuple es k p2) (tG S X (.t l)))(hs:swapsWithSole [.Tuple es k p2] a pos.line X.env=pure false := by rfl)(hw:swappedStores [.Tuple es k p2] a X.env=pure none := by rfl) :
  KqS X (.Assign [.Tuple es k p2] a pos) (tS S X (.asg (.t l) ca)) := by with_unfolding_all exact zhY he hg hs hw
theorem tI.fl {k:List PV->Store->Fl}{P:It->Hp->Prop}(rs:RepS X.K S.cl B φ H st)(re:RepE X.K S.cl B φ H ρ σ)(h:RunF S X B φ H ((evi S.call ρ st ci).fl ρ k) D)
  (n:∀x H1 v st1 φ1,Step φ H φ1 H1->RepS X.K S.cl B φ1 H1 st1->RepE X.K S.cl B φ1 H1 ρ σ->Drw S X B φ1 H1 v x->RunF S X B φ1 H1 (k v st1) D->P x H1):tI S X ci σ H P := by
 refine ⟨B,φ,st,ρ,rs,re,?_⟩
 cases e:evi S.call ρ st ci with
 |ok v st' =>
  rw [e] at h
  exact fun x H' φ' s rs' rv => n x H' v st' φ' s rs' (re.step s) rv (h.on s)
 |exc k st' =>
  rw [e] at h
  exact fun e s' x => h σ φ H e s' .rfl re x
 |bad => rw [e] at h;exact h
theorem zjp (hp:PassesOwn (model X.prog X.w) X.A X.env X.xe)(hc:X.calm=true)(hi:PI X tg l (tI S X ci))(hg:PG X tg (tG S X ct))(hb:PSs X ss (tSs S X cs))(hs:∀x,foldedSetIterable l X.env x=pure x := by intro _;rfl) :
  PS X (.For tg l ss [] pos) (tS S X (.for ct ci cs)) :=
 (zho hp hc hi hg hb hs).imp fun D σ H ⟨B,φ,st,ρ,rs,re,h⟩ => by
  simp only [ex] at h
  refine tI.fl rs re h fun J H1 xs st1 φ1 s1 rs1 re1 dr h1 => ?_
  refine ⟨fun i m σ H => ∃φ st ρ,i+m=xs.length/\Step φ1 H1 φ H/\RepS X.K S.cl B φ H st/\RepE X.K S.cl B φ H ρ σ/\RunF S X B φ H (forL ct (fun ρ2 st2 => exs S.call ρ2 st2 cs) (xs.drop i) ρ st) D,
   ⟨xs.length,φ1,st1,ρ,by omega,.rfl,rs1,re1,by simpa using h1⟩,?_⟩
  rintro i m σ2 H2 ⟨φ2,st2,ρ2,hm,s2,rs2,re2,h2⟩
  by_cases hi:i<xs.length
  ·refine .inr ⟨dr.go i φ2 H2 s2 hi,fun σ' H' => ∃φ st ρ,Step φ1 H1 φ H'/\RepS X.K S.cl B φ H' st/\RepE X.K S.cl B φ H' ρ σ'/\RunF S X B φ H' (forL ct (fun ρ2 st2 => exs S.call ρ2 st2 cs) (xs.drop (i+1)) ρ st) D,
    fun σ' H' ⟨φ,st,ρ,s,q⟩ => ⟨m - 1,by omega,φ,st,ρ,by omega,s,q⟩,fun x H3 hy => ?_⟩
   obtain ⟨v,hv,rv,kk⟩ := dr.yld i φ2 H2 st2 x H3 B (fun _ z => .inl z) s2 rs2 hi hy
   have e:xs.drop i=v::xs.drop (i+1) := by
    rw [List.drop_eq_getElem_cons hi]
    rw [List.getElem?_eq_getElem hi] at hv
    rw [Option.some.inj hv]
   have s3:Step φ2 H2 φ2 H3 := ⟨fun b o _ e => kk b o e,Nat.le_refl _,fun _ _ _ e => e,fun _ h => .inl h⟩
   have rs3:RepS X.K S.cl B φ2 H3 st2 := rs2.same kk
   rw [e,forL] at h2
   cases eb:bindT ct v ρ2 with
   |none => rw [eb] at h2;exact h2.elim
   |some ρ3 =>
    rw [eb] at h2
    refine ⟨B,φ2,st2,ρ2,v,ρ3,rs3,re2.step s3,rv,eb,fun σ' re' => ⟨B,φ2,st2,ρ3,rs3,re',?_⟩⟩
    have h3 := RunF.on s3 h2
    dsimp only at h3
    cases ee:exs S.call ρ3 st2 cs with
    |nx ρ4 st4 =>
     rw [ee] at h3
     exact fun σ4 H4 φ4 s4 rs4 re4 => ⟨φ4,st4,ρ4,s2.trans (s3.trans s4),rs4,re4,RunF.on s4 h3⟩
    |ct ρ4 st4 =>
     rw [ee] at h3
     exact fun σ4 H4 φ4 s4 rs4 re4 => ⟨φ4,st4,ρ4,s2.trans (s3.trans s4),rs4,re4,RunF.on s4 h3⟩
    |bk ρ4 st4 => rw [ee] at h3;exact h3
    |rt v4 st4 => rw [ee] at h3;exact h3
    |exc k ρ4 st4 => rw [ee] at h3;exact h3
    |bad => rw [ee] at h3;exact h3
  ·have e:i=xs.length := by omega
   subst e
   rw [List.drop_length,forL] at h2
   exact .inl ⟨dr.stop φ2 H2 s2,h2 σ2 H2 φ2 .rfl rs2 re2⟩
theorem zc4 (hp:PassesOwn (model X.prog X.w) X.A X.env X.xe)(hc:X.calm=true)(hi:KqI X tg l (tI S X ci))(hg:KqG X tg (tG S X ct))(hb:KqSs X ss (tSs S X cs))(hs:∀x,foldedSetIterable l X.env x=pure x := by intro _;rfl) :
  KqS X (.For tg l ss [] pos) (tS S X (.for ct ci cs)) := by with_unfolding_all exact zjp hp hc hi hg hb hs
theorem zgZ (hp:PassesOwn (model X.prog X.w) X.A X.env X.xe)(hc:PT X c (tTs S X cc))(hb:PSs X ss (tSs S X cs)):PS X (.While c ss [] pos) (tS S X (.while cc cs)) :=
 (zgJ hp hc hb).imp fun D σ H ⟨B,φ,st,ρ,rs,re,h⟩ => by
  simp only [ex] at h
  refine ⟨fun m σ H => ∃φ st ρ,RepS X.K S.cl B φ H st/\RepE X.K S.cl B φ H ρ σ/\RunF S X B φ H (whileL (fun ρ2 st2 => ev S.call ρ2 st2 cc) (fun ρ2 st2 => exs S.call ρ2 st2 cs) m ρ st) D,⟨100000,φ,st,ρ,rs,re,h⟩,?_⟩
  rintro m σ2 H2 ⟨φ2,st2,ρ2,rs2,re2,h2⟩
  cases m with
  |zero => exact h2.elim
  |succ m =>
   rw [whileL] at h2
   rw [flT _ fun k st1 => cond k (againF (exs S.call ρ2 st1 cs) fun ρ2 st2 => whileL (fun ρ2 st2 => ev S.call ρ2 st2 cc) (fun ρ2 st2 => exs S.call ρ2 st2 cs) m ρ2 st2) (.nx ρ2 st1)] at h2
   refine tTs.fl rs2 re2 h2 fun k H3 st3 φ3 s3 rs3 re3 h3 => ?_
   cases k with
   |false => exact h3 σ2 H3 φ3 .rfl rs3 re3
   |true =>
    refine ⟨fun σ' H' => ∃φ st ρ,RepS X.K S.cl B φ H' st/\RepE X.K S.cl B φ H' ρ σ'/\RunF S X B φ H' (whileL (fun ρ2 st2 => ev S.call ρ2 st2 cc) (fun ρ2 st2 => exs S.call ρ2 st2 cs) m ρ st) D,
     fun σ' H' q => ⟨m,by omega,q⟩,B,φ3,st3,ρ2,rs3,re3,?_⟩
    simp only [cond_true] at h3
    cases ee:exs S.call ρ2 st3 cs with
    |nx ρ4 st4 =>
     rw [ee] at h3
     exact fun σ4 H4 φ4 s4 rs4 re4 => ⟨φ4,st4,ρ4,rs4,re4,RunF.on s4 h3⟩
    |ct ρ4 st4 =>
     rw [ee] at h3
     exact fun σ4 H4 φ4 s4 rs4 re4 => ⟨φ4,st4,ρ4,rs4,re4,RunF.on s4 h3⟩
    |bk ρ4 st4 => rw [ee] at h3;exact h3
    |rt v4 st4 => rw [ee] at h3;exact h3
    |exc k ρ4 st4 => rw [ee] at h3;exact h3
    |bad => rw [ee] at h3;exact h3
theorem zeN (hp:PassesOwn (model X.prog X.w) X.A X.env X.xe)(hc:KqT X c (tTs S X cc))(hb:KqSs X ss (tSs S X cs)):KqS X (.While c ss [] pos) (tS S X (.while cc cs)) := by with_unfolding_all exact zgZ hp hc hb
end
section
variable (S:Se)(K:PySem.W.Frag)
def Run0 {α β:Type}(B:Addr->Prop)(φ:Ph)(H:Hp)(Rel:Ph->Hp->α->β->Prop)(r:R α)(Q:β->Hp->Prop):Prop :=
 match r with
 | .ok v st' => ∀x H' φ',Step φ H φ' H'->RepS K S.cl B φ' H' st'->Rel φ' H' v x->Q x H'
 |_ => False
noncomputable def tE0 (c:Ce):TE := fun σ H Q => ∃B φ st ρ,RepS K S.cl B φ H st/\RepE K S.cl B φ H ρ σ/\Run0 S K B φ H (fun φ H => RepV K S.cl B φ H) (ev S.call ρ st c) Q
noncomputable def tT0 (c:Ce):TT := fun σ H Q => ∃B φ st ρ,RepS K S.cl B φ H st/\RepE K S.cl B φ H ρ σ/\Run0 S K B φ H RB (truR (ev S.call ρ st c)) Q
noncomputable def tG0 (t:Tg):TG := fun v σ H Q => ∃B φ st ρ w ρ',RepS K S.cl B φ H st/\RepE K S.cl B φ H ρ σ/\RepV K S.cl B φ H w v/\bindT t w ρ=some ρ'/\∀σ',RepE K S.cl B φ H ρ' σ'->Q σ' H
end
section
variable {S:Se}{X:Cx}{K:PySem.W.Frag}{cl:Nat->Addr}{σ:St}{B:Addr->Prop}{φ φ1:Ph}{H H1:Hp}{st:Store}{ρ:IC.Env}{pos p p2 px:Pos}{a b c o tg l elt iter:Expr}{ca cb cc ce:Ce}{ci:Cit}{ct:Tg}
theorem zeY (hK:X.K=K)(h:PE X a (tE S X ca)):PE X a (tE0 S K ca) := by
 subst hK
 refine h.imp fun σ H Q ⟨B,φ,st,ρ,rs,re,q⟩ => ⟨B,φ,st,ρ,rs,re,?_⟩
 cases e:ev S.call ρ st ca with
 |ok v st' => rw [e] at q;exact q
 |exc k st' => rw [e] at q;exact q.elim
 |bad => rw [e] at q;exact q
theorem zc8 (hK:X.K=K)(h:KqE X a (tE S X ca)):KqE X a (tE0 S K ca) := by with_unfolding_all exact zeY hK h
theorem zgI:PTs X [] (tT0 S K (.cst (.bl true))) := fun pins s σ H Q I ⟨B,φ,st,ρ,rs,re,q⟩ => by
 refine zhM pins s σ H Q I ?_
 simp only [ev,truR,R.bind,truV,onO] at q
 exact q true H φ .rfl rs rfl
theorem zcs:KqTs X [] (tT0 S K (.cst (.bl true))) := by with_unfolding_all exact zgI
theorem zhT (hK:X.K=K)(h:PG X tg (tG S X ct)):PG X tg (tG0 S K ct) := by
 subst hK
 exact h
theorem zda (hK:X.K=K)(h:KqG X tg (tG S X ct)):KqG X tg (tG0 S K ct) := by with_unfolding_all exact zhT hK h
theorem RTup.skip {k:Bool}{D y:Addr}{u:HO}{xs:List V}(hD:B D)(r:RTup K B φ H k y xs):RTup K B φ (L2.upd H D u) k y xs := by
 rcases r with ⟨r,b,n⟩|r
 ·exact .inl ⟨by rw [zp (show y≠D from fun z => b (z ▸ hD))];exact r,b,n⟩
 ·exact .inr r
mutual
theorem RepV.skip {D:Addr}{u:HO}(hD:B D):∀(v:PV) (x:V),RepV K cl B φ H v x->RepV K cl B φ (L2.upd H D u) v x
 | .non,x,h => by simp only [RepV] at h ⊢;exact h
 | .bl b,x,h => by simp only [RepV] at h ⊢;exact h
 | .int i,x,h => by simp only [RepV] at h ⊢;exact h
 | .str y,x,h => by simp only [RepV] at h ⊢;exact h
 | .tp k vs,x,h => by
  simp only [RepV] at h ⊢
  obtain ⟨y,xs,e,r,l⟩ := h
  exact ⟨y,xs,e,r.skip hD,RepL.skip hD vs xs l⟩
 | .lst vs,x,h => by
  simp only [RepV] at h ⊢
  obtain ⟨y,xs,e,⟨r,b,n⟩,l⟩ := h
  exact ⟨y,xs,e,⟨by rw [zp (show y≠D from fun z => b (z ▸ hD))];exact r,b,n⟩,RepL.skip hD vs xs l⟩
 | .loc n,x,h => by simp only [RepV] at h ⊢;exact h
 | .exn c,x,h => by
  simp only [RepV] at h ⊢
  obtain ⟨y,e,r,b,n⟩ := h
  exact ⟨y,e,by rw [zp (show y≠D from fun z => b (z ▸ hD))];exact r,b,n⟩
 | .scr vs,x,h => by
  simp only [RepV] at h ⊢
  obtain ⟨y,xs,e,r,l⟩ := h
  refine ⟨y,xs,e,?_,RepL.skip hD vs xs l⟩
  rcases r with ⟨r,b,n⟩|r
  ·refine .inl ⟨?_,b,n⟩
   have ne:y≠D := fun z => b (z ▸ hD)
   rcases r with r|⟨o,r⟩
   ·exact .inl (by rw [zp ne];exact r)
   ·exact .inr ⟨o,by rw [zp ne];exact r⟩
  ·exact .inr r
theorem RepL.skip {D:Addr}{u:HO}(hD:B D):∀(v:List PV) (x:List V),RepL K cl B φ H v x->RepL K cl B φ (L2.upd H D u) v x
 | [],x,h => by simp only [RepL] at h ⊢;exact h
 |v::vs,x,h => by
  simp only [RepL] at h ⊢
  obtain ⟨y,ys,e,r,l⟩ := h
  exact ⟨y,ys,e,RepV.skip hD v y r,RepL.skip hD vs ys l⟩
end
theorem DK.skip {D:Addr}{u:HO}(hD:B D):∀{kvs:List (PV×PV)} {ks:List (Key×V)},DK K cl B φ H kvs ks->DK K cl B φ (L2.upd H D u) kvs ks
 | [],ks,h => h
 | (k,v)::r,ks,h => by
  obtain ⟨q,x,t,e,m,rv,l⟩ := h
  exact ⟨q,x,t,e,m,rv.skip hD,DK.skip hD l⟩
theorem DT.skip {D:Addr}{u:HO}(hD:B D):∀{kvs:List (PV×PV)} {ks:List (List Key×V)},DT K cl B φ H kvs ks->DT K cl B φ (L2.upd H D u) kvs ks
 | [],ks,h => h
 | (k,v)::r,ks,h => by
  obtain ⟨q,x,t,e,m,rv,l⟩ := h
  exact ⟨q,x,t,e,m,rv.skip hD,DT.skip hD l⟩
theorem FS.skip {D:Addr}{u:HO}(hD:B D):∀{kvs:List (Str×PV)} {ks:List (Str×V)},FS K cl B φ H kvs ks->FS K cl B φ (L2.upd H D u) kvs ks
 | [],ks,h => h
 | (k,v)::r,ks,h => by
  obtain ⟨x,t,e,rv,l⟩ := h
  exact ⟨x,t,e,rv.skip hD,FS.skip hD l⟩
theorem RepS.skip {D:Addr}{u:HO}(hD:B D)(rs:RepS K cl B φ H st):RepS K cl B φ (L2.upd H D u) st := by
 refine ⟨rs.len,rs.inj,fun n y e => ?_,rs.liv,rs.nb,fun y h => ?_⟩
 ·obtain ⟨o,q,r⟩ := rs.obj n y e
  have ne:y≠D := fun z => rs.nb y (List.mem_of_getElem? e) (z ▸ hD)
  refine ⟨o,q,?_⟩
  cases o with
  |lst vs =>
   obtain ⟨xs,hx,l⟩ := r
   exact ⟨xs,by rw [zp ne];exact hx,l.skip hD⟩
  |dct t kvs =>
   cases t with
   |false =>
    obtain ⟨xs,hx,l⟩ := r
    exact ⟨xs,by rw [zp ne];exact hx,l.skip hD⟩
   |true =>
    obtain ⟨xs,hx,l⟩ := r
    exact ⟨xs,by rw [zp ne];exact hx,l.skip hD⟩
  |ins c fs =>
   obtain ⟨ks,⟨dx,hx⟩,l⟩ := r
   exact ⟨ks,⟨dx,by rw [zp ne];exact hx⟩,l.skip hD⟩
  |dead => exact r.elim
 ·by_cases z:y=D
  ·subst z;exact ⟨u,zH⟩
  ·obtain ⟨w,e⟩ := rs.dom y h
   exact ⟨w,by rw [zp z];exact e⟩
theorem RepE.skip {D:Addr}{u:HO}(hD:B D)(re:RepE K cl B φ H ρ σ):RepE K cl B φ (L2.upd H D u) ρ σ := ⟨re.len,fun i v e => by
 obtain ⟨x,h,q⟩ := re.get i v e
 exact ⟨x,h,q.skip hD⟩⟩
noncomputable def Bx (B:Addr->Prop)(D:Addr):Addr->Prop := fun y => B y \/ y=D
theorem ze6 {D:Addr}(hn:H D=none):∀y,Bx B D y->B y \/ H y=none := fun y z => z.elim .inl fun q => .inr (q ▸ hn)
theorem RepV.more {D:Addr}(hn:H D=none){v:PV}{x:V}(h:RepV K cl B φ H v x):RepV K cl (Bx B D) φ H v x := h.moreB (ze6 hn)
theorem RepL.more {D:Addr}(hn:H D=none){v:List PV}{x:List V}(h:RepL K cl B φ H v x):RepL K cl (Bx B D) φ H v x := h.moreB (ze6 hn)
mutual
theorem RepV.less {D:Addr}:∀(v:PV) (x:V),RepV K cl (Bx B D) φ H v x->RepV K cl B φ H v x
 | .non,x,h => by simp only [RepV] at h ⊢;exact h
 | .bl b,x,h => by simp only [RepV] at h ⊢;exact h
 | .int i,x,h => by simp only [RepV] at h ⊢;exact h
 | .str y,x,h => by simp only [RepV] at h ⊢;exact h
 | .tp k vs,x,h => by
  simp only [RepV] at h ⊢
  obtain ⟨y,xs,e,r,l⟩ := h
  refine ⟨y,xs,e,?_,RepL.less vs xs l⟩
  rcases r with ⟨r,b,n⟩|r
  ·exact .inl ⟨r,fun z => b (.inl z),n⟩
  ·exact .inr r
 | .lst vs,x,h => by
  simp only [RepV] at h ⊢
  obtain ⟨y,xs,e,⟨r,b,n⟩,l⟩ := h
  exact ⟨y,xs,e,⟨r,fun z => b (.inl z),n⟩,RepL.less vs xs l⟩
 | .loc n,x,h => by simp only [RepV] at h ⊢;exact h
 | .exn c,x,h => by
  simp only [RepV] at h ⊢
  obtain ⟨y,e,r,b,n⟩ := h
  exact ⟨y,e,r,fun z => b (.inl z),n⟩
 | .scr vs,x,h => by
  simp only [RepV] at h ⊢
  obtain ⟨y,xs,e,r,l⟩ := h
  refine ⟨y,xs,e,?_,RepL.less vs xs l⟩
  rcases r with ⟨r,b,n⟩|r
  ·exact .inl ⟨r,fun z => b (.inl z),n⟩
  ·exact .inr r
theorem RepL.less {D:Addr}:∀(v:List PV) (x:List V),RepL K cl (Bx B D) φ H v x->RepL K cl B φ H v x
 | [],x,h => by simp only [RepL] at h ⊢;exact h
 |v::vs,x,h => by
  simp only [RepL] at h ⊢
  obtain ⟨y,ys,e,r,l⟩ := h
  exact ⟨y,ys,e,RepV.less v y r,RepL.less vs ys l⟩
end
theorem DK.more {D:Addr}(hn:H D=none):∀{kvs:List (PV×PV)} {ks:List (Key×V)},DK K cl B φ H kvs ks->DK K cl (Bx B D) φ H kvs ks
 | [],ks,h => h
 | (k,v)::r,ks,h => by
  obtain ⟨q,x,t,e,m,rv,l⟩ := h
  exact ⟨q,x,t,e,m,rv.more hn,DK.more hn l⟩
theorem DT.more {D:Addr}(hn:H D=none):∀{kvs:List (PV×PV)} {ks:List (List Key×V)},DT K cl B φ H kvs ks->DT K cl (Bx B D) φ H kvs ks
 | [],ks,h => h
 | (k,v)::r,ks,h => by
  obtain ⟨q,x,t,e,m,rv,l⟩ := h
  exact ⟨q,x,t,e,m,rv.more hn,DT.more hn l⟩
theorem FS.more {D:Addr}(hn:H D=none):∀{kvs:List (Str×PV)} {ks:List (Str×V)},FS K cl B φ H kvs ks->FS K cl (Bx B D) φ H kvs ks
 | [],ks,h => h
 | (k,v)::r,ks,h => by
  obtain ⟨x,t,e,rv,l⟩ := h
  exact ⟨x,t,e,rv.more hn,FS.more hn l⟩
theorem DK.less {D:Addr}:∀{kvs:List (PV×PV)} {ks:List (Key×V)},DK K cl (Bx B D) φ H kvs ks->DK K cl B φ H kvs ks
 | [],ks,h => h
 | (k,v)::r,ks,h => by
  obtain ⟨q,x,t,e,m,rv,l⟩ := h
  exact ⟨q,x,t,e,m,rv.less,DK.less l⟩
theorem DT.less {D:Addr}:∀{kvs:List (PV×PV)} {ks:List (List Key×V)},DT K cl (Bx B D) φ H kvs ks->DT K cl B φ H kvs ks
 | [],ks,h => h
 | (k,v)::r,ks,h => by
  obtain ⟨q,x,t,e,m,rv,l⟩ := h
  exact ⟨q,x,t,e,m,rv.less,DT.less l⟩
theorem FS.less {D:Addr}:∀{kvs:List (Str×PV)} {ks:List (Str×V)},FS K cl (Bx B D) φ H kvs ks->FS K cl B φ H kvs ks
 | [],ks,h => h
 | (k,v)::r,ks,h => by
  obtain ⟨x,t,e,rv,l⟩ := h
  exact ⟨x,t,e,rv.less,FS.less l⟩
theorem RepS.less {D:Addr}(rs:RepS K cl (Bx B D) φ H st):RepS K cl B φ H st := by
 refine ⟨rs.len,rs.inj,fun n y e => ?_,rs.liv,fun y h z => rs.nb y h (.inl z),fun y h => rs.dom y (.inl h)⟩
 obtain ⟨o,q,r⟩ := rs.obj n y e
 refine ⟨o,q,?_⟩
 cases o with
 |lst vs => obtain ⟨xs,hx,l⟩ := r;exact ⟨xs,hx,l.less⟩
 |dct t kvs => cases t <;> (obtain ⟨xs,hx,l⟩ := r;exact ⟨xs,hx,l.less⟩)
 |ins c fs => obtain ⟨ks,hx,l⟩ := r;exact ⟨ks,hx,l.less⟩
 |dead => exact r.elim
theorem RepS.more {D:Addr}{u:HO}(hn:H D=none)(rs:RepS K cl B φ H st):RepS K cl (Bx B D) φ (L2.upd H D u) st := by
 have nD:some D∉φ := fun z => by
  obtain ⟨w,e⟩ := rs.there z
  rw [hn] at e;cases e
 have s:Step φ H φ (L2.upd H D u) := .upd hn
 have rs' := rs.upd (o := u) hn
 refine ⟨rs.len,rs.inj,fun n y e => ?_,rs.liv,fun y h z => z.elim (rs.nb y h) fun q => nD (q ▸ h),fun y h => ?_⟩
 ·obtain ⟨o,q,r⟩ := rs.obj n y e
  have ne:y≠D := fun z => nD (z ▸ List.mem_of_getElem? e)
  have hD:Bx B D D := .inr rfl
  refine ⟨o,q,?_⟩
  cases o with
  |lst vs => obtain ⟨xs,hx,l⟩ := r;exact ⟨xs,by rw [zp ne];exact hx,(l.more hn).skip hD⟩
  |dct t kvs =>
   cases t with
   |false => obtain ⟨xs,hx,l⟩ := r;exact ⟨xs,by rw [zp ne];exact hx,(l.more hn).skip hD⟩
   |true => obtain ⟨xs,hx,l⟩ := r;exact ⟨xs,by rw [zp ne];exact hx,(l.more hn).skip hD⟩
  |ins c fs => obtain ⟨ks,⟨dx,hx⟩,l⟩ := r;exact ⟨ks,⟨dx,by rw [zp ne];exact hx⟩,(l.more hn).skip hD⟩
  |dead => exact r.elim
 ·rcases h with h|h
  ·exact rs'.dom y h
  ·subst h;exact ⟨u,zH⟩
theorem RepE.more {D:Addr}{u:HO}(hn:H D=none)(re:RepE K cl B φ H ρ σ):RepE K cl (Bx B D) φ (L2.upd H D u) ρ σ := ⟨re.len,fun i v e => by
 obtain ⟨x,h,q⟩ := re.get i v e
 exact ⟨x,h,(q.more hn).skip (.inr rfl)⟩⟩
noncomputable def tgtFree:Tg->List (Option Nat)->Bool
 | .n i,sl => decide (sl[i]?=some none)
 | .t l,sl => l.all fun i => decide (sl[i]?=some none)
theorem zd1:∀(l:List Nat) (vs:List PV) (ρ:IC.Env) (j:Nat),j∉l->((l.zip vs).foldl (fun ρ p => ρ.set p.1 (some p.2)) ρ)[j]?=ρ[j]?
 | [],vs,ρ,j,h => by simp
 |i::is,[],ρ,j,h => by simp
 |i::is,v::vs,ρ,j,h => by
  simp only [List.zip_cons_cons,List.foldl_cons]
  rw [zd1 is vs _ j fun z => h (List.mem_cons_of_mem _ z),List.getElem?_set_ne]
  rintro rfl
  exact h List.mem_cons_self
theorem zd9:∀(l:List Nat) (vs:List PV) (ρ:IC.Env),((l.zip vs).foldl (fun ρ p => ρ.set p.1 (some p.2)) ρ).length=ρ.length
 | [],vs,ρ => by simp
 |i::is,[],ρ => by simp
 |i::is,v::vs,ρ => by
  simp only [List.zip_cons_cons,List.foldl_cons]
  rw [zd9 is vs,List.length_set]
theorem RepE.untgt {sl:List (Option Nat)}{ρ0 ρ1:IC.Env}{v:PV}(hf:tgtFree ct sl=true)(h0:∀(i:Nat),sl[i]?=some none->ρ0[i]?=some none)(hb:bindT ct v ρ0=some ρ1)(re:RepE K cl B φ H ρ1 σ):RepE K cl B φ H ρ0 σ := by
 cases ct with
 |n i =>
  cases hb
  simp only [tgtFree,decide_eq_true_eq] at hf
  refine ⟨by rw [<- re.len,List.length_set],fun j w e => re.get j w ?_⟩
  rw [List.getElem?_set_ne]
  ·exact e
  ·rintro rfl
   rw [h0 _ hf] at e;cases e
 |t l =>
  cases v with
  |tp k vs =>
   simp only [bindT] at hb
   split at hb
   ·cases hb
    simp only [tgtFree,List.all_eq_true,decide_eq_true_eq] at hf
    refine ⟨by rw [<- re.len,zd9],fun j w e => re.get j w ?_⟩
    rw [zd1]
    ·exact e
    ·intro z
     rw [h0 _ (hf j z)] at e;cases e
   ·cases hb
  |_ => cases hb
theorem RepE.inn {sl:List (Option Nat)}(re:RepE K cl B φ H ρ σ):RepE K cl B φ H (sl.map fun o => o.bind fun j => (ρ[j]?).join) (L2.inn sl σ) := by
 unfold L2.inn
 refine ⟨by simp,fun i v e => ?_⟩
 rw [List.getElem?_map] at e ⊢
 cases q:sl[i]? with
 |none => rw [q] at e;cases e
 |some o =>
  rw [q] at e
  cases o with
  |none => cases e
  |some j =>
   simp only [Option.map_some,Option.bind_some,Option.some.injEq] at e ⊢
   cases q2:ρ[j]? with
   |none => rw [q2] at e;cases e
   |some w =>
    rw [q2] at e
    simp only [Option.join_some] at e
    subst e
    obtain ⟨x,hx,rv⟩ := re.get j v q2
    exact ⟨x,by rw [hx];rfl,rv⟩
theorem million1:1000000<sizeLine := by rw [sizeLine_eq];decide
theorem zjy {α:Type}{o:Option Bool}{k:Bool->R α}{z:α}{s:Store}(h:onO o k=.ok z s):∃b,o=some b/\k b=.ok z s := by
 cases o with
 |none => cases h
 |some b => exact ⟨b,rfl,h⟩
theorem zaM {α β:Type}{r:R α}{k:α->Store->R β}{z:β}{s:Store}(h:r.bind k=.ok z s):∃a s1,r=.ok a s1/\k a s1=.ok z s := by
 cases r with
 |ok a s1 => exact ⟨a,s1,rfl,h⟩
 |exc c s => cases h
 |bad => cases h
theorem zfS {sl:List (Option Nat)}(hf:tgtFree ct sl=true){H:Hp}{Q:VK}(h:tE S X (.comp sl ct ci cc ce) σ H Q):tComp sl (tI S X ci) (tG0 S X.K ct) (tT0 S X.K cc) (tE0 S X.K ce) σ H Q := by
  obtain ⟨B,φ,st,ρ,rs,re,h⟩ := h
  simp only [ev] at h
  refine ⟨B,φ,st,ρ,rs,re,(Run.bind h).mono fun J H1 ⟨xs,st1,φ1,s1,rs1,dr,h1⟩ => fun D hD => ?_⟩
  generalize hone:(fun (x:PV) (st2:Store) => match bindT ct x (sl.map fun o => o.bind fun j => (ρ[j]?).join) with
   |none => (R.bad:R (Option PV))
   |some ρ1 => (ev S.call ρ1 st2 cc).bind fun b st3 => onO (truV st3 b) fun k => cond k ((ev S.call ρ1 st3 ce).bind fun y st4 => .ok (some y) st4) (.ok none st3))=one at h1
  cases e:compL one xs st1 with
  |exc k s => rw [e] at h1;exact h1.elim
  |bad => rw [e] at h1;exact h1.elim
  |ok zs st5 =>
   rw [e] at h1
   simp only [lstR] at h1
   split at h1
   case isFalse => exact h1.elim
   rename_i hz
   have nB:¬B D := rs1.nB hD
   have nD:some D∉φ1 := fun z => by
    obtain ⟨w,e⟩ := rs1.there z
    rw [hD] at e;cases e
   refine ⟨fun i m σc ys H2 => ∃φ2 st2 vs rest,i+m=xs.length/\Step φ1 H1 φ2 H2/\H2 D=some (.lst ys)/\some D∉φ2/\RepS X.K S.cl (Bx B D) φ2 H2 st2/\RepE X.K S.cl (Bx B D) φ2 H2 (sl.map fun o => o.bind fun j => (ρ[j]?).join) σc /\
     RepL X.K S.cl (Bx B D) φ2 H2 vs ys/\compL one (xs.drop i) st2=.ok rest st5/\vs++rest=zs,
    ⟨xs.length,φ1,st1,[],zs,by omega,.upd hD,zH,nD,rs1.more hD,(RepE.inn (re.step s1)).more hD,by simp only [RepL],by simpa using e,rfl⟩,?_⟩
   rintro i m σc ys H2 ⟨φ2,st2,vs,rest,hm,s2,hD2,nD2,rs2,re2,l2,ec,ez⟩
   refine ⟨hD2,?_⟩
   by_cases hi:i<xs.length
   ·have hl2 := l2.length
    have hml := million1
    have hzl := congrArg List.length ez
    rw [List.length_append] at hzl
    refine .inr ⟨dr.go i φ2 H2 s2 hi,by omega,fun σ' ys' H' => ∃φ2 st2 vs rest,Step φ1 H1 φ2 H'/\H' D=some (.lst ys')/\some D∉φ2/\RepS X.K S.cl (Bx B D) φ2 H' st2/\RepE X.K S.cl (Bx B D) φ2 H' (sl.map fun o => o.bind fun j => (ρ[j]?).join) σ' /\
     RepL X.K S.cl (Bx B D) φ2 H' vs ys'/\compL one (xs.drop (i+1)) st2=.ok rest st5/\vs++rest=zs,fun σ' ys' H' ⟨φ2,st2,vs,rest,q⟩ => ⟨m - 1,by omega,φ2,st2,vs,rest,by omega,q⟩,fun x H3 hy => ?_⟩
    obtain ⟨v,hv,rv,kk⟩ := dr.yld i φ2 H2 st2 x H3 (Bx B D) (fun y z => z.elim .inl fun q => .inr (q ▸ hD)) s2 rs2 hi hy
    have s3:Step φ2 H2 φ2 H3 := ⟨fun b o _ e => kk b o e,Nat.le_refl _,fun _ _ _ e => e,fun _ h => .inl h⟩
    have rs3:RepS X.K S.cl (Bx B D) φ2 H3 st2 := rs2.same kk
    have ed:xs.drop i=v::xs.drop (i+1) := by
     rw [List.drop_eq_getElem_cons hi]
     rw [List.getElem?_eq_getElem hi] at hv
     rw [Option.some.inj hv]
    rw [ed,compL] at ec
    obtain ⟨o,st3,e1,ec⟩ := zaM ec
    obtain ⟨rest',st4,e2,ec⟩ := zaM ec
    rw [<- hone] at e1
    dsimp only at e1
    cases eb:bindT ct v (sl.map fun o => o.bind fun j => (ρ[j]?).join) with
    |none => rw [eb] at e1;cases e1
    |some ρ1 =>
     rw [eb] at e1
     dsimp only at e1
     obtain ⟨bv,st6,e3,e1⟩ := zaM e1
     obtain ⟨k,e4,e1⟩ := zjy e1
     have er:st4=st5/\consO o rest'=rest := by
      injection ec with q1 q2
      exact ⟨q2,q1⟩
     obtain ⟨rfl,rfl⟩ := er
     refine ⟨Bx B D,φ2,st2,_,v,ρ1,rs3,re2.step s3,rv,eb,fun σ4 re4 => ⟨Bx B D,φ2,st2,ρ1,rs3,re4,?_⟩⟩
     have et:truR (ev S.call ρ1 st2 cc)=.ok k st6 := by
      rw [e3]
      simp only [truR,R.bind,e4,onO]
     rw [et]
     rintro k' H5 φ5 s5 rs5 rfl
     have nD5:some D∉φ5 := fun z => by
      rcases s5.new D z with q|q
      ·exact nD2 q
      ·rw [kk D _ hD2] at q;cases q
     have hD5:H5 D=some (.lst ys) := s5.keep D _ nD2 (kk D _ hD2)
     have s25:Step φ1 H1 φ5 H5 := s2.trans (s3.trans s5)
     have l5 := (l2.step s3).step s5
     have re5:RepE X.K S.cl (Bx B D) φ5 H5 ρ1 σ4 := re4.step s5
     have h0:∀(i:Nat),sl[i]?=some none->(sl.map fun o => o.bind fun j => (ρ[j]?).join)[i]?=some none := fun i q => by
      rw [List.getElem?_map,q];rfl
     cases k with
     |false =>
      simp only [cond_false] at e1
      cases e1
      exact ⟨φ5,_,vs,rest',s25,hD5,nD5,rs5,RepE.untgt hf h0 eb re5,l5,e2,ez⟩
     |true =>
      simp only [cond_true] at e1
      obtain ⟨y,st7,e5,e1⟩ := zaM e1
      cases e1
      refine ⟨Bx B D,φ5,st6,ρ1,rs5,re5,?_⟩
      rw [e5]
      intro y' H6 φ6 s6 rs6 ry
      have nD6:some D∉φ6 := fun z => by
       rcases s6.new D z with q|q
       ·exact nD5 q
       ·rw [hD5] at q;cases q
      have hD6:H6 D=some (.lst ys) := s6.keep D _ nD5 hD5
      have hBD:Bx B D D := .inr rfl
      refine ⟨hD6,φ6,_,vs++[y],rest',?_,zH,nD6,rs6.skip hBD,(RepE.untgt hf h0 eb (re5.step s6)).skip hBD,((l5.step s6).append (by simp only [RepL];exact ⟨y',[],rfl,ry,rfl⟩)).skip hBD,e2,?_⟩
      ·have s16 := s25.trans s6
       exact ⟨fun b o n q => by rw [zp (zx q hD)];exact s16.keep b o n q,s16.len,s16.pre,s16.new⟩
      ·simpa [consO] using ez
   ·have ei:i=xs.length := by omega
    subst ei
    rw [List.drop_length,compL] at ec
    cases ec
    refine .inl ⟨dr.stop φ2 H2 s2,h1 (.ref D) H2 φ2 s2 rs2.less ?_⟩
    simp only [RepV]
    exact ⟨D,ys,rfl,⟨hD2,nB,nD2⟩,by rw [<- ez,List.append_nil];exact l2.less⟩
theorem zhU {sc:Scope}{NC:List Str}{sl:List (Option Nat)}{ifs:List Expr}(hc:X.calm=true)(O:CompOk X sc NC sl)(hf:tgtFree ct sl=true)(hi:PI X tg iter (tI S X ci))(hg:∀j,PG (cxC X sc NC j) tg (tG0 S X.K ct))
  (ht:∀j,PTs (cxC X sc NC j) ifs (tT0 S X.K cc)) (he:∀j,PE (cxC X sc NC j) elt (tE0 S X.K ce)) (hs:∀x,foldedSetIterable iter X.env x=pure x := by intro _;rfl) :
  PE X (.ListComp elt [⟨tg,iter,ifs,0⟩] sc pos) (tE S X (.comp sl ct ci cc ce)) :=
 (ziA hc O hi hg ht he hs).imp fun σ H Q h => zfS hf h
theorem zdv {sc:Scope}{NC:List Str}{sl:List (Option Nat)}{ifs:List Expr}(hc:X.calm=true)(O:CompOk X sc NC sl)(hf:tgtFree ct sl=true)(hi:KqI X tg iter (tI S X ci))(hg:∀j,KqG (cxC X sc NC j) tg (tG0 S X.K ct))
  (ht:∀j,KqTs (cxC X sc NC j) ifs (tT0 S X.K cc)) (he:∀j,KqE (cxC X sc NC j) elt (tE0 S X.K ce)) (hs:∀x,foldedSetIterable iter X.env x=pure x := by intro _;rfl) :
  KqE X (.ListComp elt [⟨tg,iter,ifs,0⟩] sc pos) (tE S X (.comp sl ct ci cc ce)) := by with_unfolding_all exact zhU hc O hf hi hg ht he hs
end
noncomputable def spI (K:PySem.W.Frag)(cl:Nat->Addr)(call:Nat->List PV->Store->R PV)(f:Nat):Sp := fun vs H Q E => ∃B φ st args,RepS K cl B φ H st/\RepL K cl B φ H args vs/\match call f args st with
 | .ok v st' => ∀x H' φ',Step φ H φ' H'->RepS K cl B φ' H' st'->RepV K cl B φ' H' v x->Q x H'
 | .exc c st' => ∀H' φ',Step φ H φ' H'->RepS K cl B φ' H' st'->E (.ref (cl c)) none H'
 | .bad => False
section
variable {S:Se}{X:Cx}{k:Nat}{f:Addr}{fd:FuncData}{ps ks:List Str}{sp:Sp}{dvs:List V}{ds:List Value}{x:Str}{p pos:Pos}{e:Expr}{es:List Expr}{t tk:TA}{CX:CXT}{σ:St}{H:Hp}
theorem zdK {pins:List (Addr×Obj)}{s:Shared}{Q:VK}{us:List Value}{vs:List V}{E:XK}(F:FnOk X.prog X.w X.K X.mg X.base CX k f fd ps sp)(hr:Room k X.A)(hb:Binds X.K fd ps ds)(hd:Vals dvs ds)
  (I:Inv X pins σ H s) (r:Vals vs us) (h:sp (vs++dvs) H Q E) (hx:∀e s',CX X.stack H s E e s'->X.xe e s'):wpAny (model X.prog X.w) X.A (call (.ref f) us) (EP X pins σ Q) X.xe s := by
 have r2:Vals (vs++dvs) (us++ds) := r.append hd
 have hl:(us++ds).length=ps.length := by rw [<- r2.length];exact F.len _ _ _ _ h
 refine wpAny_call (codeAny_mono (F.run X.A X.stack s H ⟨us,[]⟩ (us++ds) (vs++dvs) Q E hr I.env0 (hb s us I.kIn hl) r2 h) fun r s' hq => ?_)
 cases r with
 |error e => exact hx e s' hq
 |ok fl =>
  cases fl with
  |ret u => exact I.after hq
  |next => exact False.elim hq
  |brk => exact False.elim hq
  |cont => exact False.elim hq
noncomputable def tCallS (CX:CXT)(X:Cx)(sp:Sp)(dvs:List V)(t:TA):TE := fun σ H Q => t σ H fun vs H1 => ∃E:XK,sp (vs++dvs) H1 Q E/\∀pins s e s',Inv X pins σ H1 s->CX X.stack H1 s E e s'->X.xe e s'
theorem zgl (F:FnOk X.prog X.w X.K X.mg X.base CX k f fd ps sp)(hr:Room k X.A)(hg:Gl X x)(hm:X.mg x=some (.ref f))(hk:PySem.W.keepIn X.K (.ref f)=true)(hb:Binds X.K fd ps ds)(hd:Vals dvs ds)
  (ha:PA X (e::es) t) (hdb:(x == ("__debug__":Str))=false := by decide) (he:starEach (e::es) X.env=(false,eval e X.env)::starEach es X.env := by rfl) (hpl:(backTo pos (starEach es X.env)).any (·.1)=false := by rfl) :
  PE X (.Call (.Name x p) (e::es) [] pos) (tCallS CX X sp dvs t) := by
 intro pins s σ H Q I h
 refine wpAny_Call_Name_kw (zdJ I hg hm ?_ hdb)
 refine PySem.W.callWith_K (h₀ := X.base) I.ok.mod.kin hk (thn (ha pos pins s σ H _ I h) fun us s1 ⟨vs,H1,I1,r,E,q,hx⟩ => ⟨I1.kIn,?_⟩) he hpl
 exact zdK F hr hb hd I1 r q fun e s' c => hx pins s1 e s' I1 c
theorem zf4 (F:FnOk X.prog X.w X.K X.mg X.base CX k f fd ps sp)(hr:Room k X.A)(hg:Gl X x)(hm:X.mg x=some (.ref f))(hk:PySem.W.keepIn X.K (.ref f)=true)(hb:Binds X.K fd ps ds)(hd:Vals dvs ds)
  (hdb:(x == ("__debug__":Str))=false := by decide):PE X (.Call (.Name x p) [] [] pos) (tCallS CX X sp dvs tNil) := by
 intro pins s σ H Q I h
 obtain ⟨E,q,hx⟩ := h
 refine wpAny_Call_Name_kw (zdJ I hg hm ?_ hdb)
 exact PySem.W.callWith_K0 I.kIn hk (zdK F hr hb hd I .nil q fun e s' c => hx pins s e s' I c)
variable {B:Addr->Prop}{φ:Ph}{st:Store}{ces:Ces}{fi:Nat}
theorem zb7 {vs:List PV}{xs:List V}{Q:VK}(rs:RepS X.K S.cl B φ H st)(l:RepL X.K S.cl B φ H vs xs)(h:Run S X σ B φ H (RV S X B) (S.call fi vs st) Q) :
  ∃E:XK,spI X.K S.cl S.call fi xs H Q E/\∀pins s e s',Inv X pins σ H s->CX1 X.prog X.w X.stack H s E e s'->X.xe e s' := by
 cases c:S.call fi vs st with
 |ok v st' =>
  rw [c] at h
  refine ⟨fun _ _ _ => False,⟨B,φ,st,vs,rs,l,by rw [c];exact h⟩,fun pins s e s' _ z => ?_⟩
  obtain ⟨_,_,_,_,_,_,_,_,_,_,_,_,_,_,z⟩ := z
  exact z.elim
 |exc k st' =>
  rw [c] at h
  refine ⟨fun cls _ H' => cls=.ref (S.cl k)/\∃φ',Step φ H φ' H'/\RepS X.K S.cl B φ' H' st',⟨B,φ,st,vs,rs,l,by rw [c];exact fun H' φ' s r => ⟨rfl,φ',s,r⟩⟩,fun pins s e s' I z => h e s' (.inl ⟨pins,H,s,φ,I,.rfl,z⟩)⟩
 |bad => rw [c] at h;exact h.elim
theorem zhH (F:FnOk X.prog X.w X.K X.mg X.base (CX1 X.prog X.w) k f fd ps (spI X.K S.cl S.call fi))(hr:Room k X.A)(hg:Gl X x)(hm:X.mg x=some (.ref f))(hk:PySem.W.keepIn X.K (.ref f)=true)(hb:Binds X.K fd ps [])
  (ha:PA X (e::es) (tAs S X ces)) (hdb:(x == ("__debug__":Str))=false := by decide) (he:starEach (e::es) X.env=(false,eval e X.env)::starEach es X.env := by rfl) (hpl:(backTo pos (starEach es X.env)).any (·.1)=false := by rfl) :
  PE X (.Call (.Name x p) (e::es) [] pos) (tE S X (.call fi ces)) :=
 (zgl F hr hg hm hk hb .nil ha hdb he hpl).imp fun σ H Q ⟨B,φ,st,ρ,rs,re,h⟩ => by
  simp only [ev] at h
  refine tAs.bind rs re h fun xs H1 vs st1 φ1 s1 rs1 re1 rv h1 => ?_
  rw [List.append_nil]
  exact zb7 rs1 rv h1
theorem zn (F:FnOk X.prog X.w X.K X.mg X.base (CX1 X.prog X.w) k f fd ps (spI X.K S.cl S.call fi))(hr:Room k X.A)(hg:Gl X x)(hm:X.mg x=some (.ref f))(hk:PySem.W.keepIn X.K (.ref f)=true)(hb:Binds X.K fd ps [])
  (ha:KqA X (e::es) (tAs S X ces)) (hdb:(x == ("__debug__":Str))=false := by decide) (he:starEach (e::es) X.env=(false,eval e X.env)::starEach es X.env := by rfl) (hpl:(backTo pos (starEach es X.env)).any (·.1)=false := by rfl) :
  KqE X (.Call (.Name x p) (e::es) [] pos) (tE S X (.call fi ces)) := by with_unfolding_all exact zhH F hr hg hm hk hb ha hdb he hpl
theorem zg3 (F:FnOk X.prog X.w X.K X.mg X.base (CX1 X.prog X.w) k f fd ps (spI X.K S.cl S.call fi))(hr:Room k X.A)(hg:Gl X x)(hm:X.mg x=some (.ref f))(hk:PySem.W.keepIn X.K (.ref f)=true)(hb:Binds X.K fd ps [])
  (hdb:(x == ("__debug__":Str))=false := by decide):PE X (.Call (.Name x p) [] [] pos) (tE S X (.call fi .nil)) :=
 (zf4 F hr hg hm hk hb .nil hdb).imp fun σ H Q ⟨B,φ,st,ρ,rs,re,h⟩ => by
  simp only [ev,evs,R.bind] at h
  exact zb7 rs (by simp only [RepL];rfl) h
theorem zeG (F:FnOk X.prog X.w X.K X.mg X.base (CX1 X.prog X.w) k f fd ps (spI X.K S.cl S.call fi))(hr:Room k X.A)(hg:Gl X x)(hm:X.mg x=some (.ref f))(hk:PySem.W.keepIn X.K (.ref f)=true)(hb:Binds X.K fd ps [])
  (hdb:(x == ("__debug__":Str))=false := by decide):KqE X (.Call (.Name x p) [] [] pos) (tE S X (.call fi .nil)) := by with_unfolding_all exact zg3 F hr hg hm hk hb hdb
end
section
variable {P:Program}{w:World}{K:PySem.W.Frag}{mg:Str->Option Value}{base:Heap}{cl:Nat->Addr}{T:Nat->Option IC.Fn}{fi:Nat}{fn:IC.Fn}{x qual:Str}{stm:Stmt}{f:Addr}{fd:FuncData}{N ps:List Str}{k:Nat}
theorem CX1.mono {outer:List PySem.Env}{H:Hp}{s:Shared}{E E':XK}{e:Value}{s':Shared}(h:CX1 P w outer H s E e s')(n:∀cls H',E cls none H'->E' cls none H'):CX1 P w outer H s E' e s' := by
 obtain ⟨a,cls,a0,H',Bh,r1,r2,r3,r4,r5,r6,r7,r8,r9,r10⟩ := h
 exact ⟨a,cls,a0,H',Bh,r1,r2,r3,r4,r5,r6,r7,r8,r9,n _ _ r10⟩
theorem RepE.start {B:Addr->Prop}{φ:Ph}{H:Hp}{args:List PV}{vs:List V}(l:RepL K cl B φ H args vs)(n:Nat)(hn:N.length - vs.length=n):RepE K cl B φ H (args.map some++List.replicate n none) (L2.start N vs) := by
 have hl := l.length
 unfold L2.start
 refine ⟨by simp [hl,hn],fun i v e => ?_⟩
 by_cases hi:i<args.length
 ·rw [List.getElem?_append_left (by simpa using hi),List.getElem?_map] at e
  cases q:args[i]? with
  |none => rw [q] at e;cases e
  |some v' =>
   rw [q] at e
   cases e
   obtain ⟨y,hy,rv⟩ := l.get i q
   exact ⟨y,by rw [List.getElem?_append_left (by simp;omega),List.getElem?_map,hy];rfl,rv⟩
 ·rw [List.getElem?_append_right (by simp;omega),List.getElem?_replicate] at e
  split at e <;> cases e
theorem leave {N:List Str}{scope:Scope}{cd:Value}{A:Around}{outer:List PySem.Env}{s₀:Shared}{H₀:Hp}{E:XK}{call:Nat->List PV->Store->R PV}{σ:St}{B:Addr->Prop}{φ:Ph}{H:Hp}{c:Nat}{st':Store}{e:Value}{s':Shared}
  (h:ExcAt ⟨cl,call,true⟩ (cxOf (CX1 P w) P w K mg base N qual scope f cd A outer s₀ H₀ E) σ B φ H c st' e s') (n:∀φ' H',Step φ H φ' H'->RepS K cl B φ' H' st'->E (.ref (cl c)) none H') :
  (cxOf (CX1 P w) P w K mg base N qual scope f cd A outer s₀ H₀ E).xe e s' := by
 rcases h with ⟨pins,H1,s,φ1,I,s1,q⟩|⟨_,pins,H1,s,φ1,h',e0,vs,I,s1,rs,mk,rfl,rfl⟩
 ·exact pass1 pins σ H1 s e s' I (q.mono fun cls H' ⟨e1,φ',s2,r⟩ => by subst e1;exact n φ' H' (s1.trans s2) r)
 ·exact zfu I mk (n φ1 H1 s1 rs)
theorem zhl (hT:T fi=some fn):∀(args:List PV) (st:Store),callT T (k+1) fi args st ≠ .bad->args.length=fn.np := fun args st hne => by
 apply Classical.byContradiction
 intro c
 apply hne
 rw [callT,hT]
 exact if_neg c
theorem ziV (hT:T fi=some fn)(hnp:ps.length=fn.np){vs:List V}{H:Hp}{Q:VK}{E:XK}(h:spI K cl (callT T (k+1)) fi vs H Q E):vs.length=ps.length := by
 obtain ⟨B,φ,st,args,rs,l,h⟩ := h
 rw [hnp,<- l.length]
 refine zhl (k := k) hT args st fun z => ?_
 rw [z] at h
 exact h
theorem zir (hT:T fi=some fn)(hns:N.length=fn.ns){scope:Scope}{cdv:Value}{A:Around}{outer:List PySem.Env}{s:Shared}{vs:List V}{H:Hp}{Q:VK}{E:XK}(h:spI K cl (callT T (k+1)) fi vs H Q E) :
  tSs ⟨cl,callT T k,true⟩ (cxOf (CX1 P w) P w K mg base N qual scope f cdv A outer s H E) fn.body { nx := fun _ H' => Q .non H',rt := Q } (L2.start N vs) H := by
 obtain ⟨B,φ,st,args,rs,l,h⟩ := h
 have hl:args.length=fn.np := zhl (k := k) hT args st fun z => by rw [z] at h;exact h
 have hlen := l.length
 rw [callT,hT] at h
 dsimp only at h
 rw [if_pos hl] at h
 by_cases hp:fn.pure=true
 ·rw [if_pos hp] at h
  by_cases hz:noLocs args=true
  ·rw [if_pos hz] at h
   have rs0:RepS K cl (fun a => B a \/ some a∈φ) [] H [] := ⟨rfl,fun m n a e => by simp at e,fun n a e => by simp at e,fun n o e => by simp at e,fun a z => by simp at z,fun a z => z.elim (rs.dom a) rs.there⟩
   have back:∀{φ':Ph} {H':Hp},Step [] H φ' H'->Step φ H φ H'/\RepS K cl B φ H' st := fun {φ' H'} s' =>
    have kk:∀b o,H b=some o->H' b=some o := fun b o e => s'.keep b o (by simp) e
    ⟨⟨fun b o _ e => kk b o e,Nat.le_refl _,fun _ _ _ e => e,fun _ h => .inl h⟩,rs.same kk⟩
   refine ⟨_,[],[],_,rs0,RepE.start (RepL.inn rs.nb args vs hz l) (fn.ns - fn.np) (by omega),?_⟩
   show RunF _ _ _ _ _ (exs (callT T k) (args.map some++List.replicate (fn.ns - fn.np) none) [] fn.body) _
   cases e:exs (callT T k) (args.map some++List.replicate (fn.ns - fn.np) none) [] fn.body with
   |nx ρ' st' =>
    rw [e] at h
    intro σ' H' φ' s' rs' re'
    obtain ⟨s2,r2⟩ := back s'
    exact h .non H' φ s2 r2 (by simp only [RepV])
   |rt v st' =>
    rw [e] at h
    dsimp only at h
    by_cases hv:noLoc v=true
    ·rw [if_pos hv] at h
     intro y H' φ' s' rs' rv
     obtain ⟨s2,r2⟩ := back s'
     exact h y H' φ s2 r2 (RepV.out v y hv rv)
    ·rw [if_neg hv] at h
     exact h.elim
   |exc c ρ' st' =>
    rw [e] at h
    intro σ' φ1 H1 ev s' s1 _ ex
    refine leave ex fun φ2 H2 s2 _ => ?_
    obtain ⟨s3,r3⟩ := back (s1.trans s2)
    exact h H2 φ s3 r3
   |bk ρ' st' => rw [e] at h;exact h.elim
   |ct ρ' st' => rw [e] at h;exact h.elim
   |bad => rw [e] at h;exact h.elim
  ·rw [if_neg hz] at h
   exact h.elim
 ·rw [if_neg hp] at h
  refine ⟨B,φ,st,_,rs,RepE.start l (fn.ns - fn.np) (by omega),?_⟩
  show RunF _ _ _ _ _ (exs (callT T k) (args.map some++List.replicate (fn.ns - fn.np) none) st fn.body) _
  cases e:exs (callT T k) (args.map some++List.replicate (fn.ns - fn.np) none) st fn.body with
  |nx ρ' st' =>
   rw [e] at h
   intro σ' H' φ' s' rs' re'
   exact h .non H' φ' s' rs' (by simp only [RepV])
  |rt v st' =>
   rw [e] at h
   intro y H' φ' s' rs' rv
   exact h y H' φ' s' rs' rv
  |exc c ρ' st' =>
   rw [e] at h
   intro σ' φ1 H1 ev s' s1 _ ex
   exact leave ex fun φ2 H2 s2 r2 => h H2 φ2 (s1.trans s2) r2
  |bk ρ' st' => rw [e] at h;exact h.elim
  |ct ρ' st' => rw [e] at h;exact h.elim
  |bad => rw [e] at h;exact h.elim
end
noncomputable def tyN:Ty->String
 | .int => "int" | .bool => "bool" | .str => "str" | .tuple => "tuple" | .list => "list" | _ => ""
structure KitT (K:PySem.W.Frag)(t:Ty):Prop where
 n:PySem.W.kitOne K (.type "NoneType") (.type (tyN t))=some (isTy .non t)
 b:PySem.W.kitOne K (.type "bool") (.type (tyN t))=some (isTy (.bl true) t)
 i:PySem.W.kitOne K (.type "int") (.type (tyN t))=some (isTy (.int 0) t)
 s:PySem.W.kitOne K (.type "str") (.type (tyN t))=some (isTy (.str Str.empty) t)
 p:PySem.W.kitOne K (.type "tuple") (.type (tyN t))=some (isTy (.tp true []) t)
 l:PySem.W.kitOne K (.type "list") (.type (tyN t))=some (isTy (.lst []) t)
section
variable {S:Se}{X:Cx}{σ:St}{B:Addr->Prop}{φ:Ph}{H:Hp}{st:Store}{p pos p2 px:Pos}{a b c d o:Expr}{ca cb cc:Ce}{t:Ty}
noncomputable def rIsi (S:Se)(X:Cx)(t:Ty):List V->Hp->VK->Prop := fun xs H Q => ∃B φ st v x z,xs=[x,.ty (tyN t)]/\RepS X.K S.cl B φ H st/\RepV X.K S.cl B φ H v x/\isiV v [t]=some z/\isBl t=true /\
 ∀z' H' φ',Step φ H φ' H'->RepS X.K S.cl B φ' H' st->RepV X.K S.cl B φ' H' z z'->Q z' H'
theorem zj5 (Z:KitT X.K t):CallR X (.builtin "isinstance") (rIsi S X t) := by
 rintro pins s σ H xs us Q I r ⟨B,φ,st,v,x,z,rfl,rs,rv,e,hb,q⟩
 obtain ⟨u,c',rfl,ru,rc⟩ := vals2 r
 cases (show c'=Value.type (tyN t) from rc)
 have fin:∀(k:Bool) (tk:Nat),z=.bl k->EP X pins σ Q (.bool k) { s with toks := tk } := fun k tk ez => ⟨.bl k,H,I.tok tk,rfl,q _ H φ .rfl rs (by subst ez;simp only [RepV])⟩
 cases v with
 |non =>
  simp only [RepV] at rv;subst rv
  cases (show u=Value.none from ru)
  simp only [isiV,hb,if_true] at e
  exact PySem.W.kia_one PySem.W.kitx_none I.kIn True.intro Z.n (fun z => nomatch z) fun tk => fin _ tk (by cases e;cases t <;> rfl)
 |bl k =>
  simp only [RepV] at rv;subst rv
  cases (show u=Value.bool k from ru)
  simp only [isiV,hb,if_true] at e
  exact PySem.W.kia_one PySem.W.kitx_bool I.kIn True.intro Z.b (fun z => nomatch z) fun tk => fin _ tk (by cases e;cases t <;> rfl)
 |int k =>
  simp only [RepV] at rv;subst rv
  obtain ⟨tk,rfl⟩ := ru
  simp only [isiV,hb,if_true] at e
  exact PySem.W.kia_one PySem.W.kitx_int I.kIn True.intro Z.i (fun z => nomatch z) fun tk => fin _ tk (by cases e;cases t <;> rfl)
 |str k =>
  simp only [RepV] at rv;subst rv
  obtain ⟨tk,rfl⟩ := ru
  simp only [isiV,hb,if_true] at e
  exact PySem.W.kia_one PySem.W.kitx_str I.kIn True.intro Z.s (fun z => nomatch z) fun tk => fin _ tk (by cases e;cases t <;> rfl)
 |tp k vs =>
  simp only [RepV] at rv
  obtain ⟨y,ys,rfl,rt,l⟩ := rv
  cases (show u=Value.ref y from ru)
  simp only [isiV,hb,if_true] at e
  obtain ⟨its,_,⟨o,g,c,_,_⟩,_⟩ := I.tuple rt.sq
  exact PySem.W.kia_one PySem.W.kitx_tuple I.kIn ⟨o,g,c⟩ Z.p (fun z => nomatch z) fun tk => fin _ tk (by cases e;cases t <;> rfl)
 |lst vs =>
  simp only [RepV] at rv
  obtain ⟨y,ys,rfl,rt,l⟩ := rv
  cases (show u=Value.ref y from ru)
  simp only [isiV,hb,if_true] at e
  obtain ⟨_,_,n,_,h1⟩ := (show ObjOk X.prog X.w H s.heap y (.lst ys) from I.hok y _ rt.1)
  exact PySem.W.kia_one PySem.W.kitx_list I.kIn ⟨_,h1,rfl⟩ Z.l (fun z => nomatch z) fun tk => fin _ tk (by cases e;cases t <;> rfl)
 |loc n => cases e
 |scr n => cases e
 |exn n => simp only [isiV,List.all_cons,List.all_nil,hb,Bool.and_self,if_true] at e;cases e
theorem ziQ {T:Str}(Z:KitT X.K t)(ht:isBl t=true)(hg:Gl X "isinstance")(hm:X.mg "isinstance"=none)(hgT:Gl X T)(hmT:X.mg T=none)(hT:bootBuiltins T=some (.type (tyN t)))(ha:PE X a (tE S X ca))(hnT:T ≠ "__name__" := by decide)(hdT:(T == ("__debug__":Str))=false := by decide)
  (he:starEach [a,.Name T p2] X.env=(false,eval a X.env)::starEach [.Name T p2] X.env := by rfl) (hpl:(backTo pos (starEach [.Name T p2] X.env)).any (·.1)=false := by rfl) :
  PE X (.Call (.Name "isinstance" p) [a,.Name T p2] [] pos) (tE S X (.isi ca [t])) :=
 (zcG (zj5 Z) hg hm PyProof.Rows.boot_isinstance (zba ha (zba (zf3 (v := .ty (tyN t)) hgT hmT hT rfl hnT hdT) pa_nil) he) (by decide) (by decide) he hpl).imp fun σ H Q ⟨B,φ,st,ρ,rs,re,h⟩ => by
  simp only [ev] at h
  refine tE.bind rs re h fun x H1 v st1 φ1 s1 rs1 re1 rv h1 => ?_
  obtain ⟨z,e,q⟩ := zac h1 rs1
  exact ⟨B,φ1,st1,v,x,z,rfl,rs1,rv,e,ht,q⟩
theorem zcI {T:Str}(Z:KitT X.K t)(ht:isBl t=true)(hg:Gl X "isinstance")(hm:X.mg "isinstance"=none)(hgT:Gl X T)(hmT:X.mg T=none)(hT:bootBuiltins T=some (.type (tyN t)))(ha:KqE X a (tE S X ca))(hnT:T ≠ "__name__" := by decide)(hdT:(T == ("__debug__":Str))=false := by decide)
  (he:starEach [a,.Name T p2] X.env=(false,eval a X.env)::starEach [.Name T p2] X.env := by rfl) (hpl:(backTo pos (starEach [.Name T p2] X.env)).any (·.1)=false := by rfl) :
  KqE X (.Call (.Name "isinstance" p) [a,.Name T p2] [] pos) (tE S X (.isi ca [t])) := by with_unfolding_all exact ziQ Z ht hg hm hgT hmT hT ha hnT hdT he hpl
theorem zgo {st4:Store}{x y v:PV}(h:sixV st x y v=some st4):∃n xs k j,x=.loc n/\st[n]?=some (.lst xs)/\y=.int k/\ixI xs.length k=some j/\st4=st.set n (.lst (xs.set j v)) := by
 cases x with
 |loc n =>
  simp only [sixV] at h
  cases q:st[n]? with
  |none => rw [q] at h;cases h
  |some o =>
   rw [q] at h
   cases o with
   |lst xs =>
    cases y with
    |int k =>
     dsimp only at h
     cases q2:ixI xs.length k with
     |none => rw [q2] at h;cases h
     |some j => rw [q2] at h;exact ⟨n,xs,k,j,rfl,q,rfl,q2,(Option.some.inj h).symm⟩
    |_ => cases h
   |_ => cases h
 |_ => cases h
theorem RepL.put {K:PySem.W.Frag}{cl:Nat->Addr}:∀{vs:List PV} {xs:List V} (j:Nat) {v:PV} {x:V},RepL K cl B φ H vs xs->RepV K cl B φ H v x->RepL K cl B φ H (vs.set j v) (xs.set j x)
 | [],xs,j,v,x,l,r => by simp only [RepL] at l;subst l;simp [RepL]
 |w::vs,xs,0,v,x,l,r => by
  simp only [RepL] at l
  obtain ⟨y,ys,rfl,_,l⟩ := l
  simp only [List.set_cons_zero,RepL]
  exact ⟨x,ys,rfl,r,l⟩
 |w::vs,xs,j+1,v,x,l,r => by
  simp only [RepL] at l
  obtain ⟨y,ys,rfl,ry,l⟩ := l
  simp only [List.set_cons_succ,RepL]
  exact ⟨y,ys.set j x,rfl,ry,RepL.put j l r⟩
theorem zjn (he:PE X a (tE S X ca))(ho:PE X b (tE S X cb))(hi:PE X c (tE S X cc))(hs:swapsWithSole [.Subscript b c px] a pos.line X.env=pure false := by rfl)(hw:swappedStores [.Subscript b c px] a X.env=pure none := by rfl)
  (hg:PG X (.Subscript b c px) (gSub (tE S X cb) (tE S X cc) rSetL) := by exact zgd ‹_› ‹_› zab):PS X (.Assign [.Subscript b c px] a pos) (tS S X (.six cb cc ca)) :=
 (zhi he hg hs hw).imp fun D σ H ⟨B,φ,st,ρ,rs,re,h⟩ => by
  simp only [ex] at h
  refine tE.fl rs re h fun v' H1 v st1 φ1 s1 rs1 re1 rv h1 => tE.fl rs1 re1 h1 fun x' H2 x st2 φ2 s2 rs2 re2 rx h2 => tE.fl rs2 re2 h2 fun y' H3 y st3 φ3 s3 rs3 re3 ry h3 => ?_
  cases e:sixV st3 x y v with
  |none => rw [e] at h3;exact h3.elim
  |some st4 =>
   rw [e] at h3
   obtain ⟨n,xs,k,j,rfl,hn,rfl,hj,rfl⟩ := zgo e
   simp only [RepV] at ry
   subst ry
   obtain ⟨l,ys,rfl,hp,hx,lr⟩ := rs3.list (rx.step s3) hn
   refine ⟨l,ys,k,j,rfl,rfl,hx,by rw [<- lr.length];exact hj,?_⟩
   have s4:Step φ3 H3 φ3 (L2.upd H3 l (.lst (ys.set j v'))) := .put (List.mem_of_getElem? hp)
   exact h3 σ _ φ3 s4 (rs3.put hp ⟨_,zH,(lr.put j ((rv.step s2).step s3)).step s4⟩) (re3.step s4)
theorem zaQ (he:KqE X a (tE S X ca))(ho:KqE X b (tE S X cb))(hi:KqE X c (tE S X cc))(hs:swapsWithSole [.Subscript b c px] a pos.line X.env=pure false := by rfl)(hw:swappedStores [.Subscript b c px] a X.env=pure none := by rfl)
  (hg:KqG X (.Subscript b c px) (gSub (tE S X cb) (tE S X cc) rSetL) := by exact zgd ‹_› ‹_› zab):KqS X (.Assign [.Subscript b c px] a pos) (tS S X (.six cb cc ca)) := by with_unfolding_all exact zjn he ho hi hs hw hg
end
section
variable {S:Se}{X:Cx}{σ:St}{B:Addr->Prop}{φ:Ph}{H:Hp}{st:Store}{p pos p2 px py pt pt2 apos:Pos}{a b c d o:Expr}{ca cb cc:Ce}{kt k2:Nat}
theorem zjQ {i j:Nat}{x y:Str}(hc:X.calm=true)(hN:X.N.Nodup)(hi:X.N[i]?=some x)(hj:X.N[j]?=some y)(hij:i≠j)(h:PS X (.Assign [.Tuple [.Name x px,.Name y py] kt pt] (.Tuple [a,b] k2 pt2) pos) (tPar i j (tAs S X (.cons ca (.cons cb .nil))))) :
  PS X (.Assign [.Tuple [.Name x px,.Name y py] kt pt] (.Tuple [a,b] k2 pt2) pos) (tS S X (.asg (.t [i,j]) (.tup (.cons ca (.cons cb .nil))))) :=
 h.imp fun D σ H ⟨B,φ,st,ρ,rs,re,h⟩ => by
  simp only [ex,ev] at h
  refine ⟨B,φ,st,ρ,rs,re,?_⟩
  cases e:evs S.call ρ st (.cons ca (.cons cb .nil)) with
  |bad => rw [e] at h;exact h
  |exc k st' => rw [e] at h;exact fun e s' x => h σ φ H e s' .rfl re x
  |ok vs st' =>
   rw [e] at h
   intro xs H' φ' s rs' l
   simp only [R.bind] at h
   split at h
   ·rcases vs with _|⟨v,_|⟨w,_|⟨u,t⟩⟩⟩
    ·exact h.elim
    ·exact h.elim
    ·obtain ⟨v',w',rfl,rv,rw⟩ := l.two
     refine ⟨v',w',rfl,?_⟩
     exact h _ H' φ' s rs' (((re.step s).set i rv).set j rw)
    ·exact h.elim
   ·exact h.elim
theorem zgq {i j:Nat}{x y:Str}(hc:X.calm=true)(hN:X.N.Nodup)(hi:X.N[i]?=some x)(hj:X.N[j]?=some y)(hij:i≠j)(h:KqS X (.Assign [.Tuple [.Name x px,.Name y py] kt pt] (.Tuple [a,b] k2 pt2) pos) (tPar i j (tAs S X (.cons ca (.cons cb .nil))))) :
  KqS X (.Assign [.Tuple [.Name x px,.Name y py] kt pt] (.Tuple [a,b] k2 pt2) pos) (tS S X (.asg (.t [i,j]) (.tup (.cons ca (.cons cb .nil))))) := by with_unfolding_all exact zjQ hc hN hi hj hij h
theorem zhE {bo:BOp}{v w z:PV}(h:augV bo v w=some z):∃i j,v=.int i/\w=.int j/\IC.binI bo i j=some z := by
 unfold augV at h
 split at h
 ·exact ⟨_,_,rfl,rfl,h⟩
 ·cases h
theorem zh6:PIp X .Add (rT2 S X (augV .add)) := by
 rintro pins s σ H x y v u Q I rx ry ⟨B,φ,st,a,b,z,rs,ra,rb,e,q⟩
 obtain ⟨i,j,rfl,rfl,e⟩ := zhE e
 cases e
 simp only [RepV] at ra rb
 subst ra rb
 exact ziK pins s σ H _ _ v u Q I rx ry ⟨i,j,rfl,rfl,q _ H φ .rfl rs (by simp only [RepV])⟩
end
open Classical in
section
variable {S:Se}{X:Cx}{σ:St}{B:Addr->Prop}{φ φ1:Ph}{H H1:Hp}{st:Store}{ρ:IC.Env}{p pos p2 px py pt pt2:Pos}{a b c d o a' b' c' d':Expr}{ca cb cc cd ce cf:Ce}{pins:List (Addr×Obj)}{s:Shared}{kt k2:Nat}{es:List Expr}{ces:Ces}{x:Str}
theorem zgP (hg:Gl X "list")(hm:X.mg "list"=none)(hv:bootBuiltins "list"=some (.type "list"))(ha:PA X [a] (tAs S X (.cons ca .nil)))
  (he:starEach [a] X.env=(false,eval a X.env)::starEach [] X.env := by rfl) (hpl:(backTo pos (starEach [] X.env)).any (·.1)=false := by rfl):PE X (.Call (.Name "list" p) [a] [] pos) (tE S X (.thw (.blt .list (.cons ca .nil)))) :=
 (zdk zbB hg hm hv ha (by decide) (by decide) he hpl).imp fun σ H Q ⟨B,φ,st,ρ,rs,re,h⟩ => by
  simp only [ev,R.bind_assoc] at h
  refine tAs.bind rs re h fun xs H1 vs st1 φ1 s1 rs1 re1 rv h1 => ?_
  cases e:bltV .list st1 vs with
  |none => rw [e] at h1;exact h1.elim
  |some z =>
   rw [e] at h1
   obtain ⟨v,rfl⟩ := zbx e fun _ _ => rfl
   obtain ⟨x,rfl,rv1⟩ := rv.one
   simp only [bltV] at e
   cases e1:seqOf st1 v with
   |none => rw [e1] at e;cases e
   |some ws =>
    rw [e1] at e
    cases e
    obtain ⟨y,ys,rfl,hq,l⟩ := zfl rs1 rv1 e1
    refine ⟨y,ys,rfl,hq,fun D hD => ?_⟩
    simp only [toR,R.bind,thwV] at h1
    exact h1 _ _ (φ1++[some D]) (.push hD) (rs1.push hD (rs1.nB hD) ⟨ys,zH,l.step (.push hD)⟩) (.loc_new rs1)
theorem zeE (hg:Gl X "list")(hm:X.mg "list"=none)(hv:bootBuiltins "list"=some (.type "list"))(ha:KqA X [a] (tAs S X (.cons ca .nil)))
  (he:starEach [a] X.env=(false,eval a X.env)::starEach [] X.env := by rfl) (hpl:(backTo pos (starEach [] X.env)).any (·.1)=false := by rfl):KqE X (.Call (.Name "list" p) [a] [] pos) (tE S X (.thw (.blt .list (.cons ca .nil)))) := by with_unfolding_all exact zgP hg hm hv ha he hpl
end
end L2
namespace WK
open PySem L2 IC
structure Fn (K:PySem.W.Frag)(mg:Str->Option Value)(x:Str)(st:Stmt)(ps:List Str)(f:Addr)(fd:FuncData):Prop where
 F:Fun K x x st f fd
 b:Binds K fd ps []
 m:mg x=some (.ref f)
def GC (K:PySem.W.Frag)(mg:Str->Option Value)(cl:Nat->Addr)(x:Str)(v:PV):Prop := ∃y:Addr,mg x=some (.ref y)/\∀B φ H,RepV K cl B φ H v (.ref y)
theorem zkK {S:Se}{X:Cx}{x:Str}{v:PV}{pos:Pos}(hg:Gl X x)(h:GC X.K X.mg S.cl x v)(hd:(x == ("__debug__":Str))=false := by decide):PE X (.Name x pos) (tE S X (.cst v)) := by
 obtain ⟨y,hm,hk⟩ := h
 exact zio hg hm hk hd
theorem ziF {S:Se}{X:Cx}{x:Str}{v:PV}{pos:Pos}(hg:Gl X x)(h:GC X.K X.mg S.cl x v)(hd:(x == ("__debug__":Str))=false := by decide):KqE X (.Name x pos) (tE S X (.cst v)) := by with_unfolding_all exact zkK hg h hd
theorem zea:bootBuiltins "int"=some (.type "int") := by decide +kernel
theorem zic:bootBuiltins "bool"=some (.type "bool") := by decide +kernel
theorem zc1:bootBuiltins "tuple"=some (.type "tuple") := by decide +kernel
theorem zcP:bootBuiltins "list"=some (.type "list") := by decide +kernel
theorem zcy:bootBuiltins "len"=some (.builtin "len") := by decide +kernel
theorem ziY:bootBuiltins "all"=some (.builtin "all") := by decide +kernel
theorem zW {k:Nat}{A:Around}(r:Room k A):A.units+1<cLine := by have := r.units;omega
def VisAll (N:List Str)(sc:Scope):Prop := (N.all fun x => decide (sc.names.lookup x=some .local) || decide (sc.names.lookup x=some .cell))=true
theorem lcF {N:List Str}{sc:Scope}{i:Nat}{x:Str}(V:VisAll N sc)(h:N[i]?=some x):Loc sc x := by
 have := List.all_eq_true.mp V x (List.mem_of_getElem? h)
 rw [Bool.or_eq_true,decide_eq_true_eq,decide_eq_true_eq] at this
 exact this
theorem svF {S:Se}{X:Cx}{x:Str}{pos:Pos}(V:VisAll X.N X.env.scope)(i:Nat)(hN:X.N[i]?=some x := by rfl)(hd:(x == ("__debug__":Str))=false := by decide)(hcd:(x == ("__classdict__":Str))=false := by decide):PE X (.Name x pos) (tE S X (.var i)) :=
 zhu hN (by rcases lcF V hN with h|h;exact .inl h;exact .inr (.inl h)) hd hcd
theorem zd {S:Se}{X:Cx}{x:Str}{pos:Pos}(V:VisAll X.N X.env.scope)(i:Nat)(hN:X.N[i]?=some x := by rfl)(hd:(x == ("__debug__":Str))=false := by decide)(hcd:(x == ("__classdict__":Str))=false := by decide):KqE X (.Name x pos) (tE S X (.var i)) := by with_unfolding_all exact svF V i hN hd hcd
theorem sv {S:Se}{X:Cx}(i:Nat){x:Str}{pos:Pos}(hN:X.N[i]?=some x := by rfl)(hv:Vis X.env.scope x := by first|exact Or.inl rfl|exact Or.inr (Or.inl rfl)|exact Or.inr (Or.inr rfl))(hd:(x == ("__debug__":Str))=false := by decide)
  (hcd:(x == ("__classdict__":Str))=false := by decide):PE X (.Name x pos) (tE S X (.var i)) := zhu hN hv hd hcd
theorem sv_k {S:Se}{X:Cx}(i:Nat){x:Str}{pos:Pos}(hN:X.N[i]?=some x := by rfl)(hv:Vis X.env.scope x := by first|exact Or.inl rfl|exact Or.inr (Or.inl rfl)|exact Or.inr (Or.inr rfl))(hd:(x == ("__debug__":Str))=false := by decide)
  (hcd:(x == ("__classdict__":Str))=false := by decide):KqE X (.Name x pos) (tE S X (.var i)) := by with_unfolding_all exact sv i hN hv hd hcd
end WK
namespace L2
open PySem PySem.Spec PyProof.Rows IC
section
variable {S:Se}{X:Cx}{k:Nat}{f:Addr}{fd:FuncData}{ps ks:List Str}{sp:Sp}{x:Str}{p pos kpos:Pos}{e:Expr}{es:List Expr}{kws:List Keyword}{nm:Option Str}{t tk:TA}{CX:CXT}{ca:Ce}{ces:Ces}{items:List (Sum Ce Int)}{g:List Value->List Value->List Value}{gV:List V->List V->List V}
theorem PK.imp {t t':TA}(h:PK X kws t')(k:∀σ H Q,t σ H Q->t' σ H Q):PK X kws t := fun pos pins s σ H Q I q => h pos pins s σ H Q I (k σ H Q q)
end
section
variable {P:Program}{w:World}{K:PySem.W.Frag}{mg:Str->Option Value}{base:Heap}{cl:Nat->Addr}{T:Nat->Option IC.Fn}{fi:Nat}{fn:IC.Fn}{x:Str}{stm:Stmt}{f:Addr}{fd:FuncData}{N ps:List Str}{ds:List Int}{k:Nat}
end
theorem zcL (a b:Key):peq (keyP a) (keyP b)=decide (a=b) := by
 rw [Bool.eq_iff_iff]
 cases a <;> cases b <;> simp [keyP,peq]
theorem zeb:∀(a b:List Key),peqs (a.map keyP) (b.map keyP)=decide (a=b)
 | [],[] => by simp [peqs]
 | [],y::ys => by simp [peqs]
 |x::xs,[] => by simp [peqs]
 |x::xs,y::ys => by
  simp only [List.map_cons,peqs,zcL,zeb xs ys]
  rw [Bool.eq_iff_iff]
  simp
theorem zcR (a b:List Key):peq (.tup (a.map keyP)) (.tup (b.map keyP))=decide (a=b) := by
 simp only [peq,zeb]
section
variable {S:Se}{X:Cx}{K:PySem.W.Frag}{cl:Nat->Addr}{σ:St}{B:Addr->Prop}{φ:Ph}{H:Hp}{st:Store}{p pos p2 px apos:Pos}{a b c d o:Expr}{ca cb cc:Ce}
theorem DK.look {q:Key}:∀{kvs:List (PV×PV)} {ks:List (Key×V)},DK K cl B φ H kvs ks->∀{v:PV} {x:V},RepV K cl B φ H v x->RepV K cl B φ H ((IC.look (keyP q) kvs).getD v) ((valV ks q).getD x)
 | [],ks,h,v,x,r => by cases h;exact r
 | (k,w)::t,ks,h,v,x,r => by
  obtain ⟨q',y,s,rfl,rfl,rv,l⟩ := h
  simp only [IC.look,zcL]
  by_cases e:q'=q
  ·rw [zbM (p := (q',y)) e]
   simp [e,rv]
  ·rw [zbL (p := (q',y)) e]
   simp only [decide_eq_true_eq,e,if_false]
   exact DK.look l r
theorem DT.look {q:List Key}:∀{kvs:List (PV×PV)} {ks:List (List Key×V)},DT K cl B φ H kvs ks->∀{v:PV} {x:V},RepV K cl B φ H v x->RepV K cl B φ H ((IC.look (.tup (q.map keyP)) kvs).getD v) ((valV ks q).getD x)
 | [],ks,h,v,x,r => by cases h;exact r
 | (k,w)::t,ks,h,v,x,r => by
  obtain ⟨q',y,s,rfl,rfl,rv,l⟩ := h
  simp only [IC.look,zcR]
  by_cases e:q'=q
  ·rw [zbM (p := (q',y)) e]
   simp [e,rv]
  ·rw [zbL (p := (q',y)) e]
   simp only [decide_eq_true_eq,e,if_false]
   exact DT.look l r
theorem DK.any {q:Key}:∀{kvs:List (PV×PV)} {ks:List (Key×V)},DK K cl B φ H kvs ks->(kvs.any fun p => peq p.1 (keyP q))=ks.any fun kv => decide (kv.1=q)
 | [],ks,h => by cases h;rfl
 | (k,w)::t,ks,h => by
  obtain ⟨q',y,s,rfl,rfl,rv,l⟩ := h
  simp only [List.any_cons,zcL,DK.any l]
theorem DT.any {q:List Key}:∀{kvs:List (PV×PV)} {ks:List (List Key×V)},DT K cl B φ H kvs ks->(kvs.any fun p => peq p.1 (.tup (q.map keyP)))=ks.any fun kv => decide (kv.1=q)
 | [],ks,h => by cases h;rfl
 | (k,w)::t,ks,h => by
  obtain ⟨q',y,s,rfl,rfl,rv,l⟩ := h
  simp only [List.any_cons,zcR,DT.any l]
theorem DK.map {q:Key}{v:PV}{x:V}(r:RepV K cl B φ H v x):∀{kvs:List (PV×PV)} {ks:List (Key×V)},DK K cl B φ H kvs ks->DK K cl B φ H (kvs.map fun p => if peq p.1 (keyP q)=true then (p.1,v) else p) (ks.map fun kv => if kv.1=q then (kv.1,x) else kv)
 | [],ks,h => by cases h;exact rfl
 | (k,w)::t,ks,h => by
  obtain ⟨q',y,s,rfl,rfl,rv,l⟩ := h
  simp only [List.map_cons,zcL,decide_eq_true_eq]
  by_cases e:q'=q
  ·simp only [e,if_true]
   exact ⟨q,x,_,rfl,rfl,r,DK.map r l⟩
  ·simp only [e,if_false]
   exact ⟨q',y,_,rfl,rfl,rv,DK.map r l⟩
theorem DT.map {q:List Key}{v:PV}{x:V}(r:RepV K cl B φ H v x):∀{kvs:List (PV×PV)} {ks:List (List Key×V)},DT K cl B φ H kvs ks->DT K cl B φ H (kvs.map fun p => if peq p.1 (.tup (q.map keyP))=true then (p.1,v) else p) (ks.map fun kv => if kv.1=q then (kv.1,x) else kv)
 | [],ks,h => by cases h;exact rfl
 | (k,w)::t,ks,h => by
  obtain ⟨q',y,s,rfl,rfl,rv,l⟩ := h
  simp only [List.map_cons,zcR,decide_eq_true_eq]
  by_cases e:q'=q
  ·simp only [e,if_true]
   exact ⟨q,x,_,rfl,rfl,r,DT.map r l⟩
  ·simp only [e,if_false]
   exact ⟨q',y,_,rfl,rfl,rv,DT.map r l⟩
theorem DK.snoc {q:Key}{v:PV}{x:V}(r:RepV K cl B φ H v x):∀{kvs:List (PV×PV)} {ks:List (Key×V)},DK K cl B φ H kvs ks->DK K cl B φ H (kvs++[(keyP q,v)]) (ks++[(q,x)])
 | [],ks,h => by cases h;exact ⟨q,x,[],rfl,rfl,r,rfl⟩
 | (k,w)::t,ks,h => by
  obtain ⟨q',y,s,rfl,rfl,rv,l⟩ := h
  exact ⟨q',y,_,rfl,rfl,rv,DK.snoc r l⟩
theorem DT.snoc {q:List Key}{v:PV}{x:V}(r:RepV K cl B φ H v x):∀{kvs:List (PV×PV)} {ks:List (List Key×V)},DT K cl B φ H kvs ks->DT K cl B φ H (kvs++[(.tup (q.map keyP),v)]) (ks++[(q,x)])
 | [],ks,h => by cases h;exact ⟨q,x,[],rfl,rfl,r,rfl⟩
 | (k,w)::t,ks,h => by
  obtain ⟨q',y,s,rfl,rfl,rv,l⟩ := h
  exact ⟨q',y,_,rfl,rfl,rv,DT.snoc r l⟩
theorem DK.put {q:Key}{v:PV}{x:V}{kvs:List (PV×PV)}{ks:List (Key×V)}(l:DK K cl B φ H kvs ks)(r:RepV K cl B φ H v x):DK K cl B φ H (IC.put (keyP q) v kvs) (putK ks q x) := by
 unfold IC.put putK
 rw [DK.any l]
 split
 ·exact DK.map r l
 ·exact DK.snoc r l
theorem DT.put {q:List Key}{v:PV}{x:V}{kvs:List (PV×PV)}{ks:List (List Key×V)}(l:DT K cl B φ H kvs ks)(r:RepV K cl B φ H v x):DT K cl B φ H (IC.put (.tup (q.map keyP)) v kvs) (putK ks q x) := by
 unfold IC.put putK
 rw [DT.any l]
 split
 ·exact DT.map r l
 ·exact DT.snoc r l
theorem DK.len:∀{kvs:List (PV×PV)} {ks:List (Key×V)},DK K cl B φ H kvs ks->kvs.length=ks.length
 | [],ks,h => by cases h;rfl
 | (k,w)::t,ks,h => by
  obtain ⟨q',y,s,rfl,rfl,rv,l⟩ := h
  simp [DK.len l]
theorem DT.len:∀{kvs:List (PV×PV)} {ks:List (List Key×V)},DT K cl B φ H kvs ks->kvs.length=ks.length
 | [],ks,h => by cases h;rfl
 | (k,w)::t,ks,h => by
  obtain ⟨q',y,s,rfl,rfl,rv,l⟩ := h
  simp [DT.len l]
theorem RepS.dct {n:Nat}{t:Bool}{kvs:List (PV×PV)}{x:V}(rs:RepS K cl B φ H st)(r:RepV K cl B φ H (.loc n) x)(h:st[n]?=some (.dct t kvs)):∃y,x=.ref y/\φ[n]?=some (some y)/\RepO K cl B φ H (.dct t kvs) y := by
 simp only [RepV] at r
 obtain ⟨hn,y,rfl,ha⟩ := r
 obtain ⟨z,hz⟩ := rs.liv n _ h (by intro z;cases z)
 obtain rfl := ha z hz
 obtain ⟨o,ho,ro⟩ := rs.obj n z hz
 rw [h] at ho;cases ho
 exact ⟨z,rfl,hz,ro⟩
end
section
variable {S:Se}{X:Cx}{σ:St}{B:Addr->Prop}{φ:Ph}{H:Hp}{p pos p3 p4:Pos}{a b tg:Expr}{ca cb:Ce}
end
end L2
namespace WK
open PySem L2 IC
theorem zZ {K:PySem.W.Frag}{h:Heap}{mg:Str->Option Value}{x:Str}{st:Stmt}{ps:List Str}{f:Addr}{oc:Value}{od an:Option Addr}{osl:Array (Option Value)}{kV doc pm cdv ct:Value}(X:K.In h)(G:h.Ns mainGlobals mg)
  (a:PySem.W.nsIn K mainGlobals x=some (some (.ref f))) (l:K.lookup f=some ⟨oc,od,.func (PySem.W.fnOf x x (defArgs st) (defBody st) (defScope st) .none kV doc pm an cdv ct),osl⟩) (c:PySem.W.codeIn K cdv x=true) (k:PySem.W.keepIn K (.ref f)=true)
  (hb:∀(kV doc pm:Value) (an:Option Addr) (cdv ct:Value) (us:List Value),us.length=ps.length->bindArgs (PySem.W.fnOf x x (defArgs st) (defBody st) (defScope st) .none kV doc pm an cdv ct) ⟨us,[]⟩=pure (ps.zip us)) :
  Fn K mg x st ps f (PySem.W.fnOf x x (defArgs st) (defBody st) (defScope st) .none kV doc pm an cdv ct) := ⟨zhp l c k,(zhp l c k).binds hb,PySem.W.mg_of X G a⟩
section
variable {K:PySem.W.Frag}{cl:Nat->Addr}{B:Addr->Prop}{φ:Ph}{H:Hp}
theorem zf1:RepL K cl B φ H [] [] := by simp only [RepL]
theorem zR {v:PV}{x:V}{vs:List PV}{xs:List V}(h:RepV K cl B φ H v x)(l:RepL K cl B φ H vs xs):RepL K cl B φ H (v::vs) (x::xs) := by
 simp only [RepL]
 exact ⟨x,xs,rfl,h,l⟩
theorem zjc {y:Addr}{d:Option Addr}{its:Array Value}{n:Nat}{sl:Array (Option Value)}{xs:List V}{vs:List PV}(h:K.lookup y=some ⟨.type "tuple",d,.seq its n,sl⟩)(hz:its.size<=1000)(r:Vals xs its.toList)(l:RepL K cl B φ H vs xs):RepV K cl B φ H (.tp true vs) (.ref y) := by
 simp only [RepV]
 exact ⟨y,xs,rfl,.inr ⟨rfl,_,its,n,h,rfl,rfl,by rw [sizeLine_eq];omega,r⟩,l⟩
end
theorem ziI {P:Program}{w:World}{outer:List PySem.Env}{H:Hp}{s:Shared}{e:Value}{s':Shared}(h:CX1 P w outer H s (fun _ _ _ => False) e s'):False := by
 obtain ⟨_,_,_,_,_,_,_,_,_,_,_,_,_,_,z⟩ := h
 exact z
theorem zft {K:PySem.W.Frag}{cl:Nat->Addr}{B:Addr->Prop}{φ:Ph}{H:Hp}:∀ns:List Int,RepL K cl B φ H (ns.map .int) (ns.map V.int)
 | [] => zf1
 |n::ns => zR (by simp only [RepV]) (zft ns)
noncomputable def spX (K:PySem.W.Frag)(call:Nat->List PV->Store->R PV)(fi:Nat):Sp := fun vs H Q E => ∀cl,spI K cl call fi vs H Q E
theorem zf0 {K:PySem.W.Frag}{call:Nat->List PV->Store->R PV}{fi:Nat}{H:Hp}{a:Addr}{ns:List Int}(ht:∀ns:List Int,ns.length<=63->call fi [.scr (ns.map .int)] []=.ok (.bl true) [])(hl:ns.length<=63)(hS:SqL K H a (ns.map V.int)) :
  spX K call fi [.ref a] H (fun v _ => v=.bl true) fun _ _ _ => False := by
 intro cl
 refine ⟨fun _ => False,[],[],[.scr (ns.map .int)],⟨rfl,fun m n a e => by simp at e,fun n a e => by simp at e,fun n o e => by simp at e,fun a z => by simp at z,fun a z => z.elim⟩,zR ?_ zf1,?_⟩
 ·simp only [RepV]
  refine ⟨a,_,rfl,?_,zft ns⟩
  rcases hS with hS|hS
  ·exact .inl ⟨hS,fun z => z,by simp⟩
  ·exact .inr hS
 ·rw [ht ns hl]
  intro x H' φ' _ _ r
  simpa only [RepV] using r
end WK
namespace L2
open PySem PySem.Spec PyProof.Rows IC
theorem zfF {l:List Str}(h:l.Nodup){i j:Nat}(hi:i<l.length)(hj:j<l.length)(e:l[i]=l[j]):i=j := by
 rcases Nat.lt_trichotomy i j with q|q|q
 ·exact absurd e (List.pairwise_iff_getElem.mp h i j hi hj q)
 ·exact q
 ·exact absurd e.symm (List.pairwise_iff_getElem.mp h j i hj hi q)
section
variable {X:Cx}{pins:List (Addr×Obj)}{σ:St}{H:Hp}{s:Shared}
theorem Inv.drop {h':Heap}{m:Str->Option Value}{v:Option Value}{i:Nat}{n:Str}(I:Inv X pins σ H s)(hN:X.N.Nodup)(hi:X.N[i]?=some n)(hm:s.heap.Ns X.env.locals m)(look:∀(i:Nat) (x:Str) (v:V),X.N[i]?=some x->σ[i]?=some (some v)->Vis X.env.scope x->∃u,RelV v u/\Look X.env s.heap m x u)(hs:Heap.SameBut X.env.locals s.heap h')(hn:h'.Ns X.env.locals (fun x => if x=n then v else m x)):Inv X pins (σ.set i none) H { s with heap := h' } := by
 have k:∀b u,b≠X.env.locals->s.heap.get? b=some u->h'.get? b=some u := fun b u hb q => (hs.2 b hb).trans q
 have nl:∀b o,X.s₀.heap.get? b=some o->b≠X.env.locals := fun b o e => Nat.ne_of_lt (Nat.lt_of_lt_of_le (Heap.lt_size e) I.ok.above)
 refine ⟨I.ok,I.os,I.bare,⟨fun b o q n hb hx => k b o (nl b o q) (I.base.keep b o q n hb hx),fun b o q n hb hx => ?_,I.base.free,fun b o q hx => ?_,I.base.tups,I.base.frzs,I.base.tbls⟩,⟨_,hn,fun j x v e1 e2 hv => ?_⟩,fun x c e => ?_,I.free,I.freeC,fun p hp => ?_,fun b u e => ?_,?_⟩
 ·obtain ⟨sl,q1⟩ := I.base.slot b o q n hb hx
  exact ⟨sl,k b _ (nl b o q) q1⟩
 ·obtain ⟨o',q1⟩ := I.base.there b o q hx
  exact ⟨o',k b o' (nl b o q) q1⟩
 ·have hj:j≠i := fun z => by
   subst z
   rw [List.getElem?_set] at e2
   simp only [if_true] at e2
   split at e2 <;> cases e2
  rw [List.getElem?_set_ne (Ne.symm hj)] at e2
  have hx:x≠n := fun z => by
   subst z
   obtain ⟨l1,g1⟩ := List.getElem?_eq_some_iff.mp e1
   obtain ⟨l2,g2⟩ := List.getElem?_eq_some_iff.mp hi
   exact hj (zfF hN l1 l2 (g1.trans g2.symm))
  obtain ⟨u,r,lk⟩ := look j x v e1 e2 hv
  refine ⟨u,r,?_⟩
  rcases lk with ⟨q1,q2⟩|⟨q1,c,q2,o,q3,q4⟩
  ·exact .inl ⟨q1,by dsimp only;rw [if_neg hx];exact q2⟩
  ·exact .inr ⟨q1,c,q2,o,k c o (I.cne x c q2) q3,q4⟩
 ·obtain ⟨v,o,ho,hd⟩ := I.cell x c e
  exact ⟨v,o,k c o (I.cne x c e) ho,hd⟩
 ·obtain ⟨q1,q2,q3,q4⟩ := I.pin p hp
  exact ⟨k _ _ q3 q1,q2,q3,q4⟩
 ·refine (I.hok b u e).stay (fun c v hc q => k c v (fun z => ?_) q) (fun _ q => q) fun _ _ q => q
  have fr := I.free
  subst z
  rcases hc with z|z
  ·rw [z,e] at fr
   cases fr
  ·rw [z] at fr
   cases fr
 ·rw [List.length_set]
  exact I.len
end
section
variable {X:Cx}{body suite:List Stmt}{b₀:Stmt}{x n:Str}{np hpos pos:Pos}{W:Addr}{i:Nat}
end
section
variable {S:Se}{X:Cx}{σ:St}{B:Addr->Prop}{φ φ1:Ph}{H H1:Hp}{st:Store}{ρ:IC.Env}{D:Ends}{body suite:List Stmt}{b₀:Stmt}{x n:Str}{p p2 np hpos pos cpos:Pos}{W:Addr}{i:Nat}{cb ch:Css}{a e:Expr}{es:List Expr}{ca ce:Ce}{ces:Ces}
theorem RepE.drop {K:PySem.W.Frag}{cl:Nat->Addr}(r:RepE K cl B φ H ρ σ)(i:Nat):RepE K cl B φ H (ρ.set i none) (σ.set i none) := by
 refine ⟨by rw [List.length_set,List.length_set];exact r.len,fun j w e => ?_⟩
 by_cases h:j=i
 ·subst h
  rw [List.getElem?_set] at e
  simp only [if_true] at e
  split at e <;> cases e
 ·rw [List.getElem?_set_ne (Ne.symm h)] at e ⊢
  exact r.get j w e
noncomputable abbrev Se.quiet (S:Se):Se := { S with may := false }
theorem all_nil {P:Nat->Prop}:∀c∈([]:List Nat),P c := fun _ h => by cases h
theorem all_cons {P:Nat->Prop}{c:Nat}{cs:List Nat}(h:P c)(t:∀d∈cs,P d):∀d∈c::cs,P d := fun d hd => by
 rcases List.mem_cons.mp hd with e|e
 ·exact e ▸ h
 ·exact t d e
end
theorem Vals.repN {xs:List V}{us:List Value}(r:Vals xs us):∀k:Nat,Vals (List.replicate k xs).flatten (List.replicate k us).flatten
 |0 => .nil
 |k+1 => by
  rw [List.replicate_succ,List.replicate_succ,List.flatten_cons,List.flatten_cons]
  exact r.append (Vals.repN r k)
section
variable {S:Se}{X:Cx}{p pos p2 px apos:Pos}{a b:Expr}{ca cb:Ce}
theorem RepL.rep {K:PySem.W.Frag}{cl:Nat->Addr}{B:Addr->Prop}{φ:Ph}{H:Hp}{vs:List PV}{xs:List V}(l:RepL K cl B φ H vs xs):∀k:Nat,RepL K cl B φ H (List.replicate k vs).flatten (List.replicate k xs).flatten
 |0 => by simp [RepL]
 |k+1 => by
  rw [List.replicate_succ,List.replicate_succ,List.flatten_cons,List.flatten_cons]
  exact l.append (RepL.rep l k)
def GCI (mg:Str->Option Value)(x:Str)(i:Int):Prop := ∃t,mg x=some (.int i t)
theorem zji {x:Str}{i:Int}(hg:Gl X x)(h:GCI X.mg x i)(hd:(x == ("__debug__":Str))=false := by decide):PE X (.Name x pos) (tE S X (.cst (.int i))) := by
 obtain ⟨t,hm⟩ := h
 exact (zdH hg hm (show RelV (.int i) (.int i t) from ⟨t,rfl⟩) hd).imp fun σ H Q ⟨B,φ,st,ρ,rs,re,h⟩ => by
  simp only [ev] at h
  exact h.ok rs (by simp only [RepV])
theorem zgF {x:Str}{i:Int}(hg:Gl X x)(h:GCI X.mg x i)(hd:(x == ("__debug__":Str))=false := by decide):KqE X (.Name x pos) (tE S X (.cst (.int i))) := by with_unfolding_all exact zji hg h hd
end
end L2
namespace IC
open PySem
noncomputable def glue (c:Nat):List (List Nat)->List Nat
 | [] => []
 | [p] => p
 |p::q::r => p++c::glue c (q::r)
theorem zbQ {c:Nat}:∀{p:List Nat},c∉p->splitL c p=[p]
 | [],_ => rfl
 |x::p,h => by
  have h1:¬x=c := fun e => h (by simp [e])
  simp only [splitL,if_neg h1,zbQ (fun e => h (List.mem_cons_of_mem _ e):c∉p)]
theorem zcu {c:Nat}:∀{p:List Nat} (r:List Nat),c∉p->splitL c (p++c::r)=p::splitL c r
 | [],r,_ => by simp [splitL]
 |x::p,r,h => by
  have h1:¬x=c := fun e => h (by simp [e])
  simp only [List.cons_append,splitL,if_neg h1,zcu r (fun e => h (List.mem_cons_of_mem _ e):c∉p)]
theorem zcv {c:Nat}:∀{ps:List (List Nat)},ps≠[]->(∀p∈ps,c∉p)->splitL c (glue c ps)=ps
 | [],h,_ => absurd rfl h
 | [p],_,h => by simp only [glue];exact zbQ (h p (by simp))
 |p::q::r,_,h => by
  simp only [glue]
  rw [zcu _ (h p (by simp)),zcv (by simp) fun x hx => h x (List.mem_cons_of_mem _ hx)]
theorem zdY (a b:Str):(a++b).cps.toList=a.cps.toList++b.cps.toList := by
 show (a.cps++b.cps).toList=_
 simp
theorem zdA (c:Nat):∀ys:List Str,(Str.join ⟨#[c]⟩ ys).cps.toList=glue c (ys.map (·.cps.toList))
 | [] => rfl
 | [y] => rfl
 |y::z::r => by
  simp only [Str.join,List.map_cons,glue]
  rw [zdY,zdY,zdA c (z::r)]
  simp
theorem zfZ {a b:Str}(h:a.cps.toList=b.cps.toList):a=b := by
 cases a;cases b
 simp only [Str.mk.injEq]
 exact Array.toList_inj.mp h
theorem zgH (x:Str)(c:Nat):Txt.split x ⟨#[c]⟩=(splitL c x.cps.toList).map fun l => ⟨l.toArray⟩ := by
 have h1 := StrLaws.join_split x ⟨#[c]⟩
 have h2 := StrLaws.split_free x c
 have h3 := PyProof.Rows.split_pos x ⟨#[c]⟩
 have h4:x.cps.toList=glue c ((Txt.split x ⟨#[c]⟩).map (·.cps.toList)) := by rw [<- zdA,h1]
 rw [h4,zcv]
 ·rw [List.map_map]
  conv => lhs;rw [<- List.map_id (Txt.split x ⟨#[c]⟩)]
  refine List.map_congr_left fun a _ => zfZ ?_
  simp
 ·intro e
  have := congrArg List.length e
  simp at this
  rw [this] at h3
  simp at h3
 ·intro p hp
  obtain ⟨a,ha,rfl⟩ := List.mem_map.1 hp
  exact h2 a ha
end IC
namespace L2
open PySem PySem.Spec PyProof.Rows IC
section
variable {S:Se}{X:Cx}{σ:St}{B:Addr->Prop}{φ:Ph}{H:Hp}{p p2 pos pos2 apos:Pos}{a b tg:Expr}{ca cb:Ce}
noncomputable def rSplit:V->List V->Hp->VK->Prop := fun x vs H Q => ∃s c,x=.str s/\vs=[.str ⟨#[c]⟩]/\s.length<=100000/\∀l,H l=none->Q (.ref l) (upd H l (.lst ((splitL c s.cps.toList).map fun l => .str ⟨l.toArray⟩)))
theorem zdg:∀l:List (Str×Tok),Vals (l.map fun p => V.str p.1) (strValues l)
 | [] => .nil
 |p::l => .cons ⟨p.2,rfl⟩ (zdg l)
theorem zhe:MtR X "str.split" rSplit := by
 intro pins s σ H x vs v us Q I rx rv h
 obtain ⟨x,c,rfl,rfl,hz,q⟩ := h
 obtain ⟨t,rfl⟩ := rx
 obtain ⟨w,rfl,rw⟩ := vals1 rv
 obtain ⟨u,rfl⟩ := rw
 have hle:(Txt.split x ⟨#[c]⟩).length<=sizeLine := by
  have := PyProof.Rows.split_le x ⟨#[c]⟩
  rw [sizeLine_eq]
  omega
 have fin:∀(l:List (Str×Tok)) (tk:Nat),l.map (·.1)=Txt.split x ⟨#[c]⟩->EP X pins σ Q (.ref s.heap.objs.size) { s with heap := s.heap.push { cls := .type "list",data := .seq (strValues l).toArray },toks := tk } := fun l tk e => by
  have e2:l.map (fun p => V.str p.1)=(splitL c x.cps.toList).map fun l => .str ⟨l.toArray⟩ := by
   rw [zgH] at e
   have := congrArg (List.map V.str) e
   simpa [List.map_map,Function.comp_def] using this
  have hl:(l.map fun p => V.str p.1).length<=sizeLine := by
   rw [List.length_map,<- List.length_map (f := (·.1)),e];exact hle
  refine ⟨.ref s.heap.objs.size,_,I.laid (t' := tk) (fun b o e => Heap.get?_push_of_some _ e) (Nat.le_refl _) (show ObjOk X.prog X.w _ _ _ (.lst ((splitL c x.cps.toList).map fun l => .str ⟨l.toArray⟩)) from ?_),rfl,q _ (I.hok.fresh (Nat.le_refl _))⟩
  rw [<- e2]
  exact ⟨hl,strValues l,_,zdg l,Heap.get?_push_size _ rfl⟩
 have hsz:x.length<=sizeLine := by rw [sizeLine_eq];omega
 cases h1:(decide (x.length<(⟨#[c]⟩:Str).length) || decide (Builtin.Str.strKind x<Builtin.Str.strKind ⟨#[c]⟩))
 ·cases hf:(Builtin.Str.occurrences x ⟨#[c]⟩ 0 x.length (x.length+1)).isEmpty
  ·refine call_meets F.slot_str_split (typeIs_str _ _ _) F.entry_str_split (F.args_str_split_2 _ _) (PySem.meets_str_split_sep x ⟨#[c]⟩ t u h1 rfl hf hsz ?_) ?_
   ·have := hle
    unfold Txt.split at this
    rw [if_neg (ne_true_of_eq_false h1),if_neg (ne_true_of_eq_false hf)] at this
    exact this
   show wants _ _ _ { s with toks := _,heap := s.heap.push { cls := .type "list",data := .seq (strsFrom s.toks (Builtin.Str.partsBetween x (Builtin.Str.occurrences x ⟨#[c]⟩ 0 x.length (x.length+1)) (⟨#[c]⟩:Str).length)).toArray } }
   rw [strsFrom_eq]
   exact fin (numbered s.toks _) _ ((numbered_texts _ _).trans ((if_neg (ne_true_of_eq_false h1)).trans (if_neg (ne_true_of_eq_false hf))).symm)
  ·exact call_meets F.slot_str_split (typeIs_str _ _ _) F.entry_str_split (F.args_str_split_2 _ _) (PySem.meets_str_split_not_found x ⟨#[c]⟩ t u h1 rfl hf)
    (fin [(x,t)] _ ((if_neg (ne_true_of_eq_false h1)).trans (if_pos hf)).symm)
 ·exact call_meets F.slot_str_split (typeIs_str _ _ _) F.entry_str_split (F.args_str_split_2 _ _) (PySem.meets_str_split_cannot_occur x ⟨#[c]⟩ t u h1)
   (fin [(x,t)] _ (if_pos h1).symm)
theorem zd6 {c:Nat}{K:PySem.W.Frag}{cl:Nat->Addr}:∀ls:List (List Nat),RepL K cl B φ H (ls.map fun l => PV.str ⟨l.toArray⟩) (ls.map fun l => V.str ⟨l.toArray⟩)
 | [] => by simp [RepL]
 |l::ls => by
  simp only [List.map_cons,RepL]
  exact ⟨_,_,rfl,by simp only [RepV],zd6 (c := c) ls⟩
theorem zeX (st:Store)(y q:Str):(∃c,q=⟨#[c]⟩/\y.length<=100000/\splitV st (.str y) (.str q)=.ok (.lst ((splitL c y.cps.toList).map fun l => .str ⟨l.toArray⟩)) st) \/ splitV st (.str y) (.str q)=.bad := by
 simp only [splitV]
 split
 ·rename_i c hc
  split
  ·rename_i hz
   exact .inl ⟨c,zfZ (by rw [hc]),hz,rfl⟩
  ·exact .inr rfl
 ·exact .inr rfl
theorem zhh (ha:PE X a (tE S X ca))(hb:PE X b (tE S X cb))(hs:starEach [b] X.env=(false,eval b X.env)::starEach [] X.env := by rfl)(hbase:attributeBase a "split" X.env (eval a X.env)=eval a X.env := by rfl)(hline:(apos.endLine == pos.line)=true := by rfl)
  (hfew:((backTo pos (starEach [b] X.env)).all (fun x => !x.1) && (backToKw pos (keywordEach [] X.env)).all (fun x => x.1.isSome) && decide (([b]:List Expr).length+([]:List Keyword).length+(if ([]:List Keyword).isEmpty then 0 else 1)<30))=true := by rfl) (hany:(backTo pos (starEach [] X.env)).any (·.1)=false := by rfl) :
  PE X (.Call (.Attribute a "split" apos) [b] [] pos) (tE S X (.mth .split ca (.cons cb .nil))) :=
 (zkE PySem.F.plainAttrs_str PySem.F.slot_str_split PySem.F.type_str_split zhe ha (zfD (S := S) hb zhx hs) hbase hfew hline hs hany).imp fun σ H Q ⟨B,φ,st,ρ,rs,re,h⟩ => by
  simp only [ev] at h
  refine tE.bind rs re h fun x H1 v st1 φ1 s1 rs1 re1 rv h1 => ?_
  obtain ⟨_,e1,h1⟩ := zfk h1
  cases v with
  |str y =>
   simp only [RepV] at rv
   subst rv
   refine ⟨rfl,tAs.bind rs1 re1 h1 fun ys H2 vs st2 φ2 s2 rs2 re2 rvs h2 => ?_⟩
   rcases vs with _|⟨w,_|⟨w',t⟩⟩
   ·exact h2.elim
   ·obtain ⟨z,rfl,rw⟩ := rvs.one
    simp only [mthV] at h2
    cases w with
    |str q =>
     simp only [RepV] at rw
     subst rw
     rcases zeX st2 y q with ⟨c,rfl,hz,e⟩|e
     ·rw [e] at h2
      exact ⟨y,c,rfl,rfl,hz,fun l hl => h2 _ _ φ2 (.upd hl) (rs2.upd hl) (.lst_new hl rs2 (zd6 (c := c) _))⟩
     ·rw [e] at h2
      exact h2.elim
    |_ => exact h2.elim
   ·exact h2.elim
  |_ => cases e1
theorem zex (ha:KqE X a (tE S X ca))(hb:KqE X b (tE S X cb))(hs:starEach [b] X.env=(false,eval b X.env)::starEach [] X.env := by rfl)(hbase:attributeBase a "split" X.env (eval a X.env)=eval a X.env := by rfl)(hline:(apos.endLine == pos.line)=true := by rfl)
  (hfew:((backTo pos (starEach [b] X.env)).all (fun x => !x.1) && (backToKw pos (keywordEach [] X.env)).all (fun x => x.1.isSome) && decide (([b]:List Expr).length+([]:List Keyword).length+(if ([]:List Keyword).isEmpty then 0 else 1)<30))=true := by rfl) (hany:(backTo pos (starEach [] X.env)).any (·.1)=false := by rfl) :
  KqE X (.Call (.Attribute a "split" apos) [b] [] pos) (tE S X (.mth .split ca (.cons cb .nil))) := by with_unfolding_all exact zhh ha hb hs hbase hline hfew hany
end
inductive DRow (K:PySem.W.Frag)(cl:Nat->Addr)(w:World):List (Str×PV)->List DictEntry->Prop
 | nil:DRow K cl w [] []
 | cons {k:Str} {v:PV} {t:Tok} {u:Value} {x:V} {D:List (Str×PV)} {es:List DictEntry} (hr:RelV x u) (hv:∀B φ H,RepV K cl B φ H v x) (h:DRow K cl w D es):DRow K cl w ((k,v)::D) (⟨PyData.keyHash w.params k,.str k t,u⟩ :: es)
theorem DRow.pairs {K:PySem.W.Frag}{cl:Nat->Addr}{P:Program}{w:World}{D:List (Str×PV)}{es:List DictEntry}(h:DRow K cl w D es) :
  ∃vs:List (Str×Value),Pairs (strKind P w) es vs/\(∀e∈es,∃k,(strKind P w).is k e.key=true/\e.hash=(strKind P w).hash k)/\vs.map (·.1)=D.map (·.1) /\
   (∀s,(valueAt vs s).isSome=(dlook s D).isSome)/\∀s v,dlook s D=some v->∃u x,valueAt vs s=some u/\RelV x u/\∀B φ H,RepV K cl B φ H v x := by
 induction h with
 |nil => exact ⟨[],.nil,fun e he => (by cases he),rfl,fun s => rfl,fun s v e => by cases e⟩
 | @cons k v t u x D es hr hv h ih =>
  obtain ⟨vs,h1,h2,h3,h4,h5⟩ := ih
  have hat:∀s,valueAt ((k,u)::vs) s=if k=s then some u else valueAt vs s := fun s => by
   unfold valueAt
   rw [List.find?_cons]
   by_cases e:k=s
   ·simp [e]
   ·simp [e]
  refine ⟨(k,u)::vs,.cons (strKind_is P w k t) rfl h1,fun e he => ?_,by rw [List.map_cons,List.map_cons,h3],fun s => ?_,fun s v' e => ?_⟩
  ·rcases List.mem_cons.1 he with rfl|he
   ·exact ⟨k,strKind_is P w k t,rfl⟩
   ·exact h2 e he
  ·rw [hat,dlook]
   by_cases e:k=s
   ·rw [if_pos e,if_pos (by simpa using e)];rfl
   ·rw [if_neg e,if_neg (by simpa using e),h4]
  ·rw [dlook] at e
   rw [hat]
   by_cases q:k=s
   ·rw [if_pos (by simpa using q)] at e
    cases e
    exact ⟨u,x,by rw [if_pos q],hr,hv⟩
   ·rw [if_neg (by simpa using q)] at e
    obtain ⟨u',x',e1,e2,e3⟩ := h5 s v' e
    exact ⟨u',x',by rw [if_neg q];exact e1,e2,e3⟩
section
variable {S:Se}{X:Cx}{σ:St}{B:Addr->Prop}{φ:Ph}{H:Hp}{st:Store}{pos p:Pos}{a b i:Expr}{ca cb:Ce}{x:Str}{D:List (Str×PV)}{ty:TE}
end
section
variable {K:PySem.W.Frag}{cl:Nat->Addr}{B:Addr->Prop}{φ:Ph}{H:Hp}{st:Store}
end
section
variable {S:Se}{X:Cx}{K:PySem.W.Frag}{cl:Nat->Addr}{σ:St}{B:Addr->Prop}{φ φ1:Ph}{H H1:Hp}{st:Store}{ρ:IC.Env}{pos p p2 px:Pos}{a b c o tg l elt iter:Expr}{ca cb cc ce:Ce}{ci:Cit}{ct:Tg}
end
section
variable {K:PySem.W.Frag}{cl:Nat->Addr}{B:Addr->Prop}{φ:Ph}{H:Hp}{st:Store}
theorem FS.lookup {f:Str}:∀{fs:List (Str×PV)} {ks:List (Str×V)},FS K cl B φ H fs ks->(∀v,fs.lookup f=some v->∃x,ks.lookup f=some x/\RepV K cl B φ H v x)/\(fs.lookup f=none->ks.lookup f=none)
 | [],ks,h => by
  cases (show ks=[] from h)
  exact ⟨nofun,fun _ => rfl⟩
 | (k,v)::r,ks,h => by
  obtain ⟨x,s,rfl,rv,l⟩ := h
  obtain ⟨q1,q2⟩ := FS.lookup (f := f) l
  simp only [List.lookup]
  cases e:f == k with
  |true => exact ⟨fun w z => by cases z;exact ⟨x,rfl,rv⟩,fun z => by cases z⟩
  |false => exact ⟨q1,q2⟩
theorem FS.put {f:Str}{v:PV}{x:V}(r:RepV K cl B φ H v x):∀{fs:List (Str×PV)} {ks:List (Str×V)},FS K cl B φ H fs ks->FS K cl B φ H (putA f v fs) (putF f x ks)
 | [],ks,h => by
  cases (show ks=[] from h)
  exact ⟨x,[],rfl,r,rfl⟩
 | (k,w)::q,ks,h => by
  obtain ⟨y,s,rfl,ry,l⟩ := h
  simp only [putA,putF]
  by_cases c:k=f
  ·rw [if_pos c,if_pos c];exact ⟨x,s,rfl,r,l⟩
  ·rw [if_neg c,if_neg c];exact ⟨y,_,rfl,ry,FS.put r l⟩
theorem FS.len:∀{fs:List (Str×PV)} {ks:List (Str×V)},FS K cl B φ H fs ks->fs.length=ks.length
 | [],ks,h => by cases (show ks=[] from h);rfl
 | (k,w)::q,ks,h => by
  obtain ⟨y,s,rfl,ry,l⟩ := h
  simp [FS.len l]
theorem RepS.ins {n c:Nat}{fs:List (Str×PV)}{x:V}(rs:RepS K cl B φ H st)(r:RepV K cl B φ H (.loc n) x)(h:st[n]?=some (.ins c fs)):∃y ks dx,x=.ref y/\φ[n]?=some (some y)/\H y=some (.ins (cl c) dx ks)/\FS K cl B φ H fs ks := by
 simp only [RepV] at r
 obtain ⟨hn,y,rfl,hy⟩ := r
 obtain ⟨a,ha⟩ := rs.liv n _ h (by intro z;cases z)
 obtain ⟨o,ho,ro⟩ := rs.obj n a ha
 have e := hy a ha
 subst e
 rw [h] at ho
 cases ho
 obtain ⟨ks,⟨dx,q⟩,l⟩ := ro
 exact ⟨a,ks,dx,rfl,ha,q,l⟩
end
theorem RepV.inj_non {K:PySem.W.Frag}{cl:Nat->Addr}{B:Addr->Prop}{φ:Ph}{H:Hp}{v:PV}(h:RepV K cl B φ H v .non):v=.non := by
 cases v with
 |non => rfl
 |bl b => simp [RepV] at h
 |int b => simp [RepV] at h
 |str b => simp [RepV] at h
 |tp k b => simp only [RepV] at h;obtain ⟨_,_,e,_⟩ := h;cases e
 |lst b => simp only [RepV] at h;obtain ⟨_,_,e,_⟩ := h;cases e
 |loc b => simp only [RepV] at h;obtain ⟨_,_,e,_⟩ := h;cases e
 |exn b => simp only [RepV] at h;obtain ⟨_,e,_⟩ := h;cases e
 |scr b => simp only [RepV] at h;obtain ⟨_,_,e,_⟩ := h;cases e
section
variable {S:Se}{X:Cx}{σ:St}{B:Addr->Prop}{φ φ1:Ph}{H H1:Hp}{st:Store}{ρ:IC.Env}{p pos pos' p2 apos:Pos}{a b d o e:Expr}{ca cb cc:Ce}{es:List Expr}{ces:Ces}{c i k:Nat}{f m x:Str}{fa:Addr}{fd:FuncData}{ps:List Str}
theorem zfa {kk:PV}{kvs:List (PV×PV)}{v:PV}(h:look kk kvs=some v)(w:PV):(look kk kvs).getD w=v := by rw [h];rfl
end
section
variable {S:Se}{X:Cx}{σ:St}{B:Addr->Prop}{φ:Ph}{H:Hp}{st:Store}{p pos p2 px apos:Pos}{a b c d o tg l:Expr}{ca cb cc:Ce}{ct:Tg}{ss:List Stmt}{cs:Css}
theorem zg7 (ha:PE X a (tE S X ca))(hbase:attributeBase a "clear" X.env (eval a X.env)=eval a X.env := by rfl)(hline:(apos.endLine == pos.line)=true := by rfl):PE X (.Call (.Attribute a "clear" apos) [] [] pos) (tE S X (.mth .clear ca .nil)) :=
 (zju PySem.F.plainAttrs_list PySem.F.slot_list_clear PySem.F.type_list_clear zgX ha hbase hline).imp fun σ H Q ⟨B,φ,st,ρ,rs,re,h⟩ => by
  simp only [ev] at h
  refine tE.bind rs re h fun x H1 v st1 φ1 s1 rs1 re1 rv h1 => ?_
  obtain ⟨_,e1,h1⟩ := zfk h1
  simp only [evs,R.bind,mthV] at h1
  cases v with
  |loc n =>
   simp only [clrV] at h1
   split at h1
   ·rename_i zs hz
    obtain ⟨l',xs',e,hn,hx,lr⟩ := rs1.list rv hz
    subst e
    refine ⟨.inl ⟨rfl,xs',.inl (.inl hx)⟩,l',xs',rfl,rfl,hx,?_⟩
    exact h1 _ _ φ1 (.put (List.mem_of_getElem? hn)) (rs1.put hn ⟨[],zH,by simp only [RepL]⟩) (by simp only [RepV])
   ·exact h1.elim
  |_ => cases e1
theorem zet (ha:KqE X a (tE S X ca))(hbase:attributeBase a "clear" X.env (eval a X.env)=eval a X.env := by rfl)(hline:(apos.endLine == pos.line)=true := by rfl):KqE X (.Call (.Attribute a "clear" apos) [] [] pos) (tE S X (.mth .clear ca .nil)) := by with_unfolding_all exact zg7 ha hbase hline
noncomputable def rIsl (S:Se)(X:Cx):List V->Hp->VK->Prop := fun xs H Q => ∃B φ st v x z,xs=[x,.ty (tyN .list)]/\RepS X.K S.cl B φ H st/\RepV X.K S.cl B φ H v x/\islV st v=some z /\
 ∀z' H' φ',Step φ H φ' H'->RepS X.K S.cl B φ' H' st->RepV X.K S.cl B φ' H' z z'->Q z' H'
theorem zi0 (Z:KitT X.K .list):CallR X (.builtin "isinstance") (rIsl S X) := by
 rintro pins s σ H xs us Q I r ⟨B,φ,st,v,x,z,rfl,rs,rv,e,q⟩
 obtain ⟨u,c',rfl,ru,rc⟩ := vals2 r
 cases (show c'=Value.type (tyN .list) from rc)
 have fin:∀(k:Bool) (tk:Nat),z=.bl k->EP X pins σ Q (.bool k) { s with toks := tk } := fun k tk ez => ⟨.bl k,H,I.tok tk,rfl,q _ H φ .rfl rs (by subst ez;simp only [RepV])⟩
 cases v with
 |tp k vs =>
  simp only [RepV] at rv
  obtain ⟨y,ys,rfl,rt,l⟩ := rv
  cases (show u=Value.ref y from ru)
  simp only [islV] at e
  obtain ⟨its,_,⟨o,g,c,_,_⟩,_⟩ := I.tuple rt.sq
  exact PySem.W.kia_one PySem.W.kitx_tuple I.kIn ⟨o,g,c⟩ Z.p (fun z => nomatch z) fun tk => fin _ tk (by cases e;rfl)
 |loc n =>
  simp only [islV] at e
  cases e1:lstOf st (.loc n) with
  |none => rw [e1] at e;cases e
  |some ws =>
   rw [e1] at e
   obtain ⟨y,ys,rfl,hq,_⟩ := zcg rs rv e1
   cases (show u=Value.ref y from ru)
   obtain ⟨its,_,pl,_⟩ := I.list hq
   obtain ⟨o,g,c,_⟩ := pl.isList
   exact PySem.W.kia_one PySem.W.kitx_list I.kIn ⟨o,g,c⟩ Z.l (fun z => nomatch z) fun tk => fin _ tk (by cases e;rfl)
 |_ => cases e
theorem zjO {T:Str}(Z:KitT X.K .list)(hg:Gl X "isinstance")(hm:X.mg "isinstance"=none)(hgT:Gl X T)(hmT:X.mg T=none)(hT:bootBuiltins T=some (.type (tyN .list)))(ha:PE X a (tE S X ca))(hnT:T ≠ "__name__" := by decide)(hdT:(T == ("__debug__":Str))=false := by decide)
  (he:starEach [a,.Name T p2] X.env=(false,eval a X.env)::starEach [.Name T p2] X.env := by rfl) (hpl:(backTo pos (starEach [.Name T p2] X.env)).any (·.1)=false := by rfl) :
  PE X (.Call (.Name "isinstance" p) [a,.Name T p2] [] pos) (tE S X (.isl ca)) :=
 (zcG (zi0 Z) hg hm PyProof.Rows.boot_isinstance (zba ha (zba (zf3 (v := .ty (tyN .list)) hgT hmT hT rfl hnT hdT) pa_nil) he) (by decide) (by decide) he hpl).imp fun σ H Q ⟨B,φ,st,ρ,rs,re,h⟩ => by
  simp only [ev] at h
  refine tE.bind rs re h fun x H1 v st1 φ1 s1 rs1 re1 rv h1 => ?_
  obtain ⟨z,e,q⟩ := zac h1 rs1
  exact ⟨B,φ1,st1,v,x,z,rfl,rs1,rv,e,q⟩
theorem zgj {T:Str}(Z:KitT X.K .list)(hg:Gl X "isinstance")(hm:X.mg "isinstance"=none)(hgT:Gl X T)(hmT:X.mg T=none)(hT:bootBuiltins T=some (.type (tyN .list)))(ha:KqE X a (tE S X ca))(hnT:T ≠ "__name__" := by decide)(hdT:(T == ("__debug__":Str))=false := by decide)
  (he:starEach [a,.Name T p2] X.env=(false,eval a X.env)::starEach [.Name T p2] X.env := by rfl) (hpl:(backTo pos (starEach [.Name T p2] X.env)).any (·.1)=false := by rfl) :
  KqE X (.Call (.Name "isinstance" p) [a,.Name T p2] [] pos) (tE S X (.isl ca)) := by with_unfolding_all exact zjO Z hg hm hgT hmT hT ha hnT hdT he hpl
theorem zfL {D:Ends}{J:It}{H1:Hp}{xs:List PV}{st1:Store}{φ1:Ph}{ρ:IC.Env}(rs1:RepS X.K S.cl B φ1 H1 st1)(re1:RepE X.K S.cl B φ1 H1 ρ σ)(dr:Drw S X B φ1 H1 xs J)(h1:RunF S X B φ1 H1 (forL ct (fun ρ2 st2 => exs S.call ρ2 st2 cs) xs ρ st1) D) :
  ∃W:Nat->Nat->St->Hp->Prop,(∃m,W 0 m σ H1)/\∀i m σ H,W i m σ H ->
   (J.stop i H/\D.nx σ H) \/ (J.go i H/\∃N:St->Hp->Prop,(∀σ' H',N σ' H'->∃m',m' < m/\W (i+1) m' σ' H')/\∀x H',J.yld i H x H'->tG S X ct x σ H' fun σ2 H2 => tSs S X cs { D with nx := N,ct := N,bk := D.nx } σ2 H2) := by
 refine ⟨fun i m σ H => ∃φ st ρ,i+m=xs.length/\Step φ1 H1 φ H/\RepS X.K S.cl B φ H st/\RepE X.K S.cl B φ H ρ σ/\RunF S X B φ H (forL ct (fun ρ2 st2 => exs S.call ρ2 st2 cs) (xs.drop i) ρ st) D,
  ⟨xs.length,φ1,st1,ρ,by omega,.rfl,rs1,re1,by simpa using h1⟩,?_⟩
 rintro i m σ2 H2 ⟨φ2,st2,ρ2,hm,s2,rs2,re2,h2⟩
 by_cases hi:i<xs.length
 ·refine .inr ⟨dr.go i φ2 H2 s2 hi,fun σ' H' => ∃φ st ρ,Step φ1 H1 φ H'/\RepS X.K S.cl B φ H' st/\RepE X.K S.cl B φ H' ρ σ'/\RunF S X B φ H' (forL ct (fun ρ2 st2 => exs S.call ρ2 st2 cs) (xs.drop (i+1)) ρ st) D,
   fun σ' H' ⟨φ,st,ρ,s,q⟩ => ⟨m - 1,by omega,φ,st,ρ,by omega,s,q⟩,fun x H3 hy => ?_⟩
  obtain ⟨v,hv,rv,kk⟩ := dr.yld i φ2 H2 st2 x H3 B (fun _ z => .inl z) s2 rs2 hi hy
  have e:xs.drop i=v::xs.drop (i+1) := by
   rw [List.drop_eq_getElem_cons hi]
   rw [List.getElem?_eq_getElem hi] at hv
   rw [Option.some.inj hv]
  have s3:Step φ2 H2 φ2 H3 := ⟨fun b o _ e => kk b o e,Nat.le_refl _,fun _ _ _ e => e,fun _ h => .inl h⟩
  have rs3:RepS X.K S.cl B φ2 H3 st2 := rs2.same kk
  rw [e,forL] at h2
  cases eb:bindT ct v ρ2 with
  |none => rw [eb] at h2;exact h2.elim
  |some ρ3 =>
   rw [eb] at h2
   refine ⟨B,φ2,st2,ρ2,v,ρ3,rs3,re2.step s3,rv,eb,fun σ' re' => ⟨B,φ2,st2,ρ3,rs3,re',?_⟩⟩
   have h3 := RunF.on s3 h2
   dsimp only at h3
   cases ee:exs S.call ρ3 st2 cs with
   |nx ρ4 st4 =>
    rw [ee] at h3
    exact fun σ4 H4 φ4 s4 rs4 re4 => ⟨φ4,st4,ρ4,s2.trans (s3.trans s4),rs4,re4,RunF.on s4 h3⟩
   |ct ρ4 st4 =>
    rw [ee] at h3
    exact fun σ4 H4 φ4 s4 rs4 re4 => ⟨φ4,st4,ρ4,s2.trans (s3.trans s4),rs4,re4,RunF.on s4 h3⟩
   |bk ρ4 st4 => rw [ee] at h3;exact h3
   |rt v4 st4 => rw [ee] at h3;exact h3
   |exc k ρ4 st4 => rw [ee] at h3;exact h3
   |bad => rw [ee] at h3;exact h3
 ·have e:i=xs.length := by omega
  subst e
  rw [List.drop_length,forL] at h2
  exact .inl ⟨dr.stop φ2 H2 s2,h2 σ2 H2 φ2 .rfl rs2 re2⟩
theorem zg6 {D:Ends}{n:Nat}{y:Addr}{H1:Hp}{st1:Store}{φ1:Ph}{ρ:IC.Env}{f:Nat}(rs1:RepS X.K S.cl B φ1 H1 st1)(re1:RepE X.K S.cl B φ1 H1 ρ σ)(rv:RepV X.K S.cl B φ1 H1 (.loc n) (.ref y))(h1:RunF S X B φ1 H1 (forV ct (fun ρ2 st2 => exs S.call ρ2 st2 cs) n f 0 ρ st1) D) :
  ∃W:Nat->Nat->St->Hp->Prop,(∃m,W 0 m σ H1)/\∀i m σ H,W i m σ H ->
   ((Itl X.K y).stop i H/\D.nx σ H) \/ ((Itl X.K y).go i H/\∃N:St->Hp->Prop,(∀σ' H',N σ' H'->∃m',m' < m/\W (i+1) m' σ' H')/\∀x H',(Itl X.K y).yld i H x H'->tG S X ct x σ H' fun σ2 H2 => tSs S X cs { D with nx := N,ct := N,bk := D.nx } σ2 H2) := by
 refine ⟨fun i m σ H => ∃φ st ρ,Step φ1 H1 φ H/\RepS X.K S.cl B φ H st/\RepE X.K S.cl B φ H ρ σ/\RunF S X B φ H (forV ct (fun ρ2 st2 => exs S.call ρ2 st2 cs) n m i ρ st) D,
  ⟨f,φ1,st1,ρ,.rfl,rs1,re1,h1⟩,?_⟩
 rintro i m σ2 H2 ⟨φ2,st2,ρ2,s2,rs2,re2,h2⟩
 cases m with
 |zero => rw [forV] at h2;exact h2.elim
 |succ m =>
  unfold forV at h2
  cases e:st2[n]? with
  |none => rw [e] at h2;exact h2.elim
  |some ob =>
   rw [e] at h2
   cases ob with
   |lst xs =>
    dsimp only at h2
    have rv2 := rv.step s2
    have hlo:lstOf st2 (.loc n)=some xs := by simp only [lstOf,e]
    obtain ⟨y',us,ey,hq,l⟩ := zcg rs2 rv2 hlo
    cases ey
    have hl := l.length
    cases ex:xs[i]? with
    |none =>
     rw [ex] at h2
     have:xs.length<=i := by
      rcases Nat.lt_or_ge i xs.length with z|z
      ·rw [List.getElem?_eq_getElem z] at ex;cases ex
      ·exact z
     exact .inl ⟨⟨us,hq,by omega⟩,h2 σ2 H2 φ2 .rfl rs2 re2⟩
    |some v =>
     rw [ex] at h2
     dsimp only at h2
     obtain ⟨x,hx,rx⟩ := l.get i ex
     refine .inr ⟨⟨us,x,hq,hx⟩,fun σ' H' => ∃φ st ρ,Step φ1 H1 φ H'/\RepS X.K S.cl B φ H' st/\RepE X.K S.cl B φ H' ρ σ'/\RunF S X B φ H' (forV ct (fun ρ2 st2 => exs S.call ρ2 st2 cs) n m (i+1) ρ st) D,
      fun σ' H' ⟨φ,st,ρ,s,q⟩ => ⟨m,Nat.lt_succ_self m,φ,st,ρ,s,q⟩,fun x' H3 hy => ?_⟩
     obtain ⟨e3,hy⟩ := hy
     subst e3
     have := hy us hq
     rw [hx] at this
     cases this
     cases eb:bindT ct v ρ2 with
     |none => rw [eb] at h2;exact h2.elim
     |some ρ3 =>
      rw [eb] at h2
      refine ⟨B,φ2,st2,ρ2,v,ρ3,rs2,re2,rx,eb,fun σ' re' => ⟨B,φ2,st2,ρ3,rs2,re',?_⟩⟩
      dsimp only at h2
      cases ee:exs S.call ρ3 st2 cs with
      |nx ρ4 st4 =>
       rw [ee] at h2
       exact fun σ4 H4 φ4 s4 rs4 re4 => ⟨φ4,st4,ρ4,s2.trans s4,rs4,re4,RunF.on s4 h2⟩
      |ct ρ4 st4 =>
       rw [ee] at h2
       exact fun σ4 H4 φ4 s4 rs4 re4 => ⟨φ4,st4,ρ4,s2.trans s4,rs4,re4,RunF.on s4 h2⟩
      |bk ρ4 st4 => rw [ee] at h2;exact h2
      |rt v4 st4 => rw [ee] at h2;exact h2
      |exc k ρ4 st4 => rw [ee] at h2;exact h2
      |bad => rw [ee] at h2;exact h2
   |_ => exact h2.elim
theorem zh5 (hp:PassesOwn (model X.prog X.w) X.A X.env X.xe)(hc:X.calm=true)(hi:PE X l (tE S X ca))(hg:PG X tg (tG S X ct))(hb:PSs X ss (tSs S X cs))(hs:∀x,foldedSetIterable l X.env x=pure x := by intro _;rfl) :
  PS X (.For tg l ss [] pos) (tS S X (.forl ct ca cs)) :=
 (zho hp hc (zhs hi) hg hb hs).imp fun D σ H ⟨B,φ,st,ρ,rs,re,h⟩ => by
  simp only [ex] at h
  refine tE.fl rs re h fun x H1 v st1 φ1 s1 rs1 re1 rv h1 => ?_
  cases v with
  |tp k vs =>
   simp only [RepV] at rv
   obtain ⟨y,xs,rfl,rt,l⟩ := rv
   exact ⟨y,rfl,.inr ⟨⟨xs,rt.sq⟩,zfL rs1 re1 (zfU rt l) h1⟩⟩
  |lst vs =>
   simp only [RepV] at rv
   obtain ⟨y,xs,rfl,rt,l⟩ := rv
   exact ⟨y,rfl,.inl ⟨⟨xs,rt.sq⟩,zfL rs1 re1 (zfP rt l) h1⟩⟩
  |loc n =>
   dsimp only at h1
   unfold forV at h1
   cases e:st1[n]? with
   |none => rw [e] at h1;exact h1.elim
   |some ob =>
    cases ob with
    |lst zs =>
     have hlo:lstOf st1 (.loc n)=some zs := by simp only [lstOf,e]
     obtain ⟨y,us,rfl,hq,_⟩ := zcg rs1 rv hlo
     refine ⟨y,rfl,.inl ⟨⟨us,hq⟩,zg6 (f := 100000) rs1 re1 rv ?_⟩⟩
     unfold forV
     exact h1
    |_ => rw [e] at h1;exact h1.elim
  |_ => exact h1.elim
theorem zc9 (hp:PassesOwn (model X.prog X.w) X.A X.env X.xe)(hc:X.calm=true)(hi:KqE X l (tE S X ca))(hg:KqG X tg (tG S X ct))(hb:KqSs X ss (tSs S X cs))(hs:∀x,foldedSetIterable l X.env x=pure x := by intro _;rfl) :
  KqS X (.For tg l ss [] pos) (tS S X (.forl ct ca cs)) := by with_unfolding_all exact zh5 hp hc hi hg hb hs
noncomputable def trE (S:Se)(K:PySem.W.Frag):List Str->Ces->List (TE×TE)
 |k::ks,.cons e es => (tC (.str k),tE0 S K e)::trE S K ks es
 |_,_ => []
theorem zjG:PPs X pos [] [] (trE S X.K [] .nil) := ziG
theorem zgp:KqPs X pos [] [] (trE S X.K [] .nil) := by with_unfolding_all exact zjG
theorem zie {ks:List (Option Expr)}{vs:List Expr}{ns:List Str}{es:Ces}{x:Str}{j1:Nat}{p1:Pos}{e:Expr}{ce:Ce}(he:PE X e (tE S X ce))(h:PPs X pos ks vs (trE S X.K ns es)):PPs X pos (some (.Constant (.str x) j1 p1)::ks) (e::vs) (trE S X.K (x::ns) (.cons ce es)) := zgw pe_str (zeY rfl he) h
theorem zcf {ks:List (Option Expr)}{vs:List Expr}{ns:List Str}{es:Ces}{x:Str}{j1:Nat}{p1:Pos}{e:Expr}{ce:Ce}(he:KqE X e (tE S X ce))(h:KqPs X pos ks vs (trE S X.K ns es)):KqPs X pos (some (.Constant (.str x) j1 p1)::ks) (e::vs) (trE S X.K (x::ns) (.cons ce es)) := by with_unfolding_all exact zie he h
theorem zdn {K:PySem.W.Frag}:∀(ks:List Str) (es:Ces) {B:Addr->Prop} {φ:Ph} {H:Hp} {st st':Store} {ρ:IC.Env} {vs:List PV} {Q:List (V×V)->Hp->Prop},RepS K S.cl B φ H st->RepE K S.cl B φ H ρ σ->evs S.call ρ st es=.ok vs st'->ks.length=vs.length ->
  (∀ys H' φ',Step φ H φ' H'->RepS K S.cl B φ' H' st'->RepL K S.cl B φ' H' vs ys->Q ((ks.zip ys).map fun kv => (.str kv.1,kv.2)) H')->tPairs (trE S K ks es) σ H Q
 |ks,.nil,B,φ,H,st,st',ρ,vs,Q,rs,re,he,hl,n => by
  simp only [evs] at he
  cases he
  cases ks with
  |nil => exact n [] H φ .rfl rs (by simp only [RepL])
  |cons k ks => simp at hl
 | [],.cons e es,B,φ,H,st,st',ρ,vs,Q,rs,re,he,hl,n => by
  simp only [evs] at he
  obtain ⟨v,s1,e1,he⟩ := zaM he
  obtain ⟨ws,s2,e2,he⟩ := zaM he
  cases he
  simp at hl
 |k::ks,.cons e es,B,φ,H,st,st',ρ,vs,Q,rs,re,he,hl,n => by
  simp only [evs] at he
  obtain ⟨v,s1,e1,he⟩ := zaM he
  obtain ⟨ws,s2,e2,he⟩ := zaM he
  cases he
  show tE0 S K e σ H fun y H2 => tPairs (trE S K ks es) σ H2 fun ps H3 => Q ((.str k,y)::ps) H3
  refine ⟨B,φ,st,ρ,rs,re,?_⟩
  rw [e1]
  intro y H2 φ2 t2 rs2 ry
  refine zdn ks es rs2 (re.step t2) e2 (by simpa using hl) fun ys H3 φ3 t3 rs3 l => ?_
  have := n (y::ys) H3 φ3 (t2.trans t3) rs3 (by simp only [RepL];exact ⟨y,ys,rfl,ry.step t3,l⟩)
  simpa using this
theorem DK.foldE {K:PySem.W.Frag}{cl:Nat->Addr}:∀(ns:List Str) {vs:List PV} {ys:List V} {acc:List (PV×PV)} {ks:List (Key×V)},RepL K cl B φ H vs ys->DK K cl B φ H acc ks ->
  DK K cl B φ H ((ns.zip vs).foldl (fun acc kv => IC.put (.str kv.1) kv.2 acc) acc) (mergeK ks ((ns.zip ys).map fun kv => (Sum.inr kv.1,kv.2)))
 | [],vs,ys,acc,ks,l,d => by simpa [mergeK] using d
 |n::ns,[],ys,acc,ks,l,d => by
  simp only [RepL] at l
  subst l
  simpa [mergeK] using d
 |n::ns,v::vs,ys,acc,ks,l,d => by
  simp only [RepL] at l
  obtain ⟨y,zs,rfl,r,l⟩ := l
  unfold mergeK
  simp only [List.zip_cons_cons,List.foldl_cons,List.map_cons]
  exact DK.foldE ns l (d.put (q := Sum.inr n) r)
theorem zhR (hu:X.A.units+1<cLine){ks:List (Option Expr)}{vs:List Expr}{ns:List Str}{es:Ces}(h:PPs X p2 ks vs (trE S X.K ns es))(hb:PE X b (tE S X cb))(hall:ks.all (·.isSome)=true := by rfl)(hl:ks.length=vs.length := by rfl)(h0:ks≠[] := by simp)(h15:ks.length<=15 := by decide)(hs:NoSl b := by exact fun _ _ => rfl) :
  PE X (.Subscript (.Dict ks vs p2) b pos) (tE S X (.dsub ns es cb)) :=
 (zh0 hu (ziu h hall hl h0 h15) hb hs).imp fun σ H Q ⟨B,φ,st,ρ,rs,re,h⟩ => by
  simp only [ev] at h
  cases e:evs S.call ρ st es with
  |exc k s1 => rw [e] at h;exact h.elim
  |bad => rw [e] at h;exact h.elim
  |ok ws st1 =>
   rw [e] at h
   dsimp only at h
   intro p hp
   split at h
   case isFalse => exact h.elim
   case isTrue hlen =>
    have np:some p∉φ := fun z => by
     obtain ⟨w,e⟩ := rs.there z
     rw [hp] at e;cases e
    have su:Step φ H φ (L2.upd H p (.dK [])) := .upd hp
    refine zdn ns es (B := Bx B p) (rs.more hp) (re.more hp) e hlen.1 fun ys H2 φ2 s2 rs2 l2 => ?_
    have hl2 := l2.length
    have np2:some p∉φ2 := fun z => by
     rcases s2.new p z with q|q
     ·exact np q
     ·rw [zH] at q;cases q
    have hBp:Bx B p p := .inr rfl
    refine ⟨s2.keep p _ np zH,(ns.zip ys).map fun kv => (Sum.inr kv.1,kv.2),by simp [kV],by simp;omega,?_⟩
    obtain ⟨H3,hH3⟩:∃H3,H3=L2.upd H2 p (.dK (mergeK [] ((ns.zip ys).map fun kv => (Sum.inr kv.1,kv.2)))) := ⟨_,rfl⟩
    rw [<- hH3]
    have hs3:Step φ H φ2 H3 := by
     have s02 := su.trans s2
     exact ⟨fun b o n q => by rw [hH3,zp (zx q hp)];exact s02.keep b o n q,s02.len,s02.pre,s02.new⟩
    have rs3:RepS X.K S.cl (Bx B p) φ2 H3 st1 := by rw [hH3];exact rs2.skip hBp
    have l3:RepL X.K S.cl (Bx B p) φ2 H3 ws ys := by rw [hH3];exact RepL.skip hBp _ _ l2
    have d3:DK X.K S.cl (Bx B p) φ2 H3 ((ns.zip ws).foldl (fun acc kv => IC.put (.str kv.1) kv.2 acc) []) (mergeK [] ((ns.zip ys).map fun kv => (Sum.inr kv.1,kv.2))) := DK.foldE ns l3 rfl
    refine tE.bind rs3.less (re.step hs3) (Run.on hs3 h) fun y H4 w st4 φ4 s4 rs4 re4 rw h4 => ?_
    obtain ⟨z,ez,q⟩ := zac h4 rs4
    cases w with
    |str kq =>
     simp only [dsubV] at ez
     simp only [RepV] at rw
     subst rw
     have hp4:H4 p=some (.dK (mergeK [] ((ns.zip ys).map fun kv => (Sum.inr kv.1,kv.2)))) := s4.keep p _ np2 (by rw [hH3];exact zH)
     have d4:DK X.K S.cl B φ4 H4 ((ns.zip ws).foldl (fun acc kv => IC.put (.str kv.1) kv.2 acc) []) (mergeK [] ((ns.zip ys).map fun kv => (Sum.inr kv.1,kv.2))) := DK.step s4 d3.less
     obtain ⟨vv,hv,rvv⟩:∃vv,valV (mergeK [] ((ns.zip ys).map fun kv => (Sum.inr kv.1,kv.2))) (Sum.inr kq)=some vv/\RepV X.K S.cl B φ4 H4 z vv := by
      have hn := DK.look (q := Sum.inr kq) d4 (v := .non) (x := .non) (by simp only [RepV])
      have hb := DK.look (q := Sum.inr kq) d4 (v := .bl true) (x := .bl true) (by simp only [RepV])
      rw [keyP,zfa ez] at hn hb
      cases hv:valV (mergeK [] ((ns.zip ys).map fun kv => (Sum.inr kv.1,kv.2))) (Sum.inr kq) with
      |some vv => rw [hv] at hn;exact ⟨vv,rfl,hn⟩
      |none =>
       rw [hv] at hn hb
       exact absurd (RepV.inj_non hn) (fun ez => by subst ez;simp [RepV] at hb)
     exact ⟨p,vv,rfl,.inl ⟨_,Sum.inr kq,.inl hp4,by simp [kV],hv.symm⟩,q vv H4 φ4 .rfl rs4 rvv⟩
    |_ => cases ez
theorem zeT (hu:X.A.units+1<cLine){ks:List (Option Expr)}{vs:List Expr}{ns:List Str}{es:Ces}(h:KqPs X p2 ks vs (trE S X.K ns es))(hb:KqE X b (tE S X cb))(hall:ks.all (·.isSome)=true := by rfl)(hl:ks.length=vs.length := by rfl)(h0:ks≠[] := by simp)(h15:ks.length<=15 := by decide)(hs:NoSl b := by exact fun _ _ => rfl) :
  KqE X (.Subscript (.Dict ks vs p2) b pos) (tE S X (.dsub ns es cb)) := by with_unfolding_all exact zhR hu h hb hall hl h0 h15 hs
end
inductive FRow (w:World)(fa:Nat->Addr):List (Str×Nat)->List DictEntry->Prop
 | nil:FRow w fa [] []
 | cons {k:Str} {i:Nat} {t:Tok} {D:List (Str×Nat)} {es:List DictEntry} (h:FRow w fa D es):FRow w fa ((k,i)::D) (⟨PyData.keyHash w.params k,.str k t,.ref (fa i)⟩ :: es)
def GDF (K:PySem.W.Frag)(w:World)(mg:Str->Option Value)(fa:Nat->Addr)(x:Str)(D:List (Str×Nat)):Prop :=
 ∃(y:Addr) (es:Array DictEntry) (ep:Nat),mg x=some (.ref y)/\K.lookup y=some ⟨.type "dict",none,.dict es ep,#[]⟩/\FRow w fa D es.toList/\(D.map (·.1)).Nodup
theorem FRow.pairs {P:Program}{w:World}{fa:Nat->Addr}{D:List (Str×Nat)}{es:List DictEntry}(h:FRow w fa D es) :
  ∃vs:List (Str×Value),Pairs (strKind P w) es vs/\(∀e∈es,∃k,(strKind P w).is k e.key=true/\e.hash=(strKind P w).hash k)/\vs.map (·.1)=D.map (·.1) /\
   ∀s i,D.lookup s=some i->valueAt vs s=some (.ref (fa i)) := by
 induction h with
 |nil => exact ⟨[],.nil,fun e he => (by cases he),rfl,fun s v e => by cases e⟩
 | @cons k i t D es h ih =>
  obtain ⟨vs,h1,h2,h3,h5⟩ := ih
  have hat:∀s,valueAt ((k,Value.ref (fa i))::vs) s=if k=s then some (.ref (fa i)) else valueAt vs s := fun s => by
   unfold valueAt
   rw [List.find?_cons]
   by_cases e:k=s
   ·simp [e]
   ·simp [e]
  refine ⟨(k,.ref (fa i))::vs,.cons (strKind_is P w k t) rfl h1,fun e he => ?_,by rw [List.map_cons,List.map_cons,h3],fun s j e => ?_⟩
  ·rcases List.mem_cons.1 he with rfl|he
   ·exact ⟨k,strKind_is P w k t,rfl⟩
   ·exact h2 e he
  ·rw [hat]
   simp only [List.lookup] at e
   by_cases q:k=s
   ·subst q
    rw [beq_self_eq_true] at e
    cases e
    rw [if_pos rfl]
   ·rw [beq_eq_false_iff_ne.2 (Ne.symm q)] at e
    rw [if_neg q]
    exact h5 s j e
section
variable {S:Se}{X:Cx}{σ:St}{B:Addr->Prop}{φ:Ph}{H:Hp}{st:Store}{ρ:IC.Env}{pos p p1 p2 p3 p4 p5 p6 p7:Pos}{a b i e n:Expr}{es:List Expr}{ca cn:Ce}{ces:Ces}{x y:Str}{D:List (Str×Nat)}{ty:TE}{t:TA}{fa:Nat->Addr}{fdd:Nat->FuncData}{ps:Nat->List Str}{k ix:Nat}
noncomputable def tKGetF (D:List (Str×Nat))(fa:Nat->Addr)(ty:TE):TE := fun σ H Q => ty σ H fun z H2 => ∃s j,z=.str s/\D.lookup s=some j/\Q (.ref (fa j)) H2
theorem zgE (hg:Gl X x)(h:GDF X.K X.w X.mg fa x D)(hi:PE X i ty)(hs:NoSl i)(hd:(x == ("__debug__":Str))=false := by decide):PE X (.Subscript (.Name x p) i pos) (tKGetF D fa ty) := by
 obtain ⟨y,es,ep,hm,hk,hr,hn⟩ := h
 obtain ⟨vs,h1,h2,h3,h5⟩ := hr.pairs (P := X.prog)
 intro pins s σ H Q I q0
 refine zfT PySem.F.slot_dict_getitem.lookup hs (thn (zdH (v := .ref y) hg hm rfl hd pins s σ H (fun z H1 => z=.ref y/\ty σ H1 fun z H2 => ∃s j,z=.str s/\D.lookup s=some j/\Q (.ref (fa j)) H2) I ⟨rfl,q0⟩) fun u s1 ⟨z,H1,I1,rz,ez,q1⟩ => thn (hi pins s1 σ H1 _ I1 q1) fun iv s2 ⟨z2,H2,I2,rz2,sx,j,ez2,e,q2⟩ => ?_)
 subst ez
 subst ez2
 obtain rfl:u=Value.ref y := rz
 obtain ⟨t,rfl⟩ := rz2
 have dd:s2.heap.DictOf (strKind X.prog X.w) y vs := ⟨_,es,ep,I2.kIn y _ hk,⟨rfl,rfl,rfl⟩,rfl,fun e he => h2 e (by simpa using he),h1,by rw [h3];exact hn⟩
 exact ⟨dd.typeIs,wpAny_getItem_of (strKind_is X.prog X.w sx t) dd.mapOf (h5 sx j e) ⟨.ref (fa j),H2,I2.tok _,rfl,q2⟩⟩
structure Makers (S:Se)(X:Cx)(k:Nat)(D:List (Str×Nat))(fa:Nat->Addr)(fdd:Nat->FuncData)(ps:Nat->List Str):Prop where
 F:∀s j,D.lookup s=some j->FnOk X.prog X.w X.K X.mg X.base (CX1 X.prog X.w) k (fa j) (fdd j) (ps j) (spI X.K S.cl S.call j)
 kp:∀s j,D.lookup s=some j->PySem.W.keepIn X.K (.ref (fa j))=true
 b:∀s j,D.lookup s=some j->Binds X.K (fdd j) (ps j) []
noncomputable def tCallV (S:Se)(X:Cx)(D:List (Str×Nat))(fa:Nat->Addr)(ix:Nat)(t:TA):TE := fun σ H Q => ∃s j,D.lookup s=some j/\σ[ix]?=some (some (.ref (fa j)))/\t σ H fun vs H1 => ∃E:XK,spI X.K S.cl S.call j vs H1 Q E/\∀pins s e s',Inv X pins σ H1 s->CX1 X.prog X.w X.stack H1 s E e s'->X.xe e s'
theorem zgW (M:Makers S X k D fa fdd ps)(hr:Room k X.A)(hN:X.N[ix]?=some x)(hv:Vis X.env.scope x)(ha:PA X (e::es) t)
  (hd:(x == ("__debug__":Str))=false := by decide) (hcd:(x == ("__classdict__":Str))=false := by decide) (he:starEach (e::es) X.env=(false,eval e X.env)::starEach es X.env := by rfl) (hpl:(backTo pos (starEach es X.env)).any (·.1)=false := by rfl) :
  PE X (.Call (.Name x p) (e::es) [] pos) (tCallV S X D fa ix t) := by
 intro pins s σ H Q I ⟨sx,j,hl,hs,h⟩
 refine wpAny_Call_Name_kw (thn (zhr hN hv hd hcd pins s σ H (fun z H1 => z=.ref (fa j)/\t σ H1 fun vs H1 => ∃E:XK,spI X.K S.cl S.call j vs H1 Q E/\∀pins s e s',Inv X pins σ H1 s->CX1 X.prog X.w X.stack H1 s E e s'->X.xe e s') I ⟨_,hs,rfl,h⟩) fun u s1 ⟨z,H1,I1,rz,ez,q1⟩ => ?_)
 subst ez
 obtain rfl:u=Value.ref (fa j) := rz
 refine PySem.W.callWith_K (h₀ := X.base) I.ok.mod.kin (M.kp sx j hl) (thn (ha pos pins s1 σ H1 _ I1 q1) fun us s2 ⟨vs,H2,I2,r,E,q,hx⟩ => ⟨I2.kIn,?_⟩) he hpl
 exact zdK (M.F sx j hl) hr (M.b sx j hl) .nil I2 r (by rw [List.append_nil];exact q) fun e s' c => hx pins s2 e s' I2 c
theorem RepE.hole {K:PySem.W.Frag}{cl:Nat->Addr}{v:V}(re:RepE K cl B φ H ρ σ):RepE K cl B φ H (ρ.set ix none) (σ.set ix (some v)) := by
 refine ⟨by simp [re.len],fun j w e => ?_⟩
 by_cases q:ix=j
 ·subst q
  by_cases hj:ix<ρ.length
  ·rw [List.getElem?_set_self hj] at e;cases e
  ·rw [List.getElem?_eq_none (by simp;omega)] at e;cases e
 ·rw [List.getElem?_set_ne q] at e ⊢
  exact re.get j w e
theorem zgk {v:PV}{j:Nat}{b:Bool}(h:mkV D b v=some j):∃s,v=.str s/\D.lookup s=some j/\b=true := by
 cases v with
 |str s =>
  cases b with
  |true => exact ⟨s,rfl,h,rfl⟩
  |false => cases h
 |_ => cases h
theorem zjw (M:Makers S X k D fa fdd ps)(hr:Room k X.A)(hN:X.N.Nodup)(hi:X.N[ix]?=some x)(hx:Loc X.env.scope x)(hv:Vis X.env.scope x)(hg:Gl X y)(hd:GDF X.K X.w X.mg fa y D)(hn:PE X n (tE S X cn))(ha:PA X (e::es) (tAs S X ces))
  (hs:NoSl n := by exact fun _ _ => rfl) (hsw:swapsWith (.Subscript (.Name y p2) n p3) (some (.Name x p1)) p4.line X.env=pure false := by rfl) (hf:X.fn x=true \/ X.env.scope.names.lookup x=some .local := by first|exact .inl rfl|exact .inr rfl|assumption)
  (hyd:(y == ("__debug__":Str))=false := by decide) (hxd:(x == ("__debug__":Str))=false := by decide) (hcd:(x == ("__classdict__":Str))=false := by decide) (he:starEach (e::es) X.env=(false,eval e X.env)::starEach es X.env := by rfl) (hpl:(backTo p6 (starEach es X.env)).any (·.1)=false := by rfl) :
  PSs X [.Assign [.Name x p1] (.Subscript (.Name y p2) n p3) p4,.Return (some (.Call (.Name x p5) (e::es) [] p6)) p7] (tSs S X (.cons (.mkr ix D cn ces) .nil)) :=
 (zdV (zhv hN hi hx (zgE hg hd hn hs hyd) hsw hf) (zhQ (zhm (zgW M hr hi hv ha hxd hcd he hpl)))).imp fun D' σ H ⟨B,φ,st,ρ,rs,re,h⟩ => by
  have h:RunF S X B φ H (ex S.call ρ st (.mkr ix D cn ces)) D' := by
   simp only [exs] at h
   cases q:ex S.call ρ st (.mkr ix D cn ces) with
   |nx ρ' s' =>
    exfalso
    simp only [ex] at q
    cases q1:ev S.call ρ st cn with
    |ok v1 s1 =>
     rw [q1] at q
     simp only [R.fl] at q
     split at q
     ·rename_i j _
      cases q2:(evs S.call (ρ.set ix none) s1 ces).bind fun vs st2 => S.call j vs st2 with
      |ok v2 s2 => rw [q2] at q;cases q
      |exc c s2 => rw [q2] at q;cases q
      |bad => rw [q2] at q;cases q
     ·cases q
    |exc c s1 => rw [q1] at q;cases q
    |bad => rw [q1] at q;cases q
   |rt v s' => rw [q] at h;exact h
   |bk ρ' s' => rw [q] at h;exact h
   |ct ρ' s' => rw [q] at h;exact h
   |exc c ρ' s' => rw [q] at h;exact h
   |bad => rw [q] at h;exact h
  simp only [ex] at h
  refine tE.fl rs re h fun x' H1 v st1 φ1 s1 rs1 re1 rv h1 => ?_
  cases q:mkV D (decide (ix<ρ.length)) v with
  |none => rw [q] at h1;exact h1.elim
  |some j =>
   rw [q] at h1
   obtain ⟨sx,rfl,hl,hb⟩ := zgk q
   simp only [RepV] at rv
   subst rv
   have hlen:ix<σ.length := by
    rw [<- re1.len]
    exact of_decide_eq_true hb
   refine ⟨sx,j,rfl,hl,sx,j,hl,by rw [List.getElem?_set_self hlen],B,φ1,st1,ρ.set ix none,rs1,re1.hole,?_⟩
   dsimp only at h1
   cases q2:evs S.call (ρ.set ix none) st1 ces with
   |bad => rw [q2] at h1;exact h1
   |exc c s2 => rw [q2] at h1;exact fun e s' z => h1 _ φ1 H1 e s' .rfl re1.hole z
   |ok vs st2 =>
    rw [q2] at h1
    intro xs H2 φ2 s2 rs2 rl
    have h2:RunF S X B φ1 H1 ((S.call j vs st2).fl (ρ.set ix none) fun v st3 => .rt v st3) D' := h1
    refine zb7 rs2 rl ?_
    cases q3:S.call j vs st2 with
    |bad => rw [q3] at h2;exact h2
    |ok v st3 => rw [q3] at h2;exact fun x H' φ' s' rs' rv => h2 x H' φ' (s2.trans s') rs' rv
    |exc c st3 => rw [q3] at h2;exact fun e s' z => h2 _ φ2 H2 e s' s2 (re1.hole.step s2) z
theorem zhd (M:Makers S X k D fa fdd ps)(hr:Room k X.A)(hN:X.N.Nodup)(hi:X.N[ix]?=some x)(hx:Loc X.env.scope x)(hv:Vis X.env.scope x)(hg:Gl X y)(hd:GDF X.K X.w X.mg fa y D)(hn:KqE X n (tE S X cn))(ha:KqA X (e::es) (tAs S X ces))
  (hs:NoSl n := by exact fun _ _ => rfl) (hsw:swapsWith (.Subscript (.Name y p2) n p3) (some (.Name x p1)) p4.line X.env=pure false := by rfl) (hf:X.fn x=true \/ X.env.scope.names.lookup x=some .local := by first|exact .inl rfl|exact .inr rfl|assumption)
  (hyd:(y == ("__debug__":Str))=false := by decide) (hxd:(x == ("__debug__":Str))=false := by decide) (hcd:(x == ("__classdict__":Str))=false := by decide) (he:starEach (e::es) X.env=(false,eval e X.env)::starEach es X.env := by rfl) (hpl:(backTo p6 (starEach es X.env)).any (·.1)=false := by rfl) :
  KqSs X [.Assign [.Name x p1] (.Subscript (.Name y p2) n p3) p4,.Return (some (.Call (.Name x p5) (e::es) [] p6)) p7] (tSs S X (.cons (.mkr ix D cn ces) .nil)) := by with_unfolding_all exact zjw M hr hN hi hx hv hg hd hn ha hs hsw hf hyd hxd hcd he hpl
end
noncomputable def AllD (P:Nat->Prop):List (Str×Nat)->Prop
 | [] => True
 | (_,i)::r => P i/\AllD P r
theorem zgK {P:Nat->Prop}{s:Str}{j:Nat}:∀{D:List (Str×Nat)},AllD P D->D.lookup s=some j->P j
 | [],_,h => by cases h
 | (k,i)::r,a,h => by
  simp only [List.lookup] at h
  cases e:s == k with
  |true => rw [e] at h;cases h;exact a.1
  |false => rw [e] at h;exact zgK a.2 h
theorem visF {N:List Str}{sc:Scope}(V:WK.VisAll N sc)(i:Nat){x:Str}(hi:N[i]?=some x := by rfl):Vis sc x := by
 rcases WK.lcF V hi with h|h
 ·exact .inl h
 ·exact .inr (.inl h)
section
variable {P:Program}{w:World}{K:PySem.W.Frag}{mg:Str->Option Value}{base:Heap}{cl:Nat->Addr}{T:Nat->Option IC.Fn}{fi:Nat}{fn:IC.Fn}{x qual:Str}{stm:Stmt}{f:Addr}{fd:FuncData}{N ps:List Str}{k m:Nat}
theorem zjq (hT:T fi=some fn)(F:Fun K x qual stm f fd)(Sc:FnScope N ps (defScope stm))(hnp:ps.length=fn.np)(hns:N.length=fn.ns)
  (body:∀(cdv:Value) (A:Around) (outer:List PySem.Env) (s:Shared) (H:Hp) (E:XK),Room m (A.deeper (envOfC qual (defScope stm) s.heap.objs.size f cdv)) ->
   PSs (cxOf (CX1 P w) P w K mg base N qual (defScope stm) f cdv A outer s H E) (defBody stm) (tSs ⟨cl,callT T k,true⟩ (cxOf (CX1 P w) P w K mg base N qual (defScope stm) f cdv A outer s H E) fn.body)) :
  FnOk P w K mg base (CX1 P w) (m+1) f fd ps (spI K cl (callT T (k+1)) fi) :=
 F.okX Sc (fun vs H Q E h => ziV hT hnp h) fun cdv A outer s H vs Q E hr h => ⟨_,body cdv A outer s H E hr,zir hT hns h⟩
theorem zt (hT:T fi=some fn)(F:Fun K x qual stm f fd)(Sc:FnScope N ps (defScope stm))(hnp:ps.length=fn.np)(hns:N.length=fn.ns)
  (body:∀(cdv:Value) (A:Around) (outer:List PySem.Env) (s:Shared) (H:Hp) (E:XK),Room m (A.deeper (envOfC qual (defScope stm) s.heap.objs.size f cdv)) ->
   KqSs (cxOf (CX1 P w) P w K mg base N qual (defScope stm) f cdv A outer s H E) (defBody stm) (tSs ⟨cl,callT T k,true⟩ (cxOf (CX1 P w) P w K mg base N qual (defScope stm) f cdv A outer s H E) fn.body)) :
  FnOk P w K mg base (CX1 P w) (m+1) f fd ps (spI K cl (callT T (k+1)) fi) := by with_unfolding_all exact zjq hT F Sc hnp hns body
theorem zgs:FnOk P w K mg base (CX1 P w) m f fd ps (spI K cl (callT T 0) fi) :=
 ⟨fun vs H Q E ⟨_,_,_,_,_,_,h⟩ => by rw [callT] at h;exact h.elim,fun A outer s H args us vs Q E _ _ _ _ ⟨_,_,_,_,_,_,h⟩ => by rw [callT] at h;exact h.elim⟩
end
end L2
namespace IC
open PySem
noncomputable def zaP:List (Str×Nat) := [(Str.ofString "move",2),(Str.ofString "bare",3),(Str.ofString "sum",4),(Str.ofString "less",5),(Str.ofString "both",6),(Str.ofString "any",7),(Str.ofString "odd",8),(Str.ofString "twice",9),(Str.ofString "half",10)]
noncomputable def za8:PV := (.int 8)
noncomputable def z9:PV := (.tp true [(.str "add"),(.str "less"),(.str "swap"),(.str "copy"),(.str "twice"),(.str "half"),(.str "bare"),(.str "both"),(.str "any"),(.str "odd"),(.str "nought"),(.str "clear"),(.str "one")])
noncomputable def zhj:Fn := ⟨5,6,true,(.cons (.mkr 5 zaP (.var 0) (.cons (.var 1) (.cons (.var 2) (.cons (.var 3) (.cons (.var 4) .nil))))) .nil)⟩
noncomputable def zdu:Fn := ⟨1,1,true,(.cons (.ret (.bin .sub (.bin .shl (.cst (.int 1)) (.var 0)) (.cst (.int 1)))) .nil)⟩
noncomputable def zgh:Fn := ⟨4,4,true,(.cons (.ret (.tup (.cons (.var 1) (.cons (.var 3) .nil)))) .nil)⟩
noncomputable def zfQ:Fn := ⟨4,4,true,(.cons (.ret (.tup (.cons (.bin .sub (.call 1 (.cons (.var 0) .nil)) (.var 1)) (.cons (.var 3) .nil)))) .nil)⟩
noncomputable def zek:Fn := ⟨4,5,true,(.cons (.asg (.n 4) (.bin .add (.bin .add (.var 1) (.var 2)) (.var 3))) (.cons (.ret (.tup (.cons (.bin .band (.var 4) (.call 1 (.cons (.var 0) .nil))) (.cons (.bin .shr (.var 4) (.var 0)) .nil)))) .nil))⟩
noncomputable def zbE:Fn := ⟨4,5,true,(.cons (.asg (.n 4) (.bin .sub (.bin .sub (.var 1) (.var 2)) (.var 3))) (.cons (.ret (.tup (.cons (.bin .band (.var 4) (.call 1 (.cons (.var 0) .nil))) (.cons (.ite (.cmp .lt (.var 4) (.cst (.int 0))) (.cst (.int 1)) (.cst (.int 0))) .nil)))) .nil))⟩
noncomputable def zdm:Fn := ⟨4,4,true,(.cons (.ret (.tup (.cons (.bin .band (.var 1) (.var 2)) (.cons (.var 3) .nil)))) .nil)⟩
noncomputable def zdW:Fn := ⟨4,4,true,(.cons (.ret (.tup (.cons (.bin .bor (.var 1) (.var 2)) (.cons (.var 3) .nil)))) .nil)⟩
noncomputable def zee:Fn := ⟨4,4,true,(.cons (.ret (.tup (.cons (.bin .bxor (.var 1) (.var 2)) (.cons (.var 3) .nil)))) .nil)⟩
noncomputable def zdj:Fn := ⟨4,4,true,(.cons (.ret (.call 4 (.cons (.var 0) (.cons (.var 1) (.cons (.var 1) (.cons (.var 3) .nil)))))) .nil)⟩
noncomputable def zd0:Fn := ⟨4,4,true,(.cons (.ret (.tup (.cons (.bin .bor (.bin .shr (.var 1) (.cst (.int 1))) (.bin .shl (.var 3) (.bin .sub (.var 0) (.cst (.int 1))))) (.cons (.bin .band (.var 1) (.cst (.int 1))) .nil)))) .nil)⟩
noncomputable def zan:Fn := ⟨5,5,false,(.cons (.expr (.call 12 (.cons (.var 0) .nil))) (.cons (.ret (.call 13 (.cons (.var 0) (.cons (.var 1) (.cons (.var 2) (.cons (.var 3) (.cons (.var 4) .nil))))))) .nil))⟩
noncomputable def f_refuse_rows:Fn := ⟨1,2,false,(.cons (.forl (.n 1) (.var 0) (.cons (.ite (.cmp .notin (.var 1) (.cst z9)) (.cons .nope .nil) .nil) .nil)) (.cons (.ite (.cmp .gt (.blt .len (.cons (.var 0) .nil)) (.cst za8)) (.cons .nope .nil) .nil) .nil))⟩
noncomputable def f_all_done:Fn := ⟨5,6,false,(.cons (.forl (.n 5) (.var 0) (.cons (.asg (.t [2,3,4]) (.call 14 (.cons (.var 5) (.cons (.var 1) (.cons (.var 2) (.cons (.var 3) (.cons (.var 4) .nil))))))) .nil)) (.cons (.ret (.tup (.cons (.var 2) (.cons (.var 3) (.cons (.var 4) .nil))))) .nil))⟩
noncomputable def zaB:Fn := ⟨5,7,true,(.cons (.ite (.cmp .eq (.var 0) (.cst (.str "swap"))) (.cons (.ret (.tup (.cons (.var 3) (.cons (.var 2) (.cons (.var 4) .nil))))) .nil) .nil) (.cons (.ite (.cmp .eq (.var 0) (.cst (.str "copy"))) (.cons (.ret (.tup (.cons (.var 2) (.cons (.var 2) (.cons (.var 4) .nil))))) .nil) .nil) (.cons (.ite (.cmp .eq (.var 0) (.cst (.str "nought"))) (.cons (.ret (.tup (.cons (.cst (.int 0)) (.cons (.var 3) (.cons (.var 4) .nil))))) .nil) .nil) (.cons (.ite (.cmp .eq (.var 0) (.cst (.str "clear"))) (.cons (.ret (.tup (.cons (.var 2) (.cons (.var 3) (.cons (.cst (.int 0)) .nil))))) .nil) .nil) (.cons (.ite (.cmp .eq (.var 0) (.cst (.str "one"))) (.cons (.ret (.tup (.cons (.var 2) (.cons (.var 3) (.cons (.cst (.int 1)) .nil))))) .nil) .nil) (.cons (.asg (.t [5,6]) (.call 0 (.cons (.ite (.cmp .eq (.var 0) (.cst (.str "add"))) (.cst (.str "sum")) (.var 0)) (.cons (.var 1) (.cons (.var 2) (.cons (.var 3) (.cons (.var 4) .nil))))))) (.cons (.ret (.tup (.cons (.var 5) (.cons (.var 3) (.cons (.var 6) .nil))))) .nil)))))))⟩
noncomputable def zbP:Fn := ⟨1,1,false,(.cons (.ret (.newl (.cons (.slc (.var 0) (.cst .non) (.cst (.int 63))) (.cons (.cst (.int 0)) (.cons (.cst (.int 0)) (.cons (.cst (.bl false)) .nil)))))) .nil)⟩
noncomputable def f_qmixed:Fn := ⟨1,8,true,(.cons (.asg (.n 1) (.tup (.cons (.cst (.int 2147483647)) (.cons (.cst (.int 2147483629)) (.cons (.cst (.int 2147483587)) (.cons (.cst (.int 2147483579)) (.cons (.cst (.int 2147483563)) .nil))))))) (.cons (.asg (.n 2) (.cst (.int 0))) (.cons (.for (.t [3,4]) (.enum (.var 1)) (.cons (.asg (.n 5) (.bin .add (.var 0) (.idx (.tup (.cons (.cst (.int 11)) (.cons (.cst (.int 101)) (.cons (.cst (.int 1009)) (.cons (.cst (.int 10007)) (.cons (.cst (.int 100003)) .nil)))))) (.var 3)))) (.cons (.asg (.n 5) (.bin .mod (.bin .mul (.var 5) (.bin .add (.cst (.int 48271)) (.bin .mul (.cst (.int 2)) (.var 3)))) (.var 4))) (.cons (.asg (.n 6) (.bin .mod (.bin .mul (.var 5) (.var 5)) (.var 4))) (.cons (.asg (.n 7) (.bin .mod (.bin .mul (.bin .mod (.bin .mul (.var 6) (.var 6)) (.var 4)) (.var 5)) (.var 4))) (.cons (.asg (.n 2) (.bin .add (.bin .mul (.var 2) (.var 4)) (.var 7))) .nil)))))) (.cons (.ret (.var 2)) .nil))))⟩
noncomputable def za3:Fn := ⟨1,4,false,(.cons (.asg (.t [1,2]) (.tup (.cons (.idx (.var 0) (.cst (.int 0))) (.cons (.idx (.var 0) (.cst (.int 1))) .nil)))) (.cons (.asg (.n 3) (.bin .add (.bin .mul (.cst (.int 31)) (.var 2)) (.cst (.int 7)))) (.cons (.ite (.cmp .gt (.blt .len (.cons (.var 1) .nil)) (.cst (.int 0))) (.cons (.asg (.n 3) (.bin .mul (.cst (.int 104729)) (.bin .fdiv (.var 2) (.blt .len (.cons (.var 1) .nil))))) (.cons (.asg (.n 3) (.bin .add (.var 3) (.idx (.var 1) (.bin .mod (.var 2) (.blt .len (.cons (.var 1) .nil)))))) .nil)) .nil) (.cons (.six (.var 0) (.cst (.int 1)) (.bin .add (.var 2) (.cst (.int 1)))) (.cons (.six (.var 0) (.cst (.int 3)) (.or (.cmp .ge (.var 2) (.blt .len (.cons (.var 1) .nil))) (.cmp .lt (.var 3) (.bin .pow (.cst (.int 10)) (.cst (.int 18)))))) (.cons (.ite (.idx (.var 0) (.cst (.int 3))) (.cons (.six (.var 0) (.cst (.int 2)) (.call 16 (.cons (.var 3) .nil))) .nil) (.cons (.six (.var 0) (.cst (.int 2)) (.bin .sub (.var 3) (.bin .pow (.cst (.int 10)) (.cst (.int 18))))) .nil)) .nil))))))⟩
noncomputable def f_qtake:Fn := ⟨2,4,false,(.cons (.asg (.n 2) (.cst (.int 0))) (.cons (.while (.and (.cmp .lt (.var 2) (.cst (.int 64))) (.or (.cmp .eq (.idx (.var 0) (.cst (.int 2))) (.cst (.int 0))) (.and (.idx (.var 0) (.cst (.int 3))) (.cmp .lt (.idx (.var 0) (.cst (.int 2))) (.bin .mul (.var 1) (.cst (.int 4096))))))) (.cons (.expr (.call 17 (.cons (.var 0) .nil))) (.cons (.aug 2 .add (.cst (.int 1))) (.cons (.ite (.and (.idx (.var 0) (.cst (.int 3))) (.cmp .lt (.idx (.var 0) (.cst (.int 2))) (.bin .mul (.var 1) (.cst (.int 4096))))) (.cons (.six (.var 0) (.cst (.int 2)) (.bin .add (.idx (.var 0) (.cst (.int 2))) (.bin .mul (.bin .mul (.var 1) (.cst (.int 4096))) (.bin .add (.cst (.int 1)) (.bin .mod (.idx (.var 0) (.cst (.int 2))) (.cst (.int 4093))))))) .nil) .nil) .nil)))) (.cons (.asg (.n 3) (.bin .mod (.idx (.var 0) (.cst (.int 2))) (.var 1))) (.cons (.six (.var 0) (.cst (.int 2)) (.bin .fdiv (.idx (.var 0) (.cst (.int 2))) (.var 1))) (.cons (.ret (.var 3)) .nil)))))⟩
noncomputable def zbJ:Fn := ⟨1,1,true,(.cons (.ret (.and (.isi (.var 0) [.int]) (.not (.isi (.var 0) [.bool])))) .nil)⟩
noncomputable def zbk:Fn := ⟨3,3,true,(.cons (.ite (.or (.not (.isi (.var 0) [.tuple])) (.cmp .ne (.blt .len (.cons (.var 0) .nil)) (.var 1))) (.cons .nope .nil) .nil) (.cons (.ret (.blt .all (.cons (.comp [none,some 2] (.n 0) (.seq (.var 0)) (.cst (.bl true)) (.and (.call 19 (.cons (.var 0) .nil)) (.chain .le .le (.bin .sub (.cst (.int 0)) (.var 1)) (.var 0) (.var 1)))) .nil))) .nil))⟩
noncomputable def zcM:Fn := ⟨0,1,true,(.cons (.asg (.n 0) (.cst (.str "add less swap copy twice half bare both any odd nought clear one"))) (.cons (.ret (.blt .tuple (.cons (.mth .split (.var 0) (.cons (.cst (.str " ")) .nil)) .nil))) .nil))⟩
noncomputable def zaC:Fn := ⟨5,5,true,(.cons (.ite (.cmp .eq (.var 0) (.cst (.str "swap"))) (.cons (.ret (.tup (.cons (.var 3) (.cons (.var 2) (.cons (.var 4) .nil))))) .nil) .nil) (.cons (.ite (.cmp .eq (.var 0) (.cst (.str "copy"))) (.cons (.ret (.tup (.cons (.var 2) (.cons (.var 2) (.cons (.var 4) .nil))))) .nil) .nil) (.cons (.ite (.cmp .isin (.var 0) (.tup (.cons (.cst (.str "clear")) (.cons (.cst (.str "one")) .nil)))) (.cons (.ret (.tup (.cons (.var 2) (.cons (.var 3) (.cons (.blt .int (.cons (.cmp .eq (.var 0) (.cst (.str "one"))) .nil)) .nil))))) .nil) .nil) (.cons (.ite (.cmp .eq (.var 0) (.cst (.str "add"))) (.cons (.ret (.tup (.cons (.bin .mod (.bin .add (.bin .add (.var 2) (.var 3)) (.var 4)) (.var 1)) (.cons (.var 3) (.cons (.bin .fdiv (.bin .add (.bin .add (.var 2) (.var 3)) (.var 4)) (.var 1)) .nil))))) .nil) .nil) (.cons (.ite (.cmp .eq (.var 0) (.cst (.str "less"))) (.cons (.ret (.tup (.cons (.bin .mod (.bin .sub (.bin .sub (.var 2) (.var 3)) (.var 4)) (.var 1)) (.cons (.var 3) (.cons (.blt .int (.cons (.cmp .lt (.var 2) (.bin .add (.var 3) (.var 4))) .nil)) .nil))))) .nil) .nil) (.cons (.ite (.cmp .eq (.var 0) (.cst (.str "twice"))) (.cons (.ret (.tup (.cons (.bin .mod (.bin .add (.bin .mul (.cst (.int 2)) (.var 2)) (.var 4)) (.var 1)) (.cons (.var 3) (.cons (.blt .int (.cons (.cmp .ge (.bin .mul (.cst (.int 2)) (.var 2)) (.var 1)) .nil)) .nil))))) .nil) .nil) (.cons (.ite (.cmp .eq (.var 0) (.cst (.str "half"))) (.cons (.ret (.tup (.cons (.bin .fdiv (.bin .add (.var 2) (.bin .mul (.var 4) (.var 1))) (.cst (.int 2))) (.cons (.var 3) (.cons (.bin .mod (.var 2) (.cst (.int 2))) .nil))))) .nil) .nil) (.cons (.ite (.cmp .eq (.var 0) (.cst (.str "bare"))) (.cons (.ret (.tup (.cons (.bin .sub (.bin .sub (.var 1) (.cst (.int 1))) (.var 2)) (.cons (.var 3) (.cons (.var 4) .nil))))) .nil) .nil) (.cons (.ite (.cmp .eq (.var 0) (.cst (.str "nought"))) (.cons (.ret (.tup (.cons (.cst (.int 0)) (.cons (.var 3) (.cons (.var 4) .nil))))) .nil) .nil) (.cons (.ret (.tup (.cons (.dsub [(Str.ofString "both"),(Str.ofString "any"),(Str.ofString "odd")] (.cons (.bin .band (.var 2) (.var 3)) (.cons (.bin .bor (.var 2) (.var 3)) (.cons (.bin .bxor (.var 2) (.var 3)) .nil))) (.var 0)) (.cons (.var 3) (.cons (.var 4) .nil))))) .nil))))))))))⟩
noncomputable def f_qsmall_all:Fn := ⟨3,7,true,(.cons (.asg (.t [3,4,5]) (.var 2)) (.cons (.for (.n 6) (.seq (.var 0)) (.cons (.asg (.t [3,4,5]) (.call 22 (.cons (.var 6) (.cons (.var 1) (.cons (.var 3) (.cons (.var 4) (.cons (.var 5) .nil))))))) .nil)) (.cons (.ret (.tup (.cons (.var 3) (.cons (.var 4) (.cons (.var 5) .nil))))) .nil)))⟩
noncomputable def f_qsmall_rows:Fn := ⟨2,3,false,(.cons (.asg (.n 2) (.call 18 (.cons (.var 0) (.cons (.bin .add (.var 1) (.cst (.int 1))) .nil)))) (.cons (.ret (.comp [none,some 0] (.n 0) (.range1 (.var 2)) (.cst (.bl true)) (.idx (.call 21 .nil) (.call 18 (.cons (.var 1) (.cons (.cst (.int 13)) .nil)))))) .nil))⟩
noncomputable def f_law:Fn := ⟨1,10,true,(.cons (.asg (.n 1) (.call 15 (.cons (.var 0) .nil))) (.cons (.for (.n 2) (.range1 (.cst (.int 4))) (.cons (.asg (.n 3) (.call 24 (.cons (.var 1) (.cons (.cst (.int 8)) .nil)))) (.cons (.asg (.n 4) (.bin .add (.cst (.int 1)) (.call 18 (.cons (.var 1) (.cons (.cst (.int 3)) .nil))))) (.cons (.asg (.n 5) (.bin .mul (.cst (.int 2)) (.idx (.lst (.cons (.cst (.int 1)) (.cons (.cst (.int 2)) (.cons (.cst (.int 4)) .nil)))) (.bin .sub (.var 4) (.cst (.int 1)))))) (.cons (.asg (.n 6) (.tup (.cons (.call 18 (.cons (.var 1) (.cons (.var 5) .nil))) (.cons (.call 18 (.cons (.var 1) (.cons (.var 5) .nil))) (.cons (.call 18 (.cons (.var 1) (.cons (.cst (.int 2)) .nil))) .nil))))) (.cons (.asg (.n 7) (.call 23 (.cons (.var 3) (.cons (.var 5) (.cons (.var 6) .nil))))) (.cons (.asg (.n 8) (.thw (.blt .list (.cons (.var 3) .nil)))) (.cons (.ite (.cmp .eq (.call 18 (.cons (.var 1) (.cons (.cst (.int 2)) .nil))) (.cst (.int 1))) (.cons (.asg (.n 8) (.blt .tuple (.cons (.var 3) .nil))) .nil) .nil) (.cons (.asg (.n 9) (.call 11 (.cons (.var 8) (.cons (.var 4) (.cons (.idx (.var 6) (.cst (.int 0))) (.cons (.idx (.var 6) (.cst (.int 1))) (.cons (.idx (.var 6) (.cst (.int 2))) .nil))))))) (.cons (.ite (.or (.cmp .ne (.blt .list (.cons (.var 8) .nil)) (.var 3)) (.or (.not (.call 20 (.cons (.var 9) (.cons (.cst (.int 3)) (.cons (.cst (.int 8)) .nil))))) (.cmp .ne (.var 9) (.var 7)))) (.cons .nope .nil) .nil) (.cons (.ite (.isl (.var 8)) (.cons (.expr (.mth .clear (.var 8) .nil)) .nil) .nil) (.cons (.ite (.cmp .ne (.call 11 (.cons (.blt .list (.cons (.var 3) .nil)) (.cons (.var 4) (.cons (.idx (.var 6) (.cst (.int 0))) (.cons (.idx (.var 6) (.cst (.int 1))) (.cons (.idx (.var 6) (.cst (.int 2))) .nil)))))) (.var 7)) (.cons .nope .nil) .nil) .nil)))))))))))) (.cons (.ret (.cst (.bl true))) .nil)))⟩
noncomputable def T:Nat->Option Fn
 |0 => some zhj
 |1 => some zdu
 |2 => some zgh
 |3 => some zfQ
 |4 => some zek
 |5 => some zbE
 |6 => some zdm
 |7 => some zdW
 |8 => some zee
 |9 => some zdj
 |10 => some zd0
 |11 => some zan
 |12 => some f_refuse_rows
 |13 => some f_all_done
 |14 => some zaB
 |15 => some zbP
 |16 => some f_qmixed
 |17 => some za3
 |18 => some f_qtake
 |19 => some zbJ
 |20 => some zbk
 |21 => some zcM
 |22 => some zaC
 |23 => some f_qsmall_all
 |24 => some f_qsmall_rows
 |25 => some f_law
 |_ => none
noncomputable abbrev za5:Nat := 11
noncomputable abbrev zat:Nat := 12
noncomputable abbrev zcC:Nat := 13
noncomputable abbrev zbD:Nat := 14
noncomputable abbrev zcJ:Nat := 15
noncomputable abbrev zdZ:Nat := 16
noncomputable abbrev zf8:Nat := 17
noncomputable abbrev zaq:Nat := 18
noncomputable abbrev zbN:Nat := 19
noncomputable abbrev zb5:Nat := 20
noncomputable abbrev zcN:Nat := 21
noncomputable abbrev zbF:Nat := 22
noncomputable abbrev zaI:Nat := 23
noncomputable abbrev zar:Nat := 24
noncomputable abbrev zfX:Nat := 25
end IC
namespace WK
open PySem L2 IC
noncomputable def top (i:Nat):Stmt := PySem.Challenge.pw_widewords_k63_small_machine.main.body.getD i (.Pass ⟨0,0,0,0⟩)
noncomputable abbrev zcd:Stmt := top 5
theorem sc_made:FnScope ["name","w","x","y","k","make"] ["name","w","x","y","k"] (defScope zcd) := ⟨rfl,rfl,rfl,by decide +kernel,rfl,by decide +kernel,by decide +kernel⟩
noncomputable abbrev zak:Stmt := top 6
theorem sc_highest:FnScope ["w"] ["w"] (defScope zak) := ⟨rfl,rfl,rfl,by decide +kernel,rfl,by decide +kernel,by decide +kernel⟩
noncomputable abbrev zbr:Stmt := top 7
theorem sc_moved:FnScope ["w","x","y","k"] ["w","x","y","k"] (defScope zbr) := ⟨rfl,rfl,rfl,by decide +kernel,rfl,by decide +kernel,by decide +kernel⟩
noncomputable abbrev za9:Stmt := top 8
theorem sc_bared:FnScope ["w","x","y","k"] ["w","x","y","k"] (defScope za9) := ⟨rfl,rfl,rfl,by decide +kernel,rfl,by decide +kernel,by decide +kernel⟩
noncomputable abbrev zas:Stmt := top 9
theorem sc_summed:FnScope ["w","x","y","k","total"] ["w","x","y","k"] (defScope zas) := ⟨rfl,rfl,rfl,by decide +kernel,rfl,by decide +kernel,by decide +kernel⟩
noncomputable abbrev zQ:Stmt := top 10
theorem sc_taken_away:FnScope ["w","x","y","k","total"] ["w","x","y","k"] (defScope zQ) := ⟨rfl,rfl,rfl,by decide +kernel,rfl,by decide +kernel,by decide +kernel⟩
noncomputable abbrev zai:Stmt := top 11
theorem sc_in_both:FnScope ["w","x","y","k"] ["w","x","y","k"] (defScope zai) := ⟨rfl,rfl,rfl,by decide +kernel,rfl,by decide +kernel,by decide +kernel⟩
noncomputable abbrev zaX:Stmt := top 12
theorem sc_in_any:FnScope ["w","x","y","k"] ["w","x","y","k"] (defScope zaX) := ⟨rfl,rfl,rfl,by decide +kernel,rfl,by decide +kernel,by decide +kernel⟩
noncomputable abbrev zaS:Stmt := top 13
theorem sc_in_one:FnScope ["w","x","y","k"] ["w","x","y","k"] (defScope zaS) := ⟨rfl,rfl,rfl,by decide +kernel,rfl,by decide +kernel,by decide +kernel⟩
noncomputable abbrev z8:Stmt := top 14
theorem sc_doubled:FnScope ["w","x","y","k"] ["w","x","y","k"] (defScope z8) := ⟨rfl,rfl,rfl,by decide +kernel,rfl,by decide +kernel,by decide +kernel⟩
noncomputable abbrev zaN:Stmt := top 15
theorem sc_halved:FnScope ["w","x","y","k"] ["w","x","y","k"] (defScope zaN) := ⟨rfl,rfl,rfl,by decide +kernel,rfl,by decide +kernel,by decide +kernel⟩
noncomputable abbrev zN:Stmt := top 20
theorem sc_small_run:FnScope ["rows","w","lo","hi","k"] ["rows","w","lo","hi","k"] (defScope zN) := ⟨rfl,rfl,rfl,by decide +kernel,rfl,by decide +kernel,by decide +kernel⟩
noncomputable abbrev zF:Stmt := top 21
theorem sc_refuse_rows:FnScope ["rows","row"] ["rows"] (defScope zF) := ⟨rfl,rfl,rfl,by decide +kernel,rfl,by decide +kernel,by decide +kernel⟩
noncomputable abbrev zV:Stmt := top 22
theorem sc_all_done:FnScope ["rows","w","lo","hi","k","row"] ["rows","w","lo","hi","k"] (defScope zV) := ⟨rfl,rfl,rfl,by decide +kernel,rfl,by decide +kernel,by decide +kernel⟩
noncomputable abbrev zL:Stmt := top 23
theorem sc_small_done:FnScope ["row","w","lo","hi","k","word","mark"] ["row","w","lo","hi","k"] (defScope zL) := ⟨rfl,rfl,rfl,by decide +kernel,rfl,by decide +kernel,by decide +kernel⟩
noncomputable abbrev zaV:Stmt := top 25
theorem sc_qfresh:FnScope ["_law_script"] ["_law_script"] (defScope zaV) := ⟨rfl,rfl,rfl,by decide +kernel,rfl,by decide +kernel,by decide +kernel⟩
noncomputable abbrev zam:Stmt := top 26
theorem sc_qmixed:FnScope ["_law_seed","_law_primes","_law_number","_law_k","_law_prime","_law_far","_law_square","_law_power"] ["_law_seed"] (defScope zam) := ⟨rfl,rfl,rfl,by decide +kernel,rfl,by decide +kernel,by decide +kernel⟩
noncomputable abbrev zaz:Stmt := top 27
theorem sc_qfill:FnScope ["_law_state","_law_cells","_law_at","_law_seed"] ["_law_state"] (defScope zaz) := ⟨rfl,rfl,rfl,by decide +kernel,rfl,by decide +kernel,by decide +kernel⟩
noncomputable abbrev za4:Stmt := top 28
theorem sc_qtake:FnScope ["_law_state","_law_many","_law_turns","_law_digit"] ["_law_state","_law_many"] (defScope za4) := ⟨rfl,rfl,rfl,by decide +kernel,rfl,by decide +kernel,by decide +kernel⟩
noncomputable abbrev z6:Stmt := top 29
theorem sc_qwhole:FnScope ["_law_thing"] ["_law_thing"] (defScope z6) := ⟨rfl,rfl,rfl,by decide +kernel,rfl,by decide +kernel,by decide +kernel⟩
noncomputable abbrev zM:Stmt := top 30
theorem sc_qwholes:FnScope ["_law_thing","_law_many","_law_most"] ["_law_thing","_law_many","_law_most"] (defScope zM) := ⟨rfl,rfl,rfl,by decide +kernel,rfl,by decide +kernel,by decide +kernel⟩
noncomputable abbrev zap:Stmt := top 31
theorem sc_qtexts:FnScope ["_law_words"] [] (defScope zap) := ⟨rfl,rfl,rfl,by decide +kernel,rfl,by decide +kernel,by decide +kernel⟩
noncomputable abbrev zO:Stmt := top 32
theorem sc_qsmall_one:FnScope ["_law_row","_law_wide","_law_lo","_law_hi","_law_k"] ["_law_row","_law_wide","_law_lo","_law_hi","_law_k"] (defScope zO) := ⟨rfl,rfl,rfl,by decide +kernel,rfl,by decide +kernel,by decide +kernel⟩
noncomputable abbrev zP:Stmt := top 33
theorem sc_qsmall_all:FnScope ["_law_rows","_law_wide","_law_begin","_law_lo","_law_hi","_law_k","_law_row"] ["_law_rows","_law_wide","_law_begin"] (defScope zP) := ⟨rfl,rfl,rfl,by decide +kernel,rfl,by decide +kernel,by decide +kernel⟩
noncomputable abbrev zE:Stmt := top 34
theorem sc_qsmall_rows:FnScope ["_law_state","_law_most","_law_many"] ["_law_state","_law_most"] (defScope zE) := ⟨rfl,rfl,rfl,by decide +kernel,rfl,by decide +kernel,by decide +kernel⟩
noncomputable abbrev zaJ:Stmt := top 35
theorem sc_law:FnScope ["_law_script","_law_state","_law_turn","_law_rows","_law_w","_law_wide","_law_begin","_law_due","_law_handed","_law_found"] ["_law_script"] (defScope zaJ) := ⟨rfl,rfl,rfl,by decide +kernel,rfl,by decide +kernel,by decide +kernel⟩
theorem zbb:VisAll ["name","w","x","y","k","make"] (defScope zcd) := by unfold VisAll;decide +kernel
abbrev GI (s:Stmt)(x:String):Prop := (defScope s).names.lookup (Str.ofString x)=some .globalImplicit
theorem zci:GI zcd "MAKERS" := by decide +kernel
theorem zeB:VisAll ["w"] (defScope zak) := by unfold VisAll;decide +kernel
theorem zef:VisAll ["w","x","y","k"] (defScope zbr) := by unfold VisAll;decide +kernel
theorem zcF:VisAll ["w","x","y","k"] (defScope za9) := by unfold VisAll;decide +kernel
theorem zbG:GI za9 "highest" := by decide +kernel
theorem z3:VisAll ["w","x","y","k","total"] (defScope zas) := by unfold VisAll;decide +kernel
theorem zbA:GI zas "highest" := by decide +kernel
theorem zJ:VisAll ["w","x","y","k","total"] (defScope zQ) := by unfold VisAll;decide +kernel
theorem zaH:GI zQ "highest" := by decide +kernel
theorem zbw:VisAll ["w","x","y","k"] (defScope zai) := by unfold VisAll;decide +kernel
theorem zcc:VisAll ["w","x","y","k"] (defScope zaX) := by unfold VisAll;decide +kernel
theorem zb8:VisAll ["w","x","y","k"] (defScope zaS) := by unfold VisAll;decide +kernel
theorem zaT:VisAll ["w","x","y","k"] (defScope z8) := by unfold VisAll;decide +kernel
theorem zbu:GI z8 "summed" := by decide +kernel
theorem zbq:VisAll ["w","x","y","k"] (defScope zaN) := by unfold VisAll;decide +kernel
theorem zS:VisAll ["rows","w","lo","hi","k"] (defScope zN) := by unfold VisAll;decide +kernel
theorem zaF:GI zN "all_done" := by decide +kernel
theorem zae:GI zN "refuse_rows" := by decide +kernel
theorem zX:VisAll ["rows","row"] (defScope zF) := by unfold VisAll;decide +kernel
theorem zah:GI zF "MOST_ROWS" := by decide +kernel
theorem zad:GI zF "SMALL_ROWS" := by decide +kernel
theorem zbf:GI zF "len" := by decide +kernel
theorem zB:VisAll ["rows","w","lo","hi","k","row"] (defScope zV) := by unfold VisAll;decide +kernel
theorem zax:GI zV "small_done" := by decide +kernel
theorem zi:VisAll ["row","w","lo","hi","k","word","mark"] (defScope zL) := by unfold VisAll;decide +kernel
theorem zbp:GI zL "made" := by decide +kernel
theorem zfs:VisAll ["_law_script"] (defScope zaV) := by unfold VisAll;decide +kernel
theorem zl:VisAll ["_law_seed","_law_primes","_law_number","_law_k","_law_prime","_law_far","_law_square","_law_power"] (defScope zam) := by unfold VisAll;decide +kernel
theorem za7:GI zam "enumerate" := by decide +kernel
theorem zr:VisAll ["_law_state","_law_cells","_law_at","_law_seed"] (defScope zaz) := by unfold VisAll;decide +kernel
theorem zb3:GI zaz "_law_mixed" := by decide +kernel
theorem zaa:GI zaz "len" := by decide +kernel
theorem zy:VisAll ["_law_state","_law_many","_law_turns","_law_digit"] (defScope za4) := by unfold VisAll;decide +kernel
theorem zcm:GI za4 "_law_fill" := by decide +kernel
theorem zdy:VisAll ["_law_thing"] (defScope z6) := by unfold VisAll;decide +kernel
theorem zck:GI z6 "bool" := by decide +kernel
theorem zcO:GI z6 "int" := by decide +kernel
theorem z4:GI z6 "isinstance" := by decide +kernel
theorem zaU:VisAll ["_law_thing","_law_many","_law_most"] (defScope zM) := by unfold VisAll;decide +kernel
theorem zcn:GI zM "all" := by decide +kernel
theorem zay:GI zM "isinstance" := by decide +kernel
theorem zcp:GI zM "len" := by decide +kernel
theorem zbH:GI zM "tuple" := by decide +kernel
theorem zdr:VisAll ["_law_words"] (defScope zap) := by unfold VisAll;decide +kernel
theorem zcb:GI zap "tuple" := by decide +kernel
theorem zc:VisAll ["_law_row","_law_wide","_law_lo","_law_hi","_law_k"] (defScope zO) := by unfold VisAll;decide +kernel
theorem zU:GI zO "int" := by decide +kernel
theorem zk:VisAll ["_law_rows","_law_wide","_law_begin","_law_lo","_law_hi","_law_k","_law_row"] (defScope zP) := by unfold VisAll;decide +kernel
theorem zag:GI zP "_law_small_one" := by decide +kernel
theorem zY:VisAll ["_law_state","_law_most","_law_many"] (defScope zE) := by unfold VisAll;decide +kernel
theorem za1:GI zE "_law_take" := by decide +kernel
theorem za2:GI zE "range" := by decide +kernel
theorem zu:VisAll ["_law_script","_law_state","_law_turn","_law_rows","_law_w","_law_wide","_law_begin","_law_due","_law_handed","_law_found"] (defScope zaJ) := by unfold VisAll;decide +kernel
theorem zcE:GI zaJ "_law_fresh" := by decide +kernel
theorem zbv:GI zaJ "_law_small_all" := by decide +kernel
theorem zbi:GI zaJ "_law_small_rows" := by decide +kernel
theorem z0:GI zaJ "_law_take" := by decide +kernel
theorem zcl:GI zaJ "_law_wholes" := by decide +kernel
theorem zbz:GI zaJ "isinstance" := by decide +kernel
theorem zal:GI zaJ "list" := by decide +kernel
theorem zdC:GI zaJ "range" := by decide +kernel
theorem zav:GI zaJ "small_run" := by decide +kernel
theorem zdD:GI zaJ "tuple" := by decide +kernel
noncomputable def pss:Nat->Option (List Str)
 |0 => some ["name","w","x","y","k"]
 |1 => some ["w"]
 |2 => some ["w","x","y","k"]
 |3 => some ["w","x","y","k"]
 |4 => some ["w","x","y","k"]
 |5 => some ["w","x","y","k"]
 |6 => some ["w","x","y","k"]
 |7 => some ["w","x","y","k"]
 |8 => some ["w","x","y","k"]
 |9 => some ["w","x","y","k"]
 |10 => some ["w","x","y","k"]
 |11 => some ["rows","w","lo","hi","k"]
 |12 => some ["rows"]
 |13 => some ["rows","w","lo","hi","k"]
 |14 => some ["row","w","lo","hi","k"]
 |15 => some ["_law_script"]
 |16 => some ["_law_seed"]
 |17 => some ["_law_state"]
 |18 => some ["_law_state","_law_many"]
 |19 => some ["_law_thing"]
 |20 => some ["_law_thing","_law_many","_law_most"]
 |21 => some []
 |22 => some ["_law_row","_law_wide","_law_lo","_law_hi","_law_k"]
 |23 => some ["_law_rows","_law_wide","_law_begin"]
 |24 => some ["_law_state","_law_most"]
 |25 => some ["_law_script"]
 |_ => none
structure Facts (w:World)(K:PySem.W.Frag)(mg:Str->Option Value)(cl:Nat->Addr)(fa:Nat->Addr)(fdd:Nat->FuncData):Prop where
 F0:Fn K mg "made" zcd ["name","w","x","y","k"] (fa 0) (fdd 0)
 F1:Fn K mg "highest" zak ["w"] (fa 1) (fdd 1)
 F2:Fn K mg "moved" zbr ["w","x","y","k"] (fa 2) (fdd 2)
 F3:Fn K mg "bared" za9 ["w","x","y","k"] (fa 3) (fdd 3)
 F4:Fn K mg "summed" zas ["w","x","y","k"] (fa 4) (fdd 4)
 F5:Fn K mg "taken_away" zQ ["w","x","y","k"] (fa 5) (fdd 5)
 F6:Fn K mg "in_both" zai ["w","x","y","k"] (fa 6) (fdd 6)
 F7:Fn K mg "in_any" zaX ["w","x","y","k"] (fa 7) (fdd 7)
 F8:Fn K mg "in_one" zaS ["w","x","y","k"] (fa 8) (fdd 8)
 F9:Fn K mg "doubled" z8 ["w","x","y","k"] (fa 9) (fdd 9)
 F10:Fn K mg "halved" zaN ["w","x","y","k"] (fa 10) (fdd 10)
 F11:Fn K mg "small_run" zN ["rows","w","lo","hi","k"] (fa 11) (fdd 11)
 F12:Fn K mg "refuse_rows" zF ["rows"] (fa 12) (fdd 12)
 F13:Fn K mg "all_done" zV ["rows","w","lo","hi","k"] (fa 13) (fdd 13)
 F14:Fn K mg "small_done" zL ["row","w","lo","hi","k"] (fa 14) (fdd 14)
 F15:Fn K mg "_law_fresh" zaV ["_law_script"] (fa 15) (fdd 15)
 F16:Fn K mg "_law_mixed" zam ["_law_seed"] (fa 16) (fdd 16)
 F17:Fn K mg "_law_fill" zaz ["_law_state"] (fa 17) (fdd 17)
 F18:Fn K mg "_law_take" za4 ["_law_state","_law_many"] (fa 18) (fdd 18)
 F19:Fn K mg "_law_whole" z6 ["_law_thing"] (fa 19) (fdd 19)
 F20:Fn K mg "_law_wholes" zM ["_law_thing","_law_many","_law_most"] (fa 20) (fdd 20)
 F21:Fn K mg "_law_texts" zap [] (fa 21) (fdd 21)
 F22:Fn K mg "_law_small_one" zO ["_law_row","_law_wide","_law_lo","_law_hi","_law_k"] (fa 22) (fdd 22)
 F23:Fn K mg "_law_small_all" zP ["_law_rows","_law_wide","_law_begin"] (fa 23) (fdd 23)
 F24:Fn K mg "_law_small_rows" zE ["_law_state","_law_most"] (fa 24) (fdd 24)
 F25:Fn K mg "law" zaJ ["_law_script"] (fa 25) (fdd 25)
 z_all:mg "all"=none
 z_bool:mg "bool"=none
 z_enumerate:mg "enumerate"=none
 z_int:mg "int"=none
 z_isinstance:mg "isinstance"=none
 z_len:mg "len"=none
 z_list:mg "list"=none
 z_range:mg "range"=none
 z_tuple:mg "tuple"=none
 k_bool:KitT K .bool
 k_int:KitT K .int
 k_list:KitT K .list
 k_tuple:KitT K .tuple
 c_MOST_ROWS:GCI mg "MOST_ROWS" 8
 c_SMALL_ROWS:GC K mg cl "SMALL_ROWS" z9
 g_MAKERS:GDF K w mg fa "MAKERS" zaP
def Fns (P:Program)(w:World)(K:PySem.W.Frag)(mg:Str->Option Value)(base:Heap)(cl:Nat->Addr)(fa:Nat->Addr)(fdd:Nat->FuncData)(k:Nat):Prop := ∀i ps,pss i=some ps->FnOk P w K mg base (CX1 P w) (2*k) (fa i) (fdd i) ps (spI K cl (callT T k) i)
section
variable {P:Program}{w:World}{K:PySem.W.Frag}{mg:Str->Option Value}{base:Heap}{cl:Nat->Addr}{fa:Nat->Addr}{fdd:Nat->FuncData}{k:Nat}
theorem makers (Z:Facts w K mg cl fa fdd)(C:Fns P w K mg base cl fa fdd k){N:List Str}{q:Str}{sc:Scope}{f:Addr}{cdv:Value}{A:Around}{outer:List PySem.Env}{s:Shared}{H:Hp}{E:XK}:Makers ⟨cl,callT T k,true⟩ (cxOf (CX1 P w) P w K mg base N q sc f cdv A outer s H E) (2*k) zaP fa fdd (fun _ => ["w","x","y","k"]) :=
 ⟨fun s j h => zgK (D := zaP) (P := fun j => FnOk P w K mg base (CX1 P w) (2*k) (fa j) (fdd j) ["w","x","y","k"] (spI K cl (callT T k) j)) ⟨C 2 _ rfl,C 3 _ rfl,C 4 _ rfl,C 5 _ rfl,C 6 _ rfl,C 7 _ rfl,C 8 _ rfl,C 9 _ rfl,C 10 _ rfl,trivial⟩ h,fun s j h => zgK (D := zaP) (P := fun j => PySem.W.keepIn K (.ref (fa j))=true) ⟨Z.F2.F.kp,Z.F3.F.kp,Z.F4.F.kp,Z.F5.F.kp,Z.F6.F.kp,Z.F7.F.kp,Z.F8.F.kp,Z.F9.F.kp,Z.F10.F.kp,trivial⟩ h,fun s j h => zgK (D := zaP) (P := fun j => Binds K (fdd j) ["w","x","y","k"] []) ⟨Z.F2.b,Z.F3.b,Z.F4.b,Z.F5.b,Z.F6.b,Z.F7.b,Z.F8.b,Z.F9.b,Z.F10.b,trivial⟩ h⟩
theorem ziz (Z:Facts w K mg cl fa fdd)(C:Fns P w K mg base cl fa fdd k):FnOk P w K mg base (CX1 P w) (2*k+1+1) (fa 0) (fdd 0) ["name","w","x","y","k"] (spI K cl (callT T (k+1)) 0) :=
 zt (m := 2*k+1) (fn := zhj) rfl Z.F0.F sc_made rfl rfl fun _ _ _ _ _ _ hr1 => have hr := hr1.mono (Nat.le_succ (2*k));have nd := sc_made.nd;have hu1 := zW hr;zhd (ix := 5) (makers Z C) hr nd rfl (lcF (i := 5) zbb rfl) (visF zbb 5) zci Z.g_MAKERS (zd zbb 0) (za (zd zbb 1) (za (zd zbb 2) (za (zd zbb 3) (za (zd zbb 4) zh))))
theorem zew (Z:Facts w K mg cl fa fdd)(C:Fns P w K mg base cl fa fdd k):FnOk P w K mg base (CX1 P w) (2*k+1+1) (fa 1) (fdd 1) ["w"] (spI K cl (callT T (k+1)) 1) :=
 zt (m := 2*k+1) (fn := zdu) rfl Z.F1.F sc_highest rfl rfl fun _ _ _ _ _ _ hr1 => have hr := hr1.mono (Nat.le_succ (2*k));have nd := sc_highest.nd;have hu1 := zW hr;(zb (zj (zg zau (zg zhy ze (zd zeB 0)) ze)) zf)
theorem zgC (Z:Facts w K mg cl fa fdd)(C:Fns P w K mg base cl fa fdd k):FnOk P w K mg base (CX1 P w) (2*k+1+1) (fa 2) (fdd 2) ["w","x","y","k"] (spI K cl (callT T (k+1)) 2) :=
 zt (m := 2*k+1) (fn := zgh) rfl Z.F2.F sc_moved rfl rfl fun _ _ _ _ _ _ hr1 => have hr := hr1.mono (Nat.le_succ (2*k));have nd := sc_moved.nd;have hu1 := zW hr;(zb (zj (zo (za (zd zef 1) (za (zd zef 3) zh)))) zf)
theorem zgv (Z:Facts w K mg cl fa fdd)(C:Fns P w K mg base cl fa fdd k):FnOk P w K mg base (CX1 P w) (2*k+1+1) (fa 3) (fdd 3) ["w","x","y","k"] (spI K cl (callT T (k+1)) 3) :=
 zt (m := 2*k+1) (fn := zfQ) rfl Z.F3.F sc_bared rfl rfl fun _ _ _ _ _ _ hr1 => have hr := hr1.mono (Nat.le_succ (2*k));have nd := sc_bared.nd;have hu1 := zW hr;(zb (zj (zo (za (zg zau (zn (C 1 _ rfl) hr zbG Z.F1.m Z.F1.F.kp Z.F1.b (za (zd zcF 0) zh)) (zd zcF 1)) (za (zd zcF 3) zh)))) zf)
theorem zfm (Z:Facts w K mg cl fa fdd)(C:Fns P w K mg base cl fa fdd k):FnOk P w K mg base (CX1 P w) (2*k+1+1) (fa 4) (fdd 4) ["w","x","y","k"] (spI K cl (callT T (k+1)) 4) :=
 zt (m := 2*k+1) (fn := zek) rfl Z.F4.F sc_summed rfl rfl fun _ _ _ _ _ _ hr1 => have hr := hr1.mono (Nat.le_succ (2*k));have nd := sc_summed.nd;have hu1 := zW hr;(zb (zw (i := 4) nd rfl (lcF (i := 4) z3 rfl) (zg zT (zg zT (zd z3 1) (zd z3 2)) (zd z3 3))) (zb (zj (zo (za (zg zb4 (zd z3 4) (zn (C 1 _ rfl) hr zbA Z.F1.m Z.F1.F.kp Z.F1.b (za (zd z3 0) zh))) (za (zg zhB (zd z3 4) (zd z3 0)) zh)))) zf))
theorem zcW (Z:Facts w K mg cl fa fdd)(C:Fns P w K mg base cl fa fdd k):FnOk P w K mg base (CX1 P w) (2*k+1+1) (fa 5) (fdd 5) ["w","x","y","k"] (spI K cl (callT T (k+1)) 5) :=
 zt (m := 2*k+1) (fn := zbE) rfl Z.F5.F sc_taken_away rfl rfl fun _ _ _ _ _ _ hr1 => have hr := hr1.mono (Nat.le_succ (2*k));have nd := sc_taken_away.nd;have hu1 := zW hr;(zb (zw (i := 4) nd rfl (lcF (i := 4) zJ rfl) (zg zau (zg zau (zd zJ 1) (zd zJ 2)) (zd zJ 3))) (zb (zj (zo (za (zg zb4 (zd zJ 4) (zn (C 1 _ rfl) hr zaH Z.F1.m Z.F1.F.kp Z.F1.b (za (zd zJ 0) zh))) (za (zeg (zq zen (zd zJ 4) ze (nomark _)) ze ze) zh)))) zf))
theorem zeF (Z:Facts w K mg cl fa fdd)(C:Fns P w K mg base cl fa fdd k):FnOk P w K mg base (CX1 P w) (2*k+1+1) (fa 6) (fdd 6) ["w","x","y","k"] (spI K cl (callT T (k+1)) 6) :=
 zt (m := 2*k+1) (fn := zdm) rfl Z.F6.F sc_in_both rfl rfl fun _ _ _ _ _ _ hr1 => have hr := hr1.mono (Nat.le_succ (2*k));have nd := sc_in_both.nd;have hu1 := zW hr;(zb (zj (zo (za (zg zb4 (zd zbw 1) (zd zbw 2)) (za (zd zbw 3) zh)))) zf)
theorem zf5 (Z:Facts w K mg cl fa fdd)(C:Fns P w K mg base cl fa fdd k):FnOk P w K mg base (CX1 P w) (2*k+1+1) (fa 7) (fdd 7) ["w","x","y","k"] (spI K cl (callT T (k+1)) 7) :=
 zt (m := 2*k+1) (fn := zdW) rfl Z.F7.F sc_in_any rfl rfl fun _ _ _ _ _ _ hr1 => have hr := hr1.mono (Nat.le_succ (2*k));have nd := sc_in_any.nd;have hu1 := zW hr;(zb (zj (zo (za (zg zgf (zd zcc 1) (zd zcc 2)) (za (zd zcc 3) zh)))) zf)
theorem zfg (Z:Facts w K mg cl fa fdd)(C:Fns P w K mg base cl fa fdd k):FnOk P w K mg base (CX1 P w) (2*k+1+1) (fa 8) (fdd 8) ["w","x","y","k"] (spI K cl (callT T (k+1)) 8) :=
 zt (m := 2*k+1) (fn := zee) rfl Z.F8.F sc_in_one rfl rfl fun _ _ _ _ _ _ hr1 => have hr := hr1.mono (Nat.le_succ (2*k));have nd := sc_in_one.nd;have hu1 := zW hr;(zb (zj (zo (za (zg zgc (zd zb8 1) (zd zb8 2)) (za (zd zb8 3) zh)))) zf)
theorem zeO (Z:Facts w K mg cl fa fdd)(C:Fns P w K mg base cl fa fdd k):FnOk P w K mg base (CX1 P w) (2*k+1+1) (fa 9) (fdd 9) ["w","x","y","k"] (spI K cl (callT T (k+1)) 9) :=
 zt (m := 2*k+1) (fn := zdj) rfl Z.F9.F sc_doubled rfl rfl fun _ _ _ _ _ _ hr1 => have hr := hr1.mono (Nat.le_succ (2*k));have nd := sc_doubled.nd;have hu1 := zW hr;(zb (zj (zn (C 4 _ rfl) hr zbu Z.F4.m Z.F4.F.kp Z.F4.b (za (zd zaT 0) (za (zd zaT 1) (za (zd zaT 1) (za (zd zaT 3) zh)))))) zf)
theorem zeW (Z:Facts w K mg cl fa fdd)(C:Fns P w K mg base cl fa fdd k):FnOk P w K mg base (CX1 P w) (2*k+1+1) (fa 10) (fdd 10) ["w","x","y","k"] (spI K cl (callT T (k+1)) 10) :=
 zt (m := 2*k+1) (fn := zd0) rfl Z.F10.F sc_halved rfl rfl fun _ _ _ _ _ _ hr1 => have hr := hr1.mono (Nat.le_succ (2*k));have nd := sc_halved.nd;have hu1 := zW hr;(zb (zj (zo (za (zg zgf (zg zhB (zd zbq 1) ze) (zg zhy (zd zbq 3) (zg zau (zd zbq 0) ze))) (za (zg zb4 (zd zbq 1) ze) zh)))) zf)
theorem zdh (Z:Facts w K mg cl fa fdd)(C:Fns P w K mg base cl fa fdd k):FnOk P w K mg base (CX1 P w) (2*k+1+1) (fa 11) (fdd 11) ["rows","w","lo","hi","k"] (spI K cl (callT T (k+1)) 11) :=
 zt (m := 2*k+1) (fn := zan) rfl Z.F11.F sc_small_run rfl rfl fun _ _ _ _ _ _ hr1 => have hr := hr1.mono (Nat.le_succ (2*k));have nd := sc_small_run.nd;have hu1 := zW hr;(zb (zbV (zn (C 12 _ rfl) hr zae Z.F12.m Z.F12.F.kp Z.F12.b (za (zd zS 0) zh))) (zb (zj (zn (C 13 _ rfl) hr zaF Z.F13.m Z.F13.F.kp Z.F13.b (za (zd zS 0) (za (zd zS 1) (za (zd zS 2) (za (zd zS 3) (za (zd zS 4) zh))))))) zf))
theorem zcj (Z:Facts w K mg cl fa fdd)(C:Fns P w K mg base cl fa fdd k):FnOk P w K mg base (CX1 P w) (2*k+1+1) (fa 12) (fdd 12) ["rows"] (spI K cl (callT T (k+1)) 12) :=
 zt (m := 2*k+1) (fn := f_refuse_rows) rfl Z.F12.F sc_refuse_rows rfl rfl fun _ _ _ _ _ _ hr1 => have hr := hr1.mono (Nat.le_succ (2*k));have nd := sc_refuse_rows.nd;have hu1 := zW hr;(zb (zc9 own1 rfl (zd zX 0) (zaj (i := 1) nd rfl (lcF (i := 1) zX rfl)) (zb (zD (zq zgN (zd zX 1) (ziF zad Z.c_SMALL_ROWS) (by with_unfolding_all rfl)) (zb zaD zf) zf) zf)) (zb (zD (zq zi9 (zao zcw zbf Z.z_len zcy (za (zd zX 0) zh)) (zgF (i := 8) zah Z.c_MOST_ROWS) (nomark _)) (zb zaD zf) zf) zf))
theorem zdR (Z:Facts w K mg cl fa fdd)(C:Fns P w K mg base cl fa fdd k):FnOk P w K mg base (CX1 P w) (2*k+1+1) (fa 13) (fdd 13) ["rows","w","lo","hi","k"] (spI K cl (callT T (k+1)) 13) :=
 zt (m := 2*k+1) (fn := f_all_done) rfl Z.F13.F sc_all_done rfl rfl fun _ _ _ _ _ _ hr1 => have hr := hr1.mono (Nat.le_succ (2*k));have nd := sc_all_done.nd;have hu1 := zW hr;(zb (zc9 own1 rfl (zd zB 0) (zaj (i := 5) nd rfl (lcF (i := 5) zB rfl)) (zb (zbo (zn (C 14 _ rfl) hr zax Z.F14.m Z.F14.F.kp Z.F14.b (za (zd zB 5) (za (zd zB 1) (za (zd zB 2) (za (zd zB 3) (za (zd zB 4) zh)))))) (zbh rfl (zG (i := 2) nd rfl (lcF (i := 2) zB rfl) (zG (i := 3) nd rfl (lcF (i := 3) zB rfl) (zG (i := 4) nd rfl (lcF (i := 4) zB rfl) zaA))))) zf)) (zb (zj (zo (za (zd zB 2) (za (zd zB 3) (za (zd zB 4) zh))))) zf))
theorem zcQ (Z:Facts w K mg cl fa fdd)(C:Fns P w K mg base cl fa fdd k):FnOk P w K mg base (CX1 P w) (2*k+1+1) (fa 14) (fdd 14) ["row","w","lo","hi","k"] (spI K cl (callT T (k+1)) 14) :=
 zt (m := 2*k+1) (fn := zaB) rfl Z.F14.F sc_small_done rfl rfl fun _ _ _ _ _ _ hr1 => have hr := hr1.mono (Nat.le_succ (2*k));have nd := sc_small_done.nd;have hu1 := zW hr;(zb (zD (zq (zaL hr.units) (zd zi 0) zC (nomark _)) (zb (zj (zo (za (zd zi 3) (za (zd zi 2) (za (zd zi 4) zh))))) zf) zf) (zb (zD (zq (zaL hr.units) (zd zi 0) zC (nomark _)) (zb (zj (zo (za (zd zi 2) (za (zd zi 2) (za (zd zi 4) zh))))) zf) zf) (zb (zD (zq (zaL hr.units) (zd zi 0) zC (nomark _)) (zb (zj (zo (za ze (za (zd zi 3) (za (zd zi 4) zh))))) zf) zf) (zb (zD (zq (zaL hr.units) (zd zi 0) zC (nomark _)) (zb (zj (zo (za (zd zi 2) (za (zd zi 3) (za ze zh))))) zf) zf) (zb (zD (zq (zaL hr.units) (zd zi 0) zC (nomark _)) (zb (zj (zo (za (zd zi 2) (za (zd zi 3) (za ze zh))))) zf) zf) (zb (zbo (zn (C 0 _ rfl) hr zbp Z.F0.m Z.F0.F.kp Z.F0.b (za (zeg (zq (zaL hr.units) (zd zi 0) zC (nomark _)) zC (zd zi 0)) (za (zd zi 1) (za (zd zi 2) (za (zd zi 3) (za (zd zi 4) zh)))))) (zbh rfl (zG (i := 5) nd rfl (lcF (i := 5) zi rfl) (zG (i := 6) nd rfl (lcF (i := 6) zi rfl) zaA)))) (zb (zj (zo (za (zd zi 5) (za (zd zi 3) (za (zd zi 6) zh))))) zf)))))))
theorem zfd (Z:Facts w K mg cl fa fdd)(C:Fns P w K mg base cl fa fdd k):FnOk P w K mg base (CX1 P w) (2*k+1+1) (fa 15) (fdd 15) ["_law_script"] (spI K cl (callT T (k+1)) 15) :=
 zt (m := 2*k+1) (fn := zbP) rfl Z.F15.F sc_qfresh rfl rfl fun _ _ _ _ _ _ hr1 => have hr := hr1.mono (Nat.le_succ (2*k));have nd := sc_qfresh.nd;have hu1 := zW hr;(zb (zj (zeQ (za (zgz (zd zfs 0) zfj (zge ze)) (za ze (za ze (za zfq zh)))))) zf)
theorem ze5 (Z:Facts w K mg cl fa fdd)(C:Fns P w K mg base cl fa fdd k):FnOk P w K mg base (CX1 P w) (2*k+1+1) (fa 16) (fdd 16) ["_law_seed"] (spI K cl (callT T (k+1)) 16) :=
 zt (m := 2*k+1) (fn := f_qmixed) rfl Z.F16.F sc_qmixed rfl rfl fun _ _ _ _ _ _ hr1 => have hr := hr1.mono (Nat.le_succ (2*k));have nd := sc_qmixed.nd;have hu1 := zW hr;(zb (zw (i := 1) nd rfl (lcF (i := 1) zl rfl) (zo (za ze (za ze (za ze (za ze (za ze zh))))))) (zb (zw (i := 2) nd rfl (lcF (i := 2) zl rfl) ze) (zb (zc4 own1 rfl (zfp za7 Z.z_enumerate (zd zl 1)) (zbh rfl (zG (i := 3) nd rfl (lcF (i := 3) zl rfl) (zG (i := 4) nd rfl (lcF (i := 4) zl rfl) zaA))) (zb (zw (i := 5) nd rfl (lcF (i := 5) zl rfl) (zg zT (zd zl 0) (zz (zo (za ze (za ze (za ze (za ze (za ze zh)))))) (zd zl 3)))) (zb (zw (i := 5) nd rfl (lcF (i := 5) zl rfl) (zg zaG (zg z5 (zd zl 5) (zg zT ze (zg z5 ze (zd zl 3)))) (zd zl 4))) (zb (zw (i := 6) nd rfl (lcF (i := 6) zl rfl) (zg zaG (zg z5 (zd zl 5) (zd zl 5)) (zd zl 4))) (zb (zw (i := 7) nd rfl (lcF (i := 7) zl rfl) (zg zaG (zg z5 (zg zaG (zg z5 (zd zl 6) (zd zl 6)) (zd zl 4)) (zd zl 5)) (zd zl 4))) (zb (zw (i := 2) nd rfl (lcF (i := 2) zl rfl) (zg zT (zg z5 (zd zl 2) (zd zl 4)) (zd zl 7))) zf)))))) (zb (zj (zd zl 2)) zf))))
theorem zg5 (Z:Facts w K mg cl fa fdd)(C:Fns P w K mg base cl fa fdd k):FnOk P w K mg base (CX1 P w) (2*k+1+1) (fa 17) (fdd 17) ["_law_state"] (spI K cl (callT T (k+1)) 17) :=
 zt (m := 2*k+1) (fn := za3) rfl Z.F17.F sc_qfill rfl rfl fun _ _ _ _ _ _ hr1 => have hr := hr1.mono (Nat.le_succ (2*k));have nd := sc_qfill.nd;have hu1 := zW hr;(zb (zgq rfl nd rfl rfl (by decide) (zgy rfl nd rfl rfl (by decide) rfl rfl (za (zz (zd zr 0) ze) (za (zz (zd zr 0) ze) zh)) rfl)) (zb (zw (i := 3) nd rfl (lcF (i := 3) zr rfl) (zg zT (zg z5 ze (zd zr 2)) ze)) (zb (zD (zq zi9 (zao zcw zaa Z.z_len zcy (za (zd zr 1) zh)) ze (nomark _)) (zb (zw (i := 3) nd rfl (lcF (i := 3) zr rfl) (zg z5 ze (zg zcX (zd zr 2) (zao zcw zaa Z.z_len zcy (za (zd zr 1) zh))))) (zb (zw (i := 3) nd rfl (lcF (i := 3) zr rfl) (zg zT (zd zr 3) (zz (zd zr 1) (zg zaG (zd zr 2) (zao zcw zaa Z.z_len zcy (za (zd zr 1) zh)))))) zf)) zf) (zb (zaQ (zg zT (zd zr 2) ze) (zd zr 0) ze (hg := zaY (zd zr 0) ze zab)) (zb (zaQ (ziw (zbm ziJ (zd zr 2) (zao zcw zaa Z.z_len zcy (za (zd zr 1) zh)) (nomark _)) (zcZ (zbm zen (zd zr 3) (zg zht ze ze) (nomark _)))) (zd zr 0) ze (hg := zaY (zd zr 0) ze zab)) (zb (zD (zaZ (zz (zd zr 0) ze)) (zb (zaQ (zn (C 16 _ rfl) hr zb3 Z.F16.m Z.F16.F.kp Z.F16.b (za (zd zr 3) zh)) (zd zr 0) ze (hg := zaY (zd zr 0) ze zab)) zf) (zb (zaQ (zg zau (zd zr 3) (zg zht ze ze)) (zd zr 0) ze (hg := zaY (zd zr 0) ze zab)) zf)) zf))))))
theorem zgL (Z:Facts w K mg cl fa fdd)(C:Fns P w K mg base cl fa fdd k):FnOk P w K mg base (CX1 P w) (2*k+1+1) (fa 18) (fdd 18) ["_law_state","_law_many"] (spI K cl (callT T (k+1)) 18) :=
 zt (m := 2*k+1) (fn := f_qtake) rfl Z.F18.F sc_qtake rfl rfl fun _ _ _ _ _ _ hr1 => have hr := hr1.mono (Nat.le_succ (2*k));have nd := sc_qtake.nd;have hu1 := zW hr;(zb (zw (i := 2) nd rfl (lcF (i := 2) zy rfl) ze) (zb (zeN own1 (zbt (zc2 (zq zen (zd zy 2) ze (nomark _)) (zbT (zbt (zcV (zq (zaL hr.units) (zz (zd zy 0) ze) ze (nomark _)) (zc0 (zbt (zc2 (zaZ (zz (zd zy 0) ze)) (zbT (zq zen (zz (zd zy 0) ze) (zg z5 (zd zy 1) ze) (nomark _))))))))))) (zb (zbV (zn (C 17 _ rfl) hr zcm Z.F17.m Z.F17.F.kp Z.F17.b (za (zd zy 0) zh))) (zb (zgY (i := 2) nd rfl (lcF (i := 2) zy rfl) ze zh6) (zb (zD (zbt (zc2 (zaZ (zz (zd zy 0) ze)) (zbT (zq zen (zz (zd zy 0) ze) (zg z5 (zd zy 1) ze) (nomark _))))) (zb (zaQ (zg zT (zz (zd zy 0) ze) (zg z5 (zg z5 (zd zy 1) ze) (zg zT ze (zg zaG (zz (zd zy 0) ze) ze)))) (zd zy 0) ze (hg := zaY (zd zy 0) ze zab)) zf) zf) zf)))) (zb (zw (i := 3) nd rfl (lcF (i := 3) zy rfl) (zg zaG (zz (zd zy 0) ze) (zd zy 1))) (zb (zaQ (zg zcX (zz (zd zy 0) ze) (zd zy 1)) (zd zy 0) ze (hg := zaY (zd zy 0) ze zab)) (zb (zj (zd zy 3)) zf)))))
theorem zfz (Z:Facts w K mg cl fa fdd)(C:Fns P w K mg base cl fa fdd k):FnOk P w K mg base (CX1 P w) (2*k+1+1) (fa 19) (fdd 19) ["_law_thing"] (spI K cl (callT T (k+1)) 19) :=
 zt (m := 2*k+1) (fn := zbJ) rfl Z.F19.F sc_qwhole rfl rfl fun _ _ _ _ _ _ hr1 => have hr := hr1.mono (Nat.le_succ (2*k));have nd := sc_qwhole.nd;have hu1 := zW hr;(zb (zj (zd3 (zcI (t := .int) Z.k_int rfl z4 Z.z_isinstance zcO Z.z_int zea (zd zdy 0)) (zcZ (zg0 (zcI (t := .bool) Z.k_bool rfl z4 Z.z_isinstance zck Z.z_bool zic (zd zdy 0)))))) zf)
theorem zeH (Z:Facts w K mg cl fa fdd)(C:Fns P w K mg base cl fa fdd k):FnOk P w K mg base (CX1 P w) (2*k+1+1) (fa 20) (fdd 20) ["_law_thing","_law_many","_law_most"] (spI K cl (callT T (k+1)) 20) :=
 zt (m := 2*k+1) (fn := zbk) rfl Z.F20.F sc_qwholes rfl rfl fun _ _ _ _ _ _ hr1 => have hr := hr1.mono (Nat.le_succ (2*k));have nd := sc_qwholes.nd;have hu1 := zW hr;(zb (zD (zbt (zcV (zec (zaZ (zcI (t := .tuple) Z.k_tuple rfl zay Z.z_isinstance zbH Z.z_tuple zc1 (zd zaU 0)))) (zc0 (zq (zgt hr.units) (zao zcw zcp Z.z_len zcy (za (zd zaU 0) zh)) (zd zaU 1) (nomark _))))) (zb zaD zf) zf) (zb (zj (zao (zjT rfl) zcn Z.z_all ziY (za (zdv rfl (compOk (NC := ["_law_part","_law_most"]) (slots := [none,some 2]) ["_law_thing","_law_many","_law_most"] (defScope zM) rfl rfl rfl (by decide +kernel) (by decide +kernel) (by decide +kernel) (by decide +kernel) rfl) (by decide) (zeh (zd zaU 0)) (fun j => zda rfl (zaj (i := 0) (show (["_law_part","_law_most"]:List Str).Nodup by decide +kernel) rfl (by first|exact Or.inl rfl|exact Or.inr rfl))) (fun j => zcs) (fun j => zc8 rfl (zd3 (zn (C 19 _ rfl) hr rfl Z.F19.m Z.F19.F.kp Z.F19.b (za (sv_k 0) zh)) (zcZ (zeK ziR ziR (zg zau ze (sv_k 1)) (sv_k 0) (sv_k 1)))))) zh))) zf))
theorem zf2 (Z:Facts w K mg cl fa fdd)(C:Fns P w K mg base cl fa fdd k):FnOk P w K mg base (CX1 P w) (2*k+1+1) (fa 21) (fdd 21) [] (spI K cl (callT T (k+1)) 21) :=
 zt (m := 2*k+1) (fn := zcM) rfl Z.F21.F sc_qtexts rfl rfl fun _ _ _ _ _ _ hr1 => have hr := hr1.mono (Nat.le_succ (2*k));have nd := sc_qtexts.nd;have hu1 := zW hr;(zb (zw (i := 0) nd rfl (lcF (i := 0) zdr rfl) zC) (zb (zj (z7 zel zcb Z.z_tuple zc1 (za (zex (zd zdr 0) zC) zh))) zf))
theorem zc6 (Z:Facts w K mg cl fa fdd)(C:Fns P w K mg base cl fa fdd k):FnOk P w K mg base (CX1 P w) (2*k+1+1) (fa 22) (fdd 22) ["_law_row","_law_wide","_law_lo","_law_hi","_law_k"] (spI K cl (callT T (k+1)) 22) :=
 zt (m := 2*k+1) (fn := zaC) rfl Z.F22.F sc_qsmall_one rfl rfl fun _ _ _ _ _ _ hr1 => have hr := hr1.mono (Nat.le_succ (2*k));have nd := sc_qsmall_one.nd;have hu1 := zW hr;(zb (zD (zq (zaL hr.units) (zd zc 0) zC (nomark _)) (zb (zj (zo (za (zd zc 3) (za (zd zc 2) (za (zd zc 4) zh))))) zf) zf) (zb (zD (zq (zaL hr.units) (zd zc 0) zC (nomark _)) (zb (zj (zo (za (zd zc 2) (za (zd zc 2) (za (zd zc 4) zh))))) zf) zf) (zb (zD (zq zkk (zd zc 0) (zo (za zC (za zC zh))) (by with_unfolding_all rfl)) (zb (zj (zo (za (zd zc 2) (za (zd zc 3) (za (z7 zf6 zU Z.z_int zea (za (zbm (zaL hr.units) (zd zc 0) zC (nomark _)) zh)) zh))))) zf) zf) (zb (zD (zq (zaL hr.units) (zd zc 0) zC (nomark _)) (zb (zj (zo (za (zg zaG (zg zT (zg zT (zd zc 2) (zd zc 3)) (zd zc 4)) (zd zc 1)) (za (zd zc 3) (za (zg zcX (zg zT (zg zT (zd zc 2) (zd zc 3)) (zd zc 4)) (zd zc 1)) zh))))) zf) zf) (zb (zD (zq (zaL hr.units) (zd zc 0) zC (nomark _)) (zb (zj (zo (za (zg zaG (zg zau (zg zau (zd zc 2) (zd zc 3)) (zd zc 4)) (zd zc 1)) (za (zd zc 3) (za (z7 zf6 zU Z.z_int zea (za (zbm zen (zd zc 2) (zg zT (zd zc 3) (zd zc 4)) (nomark _)) zh)) zh))))) zf) zf) (zb (zD (zq (zaL hr.units) (zd zc 0) zC (nomark _)) (zb (zj (zo (za (zg zaG (zg zT (zg z5 ze (zd zc 2)) (zd zc 4)) (zd zc 1)) (za (zd zc 3) (za (z7 zf6 zU Z.z_int zea (za (zbm ziJ (zg z5 ze (zd zc 2)) (zd zc 1) (nomark _)) zh)) zh))))) zf) zf) (zb (zD (zq (zaL hr.units) (zd zc 0) zC (nomark _)) (zb (zj (zo (za (zg zcX (zg zT (zd zc 2) (zg z5 (zd zc 4) (zd zc 1))) ze) (za (zd zc 3) (za (zg zaG (zd zc 2) ze) zh))))) zf) zf) (zb (zD (zq (zaL hr.units) (zd zc 0) zC (nomark _)) (zb (zj (zo (za (zg zau (zg zau (zd zc 1) ze) (zd zc 2)) (za (zd zc 3) (za (zd zc 4) zh))))) zf) zf) (zb (zD (zq (zaL hr.units) (zd zc 0) zC (nomark _)) (zb (zj (zo (za ze (za (zd zc 3) (za (zd zc 4) zh))))) zf) zf) (zb (zj (zo (za (zeT hu1 (zcf (zg zb4 (zd zc 2) (zd zc 3)) (zcf (zg zgf (zd zc 2) (zd zc 3)) (zcf (zg zgc (zd zc 2) (zd zc 3)) zgp))) (zd zc 0)) (za (zd zc 3) (za (zd zc 4) zh))))) zf))))))))))
theorem zc3 (Z:Facts w K mg cl fa fdd)(C:Fns P w K mg base cl fa fdd k):FnOk P w K mg base (CX1 P w) (2*k+1+1) (fa 23) (fdd 23) ["_law_rows","_law_wide","_law_begin"] (spI K cl (callT T (k+1)) 23) :=
 zt (m := 2*k+1) (fn := f_qsmall_all) rfl Z.F23.F sc_qsmall_all rfl rfl fun _ _ _ _ _ _ hr1 => have hr := hr1.mono (Nat.le_succ (2*k));have nd := sc_qsmall_all.nd;have hu1 := zW hr;(zb (zbo (zd zk 2) (zbh rfl (zG (i := 3) nd rfl (lcF (i := 3) zk rfl) (zG (i := 4) nd rfl (lcF (i := 4) zk rfl) (zG (i := 5) nd rfl (lcF (i := 5) zk rfl) zaA))))) (zb (zc4 own1 rfl (zeh (zd zk 0)) (zaj (i := 6) nd rfl (lcF (i := 6) zk rfl)) (zb (zbo (zn (C 22 _ rfl) hr zag Z.F22.m Z.F22.F.kp Z.F22.b (za (zd zk 6) (za (zd zk 1) (za (zd zk 3) (za (zd zk 4) (za (zd zk 5) zh)))))) (zbh rfl (zG (i := 3) nd rfl (lcF (i := 3) zk rfl) (zG (i := 4) nd rfl (lcF (i := 4) zk rfl) (zG (i := 5) nd rfl (lcF (i := 5) zk rfl) zaA))))) zf)) (zb (zj (zo (za (zd zk 3) (za (zd zk 4) (za (zd zk 5) zh))))) zf)))
theorem zco (Z:Facts w K mg cl fa fdd)(C:Fns P w K mg base cl fa fdd k):FnOk P w K mg base (CX1 P w) (2*k+1+1) (fa 24) (fdd 24) ["_law_state","_law_most"] (spI K cl (callT T (k+1)) 24) :=
 zt (m := 2*k+1) (fn := f_qsmall_rows) rfl Z.F24.F sc_qsmall_rows rfl rfl fun _ _ _ _ _ _ hr1 => have hr := hr1.mono (Nat.le_succ (2*k));have nd := sc_qsmall_rows.nd;have hu1 := zW hr;(zb (zw (i := 2) nd rfl (lcF (i := 2) zY rfl) (zn (C 18 _ rfl) hr za1 Z.F18.m Z.F18.F.kp Z.F18.b (za (zd zY 0) (za (zg zT (zd zY 1) ze) zh)))) (zb (zj (zdv rfl (compOk (NC := ["_law_k","_law_state"]) (slots := [none,some 0]) ["_law_state","_law_most","_law_many"] (defScope zE) rfl rfl rfl (by decide +kernel) (by decide +kernel) (by decide +kernel) (by decide +kernel) rfl) (by decide) (zca za2 Z.z_range (zd zY 2)) (fun j => zda rfl (zaj (i := 0) (show (["_law_k","_law_state"]:List Str).Nodup by decide +kernel) rfl (by first|exact Or.inl rfl|exact Or.inr rfl))) (fun j => zcs) (fun j => zc8 rfl (zz (zeG (C 21 _ rfl) hr rfl Z.F21.m Z.F21.F.kp Z.F21.b) (zn (C 18 _ rfl) hr rfl Z.F18.m Z.F18.F.kp Z.F18.b (za (sv_k 1) (za ze zh))))))) zf))
theorem zjf (Z:Facts w K mg cl fa fdd)(C:Fns P w K mg base cl fa fdd k):FnOk P w K mg base (CX1 P w) (2*k+1+1) (fa 25) (fdd 25) ["_law_script"] (spI K cl (callT T (k+1)) 25) :=
 zt (m := 2*k+1) (fn := f_law) rfl Z.F25.F sc_law rfl rfl fun _ _ _ _ _ _ hr1 => have hr := hr1.mono (Nat.le_succ (2*k));have nd := sc_law.nd;have hu1 := zW hr;(zb (zw (i := 1) nd rfl (lcF (i := 1) zu rfl) (zn (C 15 _ rfl) hr zcE Z.F15.m Z.F15.F.kp Z.F15.b (za (zd zu 0) zh))) (zb (zc4 own1 rfl (zca zdC Z.z_range ze) (zaj (i := 2) nd rfl (lcF (i := 2) zu rfl)) (zb (zw (i := 3) nd rfl (lcF (i := 3) zu rfl) (zn (C 24 _ rfl) hr zbi Z.F24.m Z.F24.F.kp Z.F24.b (za (zd zu 1) (za ze zh)))) (zb (zw (i := 4) nd rfl (lcF (i := 4) zu rfl) (zg zT ze (zn (C 18 _ rfl) hr z0 Z.F18.m Z.F18.F.kp Z.F18.b (za (zd zu 1) (za ze zh))))) (zb (zw (i := 5) nd rfl (lcF (i := 5) zu rfl) (zg z5 ze (zz (zg4 (za ze (za ze (za ze zh)))) (zg zau (zd zu 4) ze)))) (zb (zw (i := 6) nd rfl (lcF (i := 6) zu rfl) (zo (za (zn (C 18 _ rfl) hr z0 Z.F18.m Z.F18.F.kp Z.F18.b (za (zd zu 1) (za (zd zu 5) zh))) (za (zn (C 18 _ rfl) hr z0 Z.F18.m Z.F18.F.kp Z.F18.b (za (zd zu 1) (za (zd zu 5) zh))) (za (zn (C 18 _ rfl) hr z0 Z.F18.m Z.F18.F.kp Z.F18.b (za (zd zu 1) (za ze zh))) zh))))) (zb (zw (i := 7) nd rfl (lcF (i := 7) zu rfl) (zn (C 23 _ rfl) hr zbv Z.F23.m Z.F23.F.kp Z.F23.b (za (zd zu 3) (za (zd zu 5) (za (zd zu 6) zh))))) (zb (zw (i := 8) nd rfl (lcF (i := 8) zu rfl) (zeE zal Z.z_list zcP (za (zd zu 3) zh))) (zb (zD (zq (zaL hr.units) (zn (C 18 _ rfl) hr z0 Z.F18.m Z.F18.F.kp Z.F18.b (za (zd zu 1) (za ze zh))) ze (nomark _)) (zb (zw (i := 8) nd rfl (lcF (i := 8) zu rfl) (z7 zel zdD Z.z_tuple zc1 (za (zd zu 3) zh))) zf) zf) (zb (zw (i := 9) nd rfl (lcF (i := 9) zu rfl) (zn (C 11 _ rfl) hr zav Z.F11.m Z.F11.F.kp Z.F11.b (za (zd zu 8) (za (zd zu 4) (za (zz (zd zu 6) ze) (za (zz (zd zu 6) ze) (za (zz (zd zu 6) ze) zh))))))) (zb (zD (zbt (zcV (zq (zgt hr.units) (z7 zfc zal Z.z_list zcP (za (zd zu 8) zh)) (zd zu 3) (nomark _)) (zcV (zec (zaZ (zn (C 20 _ rfl) hr zcl Z.F20.m Z.F20.F.kp Z.F20.b (za (zd zu 9) (za ze (za ze zh)))))) (zc0 (zq (zgt hr.units) (zd zu 9) (zd zu 7) (nomark _)))))) (zb zaD zf) zf) (zb (zD (zaZ (zgj Z.k_list zbz Z.z_isinstance zal Z.z_list zcP (zd zu 8))) (zb (zbV (zet (zd zu 8))) zf) zf) (zb (zD (zq (zgt hr.units) (zn (C 11 _ rfl) hr zav Z.F11.m Z.F11.F.kp Z.F11.b (za (z7 zfc zal Z.z_list zcP (za (zd zu 3) zh)) (za (zd zu 4) (za (zz (zd zu 6) ze) (za (zz (zd zu 6) ze) (za (zz (zd zu 6) ze) zh)))))) (zd zu 7) (nomark _)) (zb zaD zf) zf) zf)))))))))))) (zb (zj zfq) zf)))
end
end WK
namespace IC
open PySem
noncomputable def forB (call:Cl)(t:Tg)(b:Css)(xs:List PV)(ρ:Env)(st:Store):Fl := forL t (fun ρ2 st2 => exs call ρ2 st2 b) xs ρ st
noncomputable def whileB (call:Cl)(c:Ce)(b:Css)(n:Nat)(ρ:Env)(st:Store):Fl := whileL (fun ρ2 st2 => ev call ρ2 st2 c) (fun ρ2 st2 => exs call ρ2 st2 b) n ρ st
noncomputable def oneB (call:Cl)(ρ0:Env)(t:Tg)(c e:Ce)(x:PV)(st2:Store):R (Option PV) := match bindT t x ρ0 with
 |none => .bad
 |some ρ1 => (ev call ρ1 st2 c).bind fun b st3 => onO (truV st3 b) fun k => cond k ((ev call ρ1 st3 e).bind fun y st4 => .ok (some y) st4) (.ok none st3)
noncomputable def compB (call:Cl)(ρ0:Env)(t:Tg)(c e:Ce)(xs:List PV)(st:Store):R (List PV) := compL (oneB call ρ0 t c e) xs st
noncomputable def thenF (f:Fl)(k:Env->Store->Fl):Fl :=
 match f with
 | .nx ρ st => k ρ st
 |f => f
noncomputable def nxO (o:Option Env)(st:Store):Fl :=
 match o with
 |some ρ => .nx ρ st
 |none => .bad
noncomputable def stO (ρ:Env)(o:Option Store):Fl :=
 match o with
 |some st => .nx ρ st
 |none => .bad
section
variable {call:Cl}{ρ:Env}{st:Store}
theorem x_for {t:Tg}{it:Cit}{b:Css}:ex call ρ st (.for t it b)=(evi call ρ st it).fl ρ fun xs st1 => forB call t b xs ρ st1 := by rw [ex];rfl
theorem zhF {c:Ce}{b:Css}:ex call ρ st (.while c b)=whileB call c b 100000 ρ st := by rw [ex];rfl
theorem v_comp {sl:List (Option Nat)}{t:Tg}{it:Cit}{c e:Ce}:ev call ρ st (.comp sl t it c e)=(evi call ρ st it).bind fun xs st1 => lstR (compB call (sl.map fun o => o.bind fun j => (ρ[j]?).join) t c e xs st1) := by rw [ev];rfl
theorem zbd {t:Tg}{b:Css}:forB call t b [] ρ st=.nx ρ st := by rw [forB,forL]
theorem zaE {t:Tg}{b:Css}{x:PV}{xs:List PV}{ρ1:Env}(h:bindT t x ρ=some ρ1):forB call t b (x::xs) ρ st=againF (exs call ρ1 st b) fun ρ2 st2 => forB call t b xs ρ2 st2 := by
 rw [forB,forL,h];rfl
theorem zd5 {t:Tg}{b:Css}(P:Nat->Env->Store->Prop):∀(xs:List PV) (i:Nat) (ρ:Env) (st:Store),P i ρ st ->
  (∀(j:Nat) (x:PV) (ρ:Env) (st:Store),xs[j]?=some x->P (i+j) ρ st->∃ρ1 ρ2 st2,bindT t x ρ=some ρ1/\exs call ρ1 st b=.nx ρ2 st2/\P (i+j+1) ρ2 st2) ->
  ∃ρ' st',forB call t b xs ρ st=.nx ρ' st'/\P (i+xs.length) ρ' st'
 | [],i,ρ,st,h,_ => ⟨ρ,st,zbd,h⟩
 |x::xs,i,ρ,st,h,k => by
  obtain ⟨ρ1,ρ2,st2,e1,e2,h2⟩ := k 0 x ρ st rfl h
  obtain ⟨ρ',st',e3,h3⟩ := zd5 P xs (i+1) ρ2 st2 h2 fun j y ρ st hy hp => by
   have := k (j+1) y ρ st (by simpa using hy) (by rw [show i+(j+1)=i+1+j by omega];exact hp)
   rw [show i+(j+1)+1=i+1+j+1 by omega] at this
   exact this
  refine ⟨ρ',st',?_,by rw [List.length_cons,show i+(xs.length+1)=i+1+xs.length by omega];exact h3⟩
  rw [zaE e1,e2]
  exact e3
theorem zfJ {c:Ce}{b:Css}{n:Nat}{x:PV}{st1 st2:Store}{ρ2:Env}(h:ev call ρ st c=.ok x st1)(ht:truV st1 x=some true)(hb:exs call ρ st1 b=.nx ρ2 st2):whileB call c b (n+1) ρ st=whileB call c b n ρ2 st2 := by
 rw [whileB,whileL,h]
 simp only [R.fl,ht,onF,cond_true,hb,againF]
 rfl
theorem zdQ {c:Ce}{b:Css}{n:Nat}{x:PV}{st1:Store}(h:ev call ρ st c=.ok x st1)(ht:truV st1 x=some false):whileB call c b (n+1) ρ st=.nx ρ st1 := by
 rw [whileB,whileL,h]
 simp only [R.fl,ht,onF,cond_false]
theorem zdB {ρ0:Env}{t:Tg}{c e:Ce}:compB call ρ0 t c e [] st=.ok [] st := by rw [compB,compL]
theorem zaW {ρ0:Env}{t:Tg}{c e:Ce}{x:PV}{xs:List PV}:compB call ρ0 t c e (x::xs) st=(oneB call ρ0 t c e x st).bind fun o st1 => (compB call ρ0 t c e xs st1).bind fun ys st2 => .ok (consO o ys) st2 := by
 rw [compB,compL];rfl
theorem xs_nil:exs call ρ st .nil=.nx ρ st := by rw [exs]
theorem xs_cons {s:Cs}{ss:Css}:exs call ρ st (.cons s ss)=thenF (ex call ρ st s) fun ρ1 st1 => exs call ρ1 st1 ss := by
 rw [exs]
 cases ex call ρ st s <;> rfl
theorem x_asg {t:Tg}{e:Ce}:ex call ρ st (.asg t e)=(ev call ρ st e).fl ρ fun v st1 => nxO (bindT t v ρ) st1 := by
 rw [ex]
 refine congrArg _ (funext fun v => funext fun st1 => ?_)
 cases bindT t v ρ <;> rfl
theorem x_expr {e:Ce}:ex call ρ st (.expr e)=(ev call ρ st e).fl ρ fun _ st1 => .nx ρ st1 := by rw [ex]
theorem x_ret {e:Ce}:ex call ρ st (.ret e)=(ev call ρ st e).fl ρ fun v st1 => .rt v st1 := by rw [ex]
theorem x_ite {c:Ce}{a b:Css}:ex call ρ st (.ite c a b)=(ev call ρ st c).fl ρ fun x st1 => onF (truV st1 x) fun k => cond k (exs call ρ st1 a) (exs call ρ st1 b) := by rw [ex]
theorem x_raise {c:Nat}{e:Ce}:ex call ρ st (.raise c e)=(ev call ρ st e).fl ρ fun _ st1 => .exc c ρ st1 := by rw [ex]
noncomputable def endF (i:Nat)(f:Fl):Fl :=
 match f with
 | .nx ρ2 st2 => .nx (ρ2.set i none) st2
 | .rt v st2 => .rt v st2
 |_ => .bad
noncomputable def tryF (cs:List Nat)(i:Nat)(f:Fl)(k:Env->Store->Nat->Fl):Fl :=
 match f with
 | .exc d ρ1 st1 => if cs.contains d then endF i (k ρ1 st1 d) else .bad
 |f => f
theorem x_try {b h:Css}{cs:List Nat}{i:Nat}:ex call ρ st (.try b cs i h)=tryF cs i (exs call ρ st b) fun ρ1 st1 d => exs call (ρ1.set i (some (.exn d))) st1 h := by
 rw [ex]
 cases exs call ρ st b <;> rfl
theorem x_six {o i e:Ce}:ex call ρ st (.six o i e)=(ev call ρ st e).fl ρ fun v st1 => (ev call ρ st1 o).fl ρ fun x st2 => (ev call ρ st2 i).fl ρ fun y st3 => stO ρ (sixV st3 x y v) := by
 rw [ex]
 refine congrArg _ (funext fun v => funext fun st1 => congrArg _ (funext fun x => funext fun st2 => congrArg _ (funext fun y => funext fun st3 => ?_)))
 cases sixV st3 x y v <;> rfl
theorem zkh {i:Nat}{o:BOp}{e:Ce}{x:PV}(h:ρ[i]?=some (some x)):ex call ρ st (.aug i o e)=(ev call ρ st e).fl ρ fun y st1 => nxO ((augV o x y).map fun z => ρ.set i (some z)) st1 := by
 rw [ex,h]
 show (ev call ρ st e).fl ρ _=_
 refine congrArg _ (funext fun y => funext fun st1 => ?_)
 cases augV o x y <;> rfl
end
end IC
namespace WK
open IC PySem
noncomputable def chS (c:Nat):Str := ⟨#[c]⟩
noncomputable def cellV (c:Nat)(i:Int):PV := .tup [.str (chS c),.int i]
noncomputable abbrev Mem := Nat->Int->Int
noncomputable def upd (M:Mem)(c:Nat)(i v:Int):Mem := fun d j => if d=c/\j=i then v else M d j
def Rel (kvs:List (PV×PV))(M:Mem):Prop := ∀c i,(look (cellV c i) kvs).getD (.int 0)=.int (M c i)
noncomputable abbrev Cel := Nat×Int
inductive Rw where
 | mark (d:Int)|ask (x:Cel)|set (t:Cel) (d:Int)|move (t x:Cel)|bare (t x:Cel)|twice (t x:Cel)|half (t x:Cel)
 | sum (t x y:Cel)|less (t x y:Cel)|both (t x y:Cel)|any (t x y:Cel)|odd (t x y:Cel)
theorem zg8 {st:Store}{n:Nat}{o:Ob}(h:st[n]?=some o):st=st.set n o := by
 refine List.ext_getElem? fun i => ?_
 rw [List.getElem?_set]
 split
 ·rename_i e
  subst e
  split
  ·exact h
  ·rename_i z
   rw [List.getElem?_eq_none (by omega)] at h
   cases h
 ·rfl
theorem zb9 (i:Int):shp (.int i)=true := rfl
section
variable {st:Store}{k:Bool}{a b c d e:PV}{r:List PV}{i j:Int}
theorem b_add:binV .add (.int i) (.int j)=some (.int (i+j)) := rfl
theorem b_sub:binV .sub (.int i) (.int j)=some (.int (i - j)) := rfl
theorem ziW (h:i.natAbs<18446744073709551616 \/ j.natAbs<18446744073709551616):binV .mul (.int i) (.int j)=some (.int (i*j)) := by
 have:CMulB i j=true := by simpa [CMulB] using h
 simp [binV,binI,this]
theorem zfh (h:j.natAbs<18446744073709551616):binV .mul (.int i) (.int j)=some (.int (i*j)) := ziW (.inr h)
theorem b_mul2:binV .mul (.int 2) (.int j)=some (.int (2*j)) := ziW (.inl (by decide))
theorem b_div2:binV .fdiv (.int i) (.int 2)=some (.int (i / 2)) := rfl
theorem zkJ (h:0<j):binV .mod (.int i) (.int j)=some (.int (i % j)) := by simp [binV,binI,h]
theorem toR_some {v:PV}:toR (some v) st=.ok v st := rfl
theorem c_ne:cmpV .ne (.int i) (.int j)=some (.bl (!(i == j))) := by simp [cmpV,zb9,peq]
theorem c_eq:cmpV .eq (.int i) (.int j)=some (.bl (i == j)) := by simp [cmpV,zb9,peq]
theorem c_lt:cmpV .lt (.int i) (.int j)=some (.bl (decide (i<j))) := rfl
theorem c_le:cmpV .le (.int i) (.int j)=some (.bl (decide (i<=j))) := rfl
theorem c_gt:cmpV .gt (.int i) (.int j)=some (.bl (decide (j<i))) := rfl
theorem c_ge:cmpV .ge (.int i) (.int j)=some (.bl (decide (j<=i))) := rfl
theorem t_bl {b:Bool}:truV st (.bl b)=some b := rfl
theorem on_t {f:Bool->Fl}{b:Bool}:onF (some b) f=f b := rfl
theorem ono {α:Type}{f:Bool->R α}{b:Bool}:onO (some b) f=f b := rfl
theorem nxO_some {ρ:IC.Env}:nxO (some ρ) st=.nx ρ st := rfl
theorem fl_ok {α:Type}{a:α}{ρ:IC.Env}{k:α->Store->Fl}:(R.ok a st).fl ρ k=k a st := rfl
theorem bd_ok {α β:Type}{a:α}{k:α->Store->R β}:(R.ok a st).bind k=k a st := rfl
theorem th_nx {ρ:IC.Env}{k:IC.Env->Store->Fl}:thenF (.nx ρ st) k=k ρ st := rfl
theorem th_rt {v:PV}{k:IC.Env->Store->Fl}:thenF (.rt v st) k=.rt v st := rfl
theorem fl_exc {α:Type}{c:Nat}{ρ:IC.Env}{k:α->Store->Fl}:(R.exc c st:R α).fl ρ k=.exc c ρ st := rfl
theorem bd_exc {α β:Type}{c:Nat}{k:α->Store->R β}:(R.exc c st:R α).bind k=.exc c st := rfl
theorem th_exc {c:Nat}{ρ:IC.Env}{k:IC.Env->Store->Fl}:thenF (.exc c ρ st) k=.exc c ρ st := rfl
theorem noLocs_ints:∀(l:List Int),noLocs (l.map PV.int)=true
 | [] => rfl
 |_::l => by simp [noLocs,noLoc,noLocs_ints l]
theorem bT_n {i:Nat}{v:PV}{ρ:IC.Env}:bindT (.n i) v ρ=some (ρ.set i (some v)) := rfl
end
end WK
local macro_rules | `(tactic| dsimp! [$xs,*]) => `(tactic| simp only [IC.CMulB,IC.R.bind,IC.R.fl,IC.at?,IC.binI,IC.binV,IC.cmpI,IC.cmpV,IC.ev.eq_1,IC.ev.eq_16,IC.ev.eq_18,IC.ev.eq_2,IC.ev.eq_3,IC.ev.eq_8,IC.evs,IC.idxI,IC.idxV,IC.ixI,IC.nxO,IC.onBl,IC.onF,IC.thenF,IC.toR,IC.truV,IC.x_ite,IC.x_six,IC.xs_cons,IC.xs_nil,List.getElem?_cons_succ,List.getElem?_cons_zero,List.set_cons_succ,List.set_cons_zero,$xs,*])
local macro_rules | `(tactic| simp_all! [$xs,*]) => `(tactic| simp only [IC.CMulB,IC.R.bind,IC.at?,IC.binI,IC.binV,IC.cmpI,IC.cmpV,IC.ev.eq_1,IC.ev.eq_16,IC.ev.eq_2,IC.ev.eq_3,IC.ev.eq_6,IC.ev.eq_7,IC.ev.eq_8,IC.idxI,IC.idxV,IC.ixI,IC.onBl,IC.toR,List.getElem?_cons_succ,List.getElem?_cons_zero,$xs,*])
local macro_rules | `(tactic| simp? [$xs,*]) => `(tactic| simp only [IC.R.fl,IC.thenF,IC.x_ret,IC.xs_cons,IC.xs_nil,List.cons_append,List.getElem?_cons_zero,List.length_cons,List.length_nil,List.map_cons,List.map_nil,List.nil_append,List.replicate,Nat.reduceSub,if_true,$xs,*])
namespace WK
open IC PySem
mutual
noncomputable def tam (d m:Nat):PV->Bool
 | .non => true
 | .bl _ => true
 | .int _ => true
 | .str s => s.cps.toList.all (· < 128) && decide (s.cps.toList.length<=m)
 | .tp _ xs => decide (0<d) && (decide (xs.length<=m) && tams (d - 1) m xs)
 | .lst xs => decide (0<d) && (decide (xs.length<=m) && tams (d - 1) m xs)
 |_ => false
noncomputable def tams (d m:Nat):List PV->Bool
 | [] => true
 |x::xs => tam d m x && tams d m xs
end
theorem zcS (d m:Nat):∀xs:List PV,tams d m xs=true ↔ ∀x∈xs,tam d m x=true
 | [] => by simp [tams]
 |x::xs => by simp [tams,zcS d m xs]
theorem lt128 {s:Str}(h:s.cps.toList.all (· < 128)=true):s.cps.all (· < 0x110000)=true := by
 rw [<- Array.all_toList]
 rw [List.all_eq_true] at h ⊢
 intro x hx
 have := h x hx
 simp only [decide_eq_true_eq] at this ⊢
 omega
mutual
theorem zfM (d m:Nat):∀(v:PV) (n:Nat),tam d m v=true->d<=n->shd n v=true
 | .non,n,_,_ => rfl
 | .bl _,n,_,_ => rfl
 | .int _,n,_,_ => rfl
 | .str s,n,h,_ => by simp only [tam,Bool.and_eq_true] at h;exact lt128 h.1
 | .tp _ xs,n,h,l => by
  simp only [tam,Bool.and_eq_true,decide_eq_true_eq] at h
  simp only [shd,Bool.and_eq_true,decide_eq_true_eq]
  exact ⟨by omega,zcT (d - 1) m xs (n - 1) h.2.2 (by omega)⟩
 | .lst xs,n,h,l => by
  simp only [tam,Bool.and_eq_true,decide_eq_true_eq] at h
  simp only [shd,Bool.and_eq_true,decide_eq_true_eq]
  exact ⟨by omega,zcT (d - 1) m xs (n - 1) h.2.2 (by omega)⟩
 | .loc _,n,h,_ => by simp [tam] at h
 | .exn _,n,h,_ => by simp [tam] at h
 | .scr _,n,h,_ => by simp [tam] at h
theorem zcT (d m:Nat):∀(v:List PV) (n:Nat),tams d m v=true->d<=n->shds n v=true
 | [],n,_,_ => rfl
 |x::xs,n,h,l => by
  simp only [tams,Bool.and_eq_true] at h
  simp only [shds,Bool.and_eq_true]
  exact ⟨zfM d m x n h.1 l,zcT d m xs n h.2 l⟩
end
theorem zkS {d m:Nat}{k:Bool}{xs:List PV}:tam d m (.tp k xs)=true ↔ 0<d/\xs.length<=m/\∀x∈xs,tam (d - 1) m x=true := by
 simp only [tam,Bool.and_eq_true,decide_eq_true_eq,zcS]
theorem zh2 {d m:Nat}{xs:List PV}:tam d m (.lst xs)=true ↔ 0<d/\xs.length<=m/\∀x∈xs,tam (d - 1) m x=true := by
 simp only [tam,Bool.and_eq_true,decide_eq_true_eq,zcS]
theorem ziD {d m:Nat}{v:PV}(h:tam d m v=true)(hd:d<=60):shp v=true := zfM d m v 60 h hd
theorem ze3 (ys:List PV)(h:ys.length<=1000000)(st:Store):lstR (.ok ys st)=.ok (.lst ys) st := by simp [lstR,h]
theorem zgn (n:Nat)(h:n<1000):rng1 (.int (n:Int))=some (rangeL n 0 1) := by
 simp [rng1];omega
theorem zce {z:Int}(h:0<=z):∃n:Nat,z=n := ⟨z.toNat,by omega⟩
noncomputable def outP (st:Store)(f:Fl):R PV :=
 match f with
 | .rt v _ => if noLoc v then .ok v st else .bad
 | .nx _ _ => .ok .non st
 | .exc c _ _ => .exc c st
 |_ => .bad
theorem zaK {T:Nat->Option IC.Fn}{k f:Nat}{fn:IC.Fn}{args:List PV}{st:Store}(hT:T f=some fn)(hp:fn.pure=true)(hl:args.length=fn.np)(hn:noLocs args=true) :
  callT T (k+1) f args st=outP st (exs (callT T k) (args.map some++List.replicate (fn.ns - fn.np) none) [] fn.body) := by
 rw [callT,hT]
 dsimp only
 rw [if_pos hl,if_pos hp,if_pos hn]
 rfl
noncomputable def outI (f:Fl):R PV :=
 match f with
 | .rt v st1 => .ok v st1
 | .nx _ st1 => .ok .non st1
 | .exc c _ st1 => .exc c st1
 |_ => .bad
theorem zbI {T:Nat->Option IC.Fn}{k f:Nat}{fn:IC.Fn}{args:List PV}{st:Store}(hT:T f=some fn)(hp:fn.pure=false)(hl:args.length=fn.np) :
  callT T (k+1) f args st=outI (exs (callT T k) (args.map some++List.replicate (fn.ns - fn.np) none) st fn.body) := by
 rw [callT,hT]
 dsimp only
 rw [if_pos hl,hp,if_neg (by simp)]
 rfl
theorem zfO {st:Store}{v:PV}:outI (.rt v st)=.ok v st := rfl
theorem zfe {st s:Store}{b:Bool}:outP st (.rt (.bl b) s)=.ok (.bl b) st := rfl
noncomputable def primes:PV := .tup [.int 2147483647,.int 2147483629,.int 2147483587,.int 2147483579,.int 2147483563]
noncomputable def mixB:Css := match f_qmixed.body with
 | .cons _ (.cons _ (.cons (.for _ _ b) _)) => b
 |_ => .nil
theorem zbU {c:Cl}{s num g p:Int}{i:Nat}{u5 u6 u7:Option PV}(hg:∀st,idxV st (.tup [.int 11,.int 101,.int 1009,.int 10007,.int 100003]) (.int i)=some (.int g))(hi:i<5)(hp:0<p)(hp2:p<18446744073709551616) :
  ∃num' v5 v6 v7,exs c [some (.int s),some primes,some (.int num),some (.int i),some (.int p),u5,u6,u7] [] mixB=.nx [some (.int s),some primes,some (.int num'),some (.int i),some (.int p),v5,v6,v7] [] := by
 have h1:∀z:Int,binV .mul (.int z) (.int (48271+2*(i:Int)))=some (.int (z*(48271+2*(i:Int)))) := fun z => zfh (by omega)
 have h2:∀z y:Int,binV .mul (.int z) (.int (y % p))=some (.int (z*(y % p))) := fun z y => zfh (by
  have a := Int.emod_nonneg y (show p≠0 by omega)
  have b := Int.emod_lt_of_pos y hp
  omega)
 have h3:∀z:Int,binV .mul (.int z) (.int p)=some (.int (z*p)) := fun z => zfh (by omega)
 simp only [mixB,f_qmixed,List.length_cons,List.length_nil,Nat.zero_add,Nat.reduceAdd,if_true,xs_cons,xs_nil,x_asg,ev.eq_1,ev.eq_2,ev.eq_3,ev.eq_11,ev.eq_16,evs,List.getElem?_cons_zero,List.getElem?_cons_succ,bd_ok,fl_ok,toR_some,bT_n,nxO_some,th_nx,List.set_cons_zero,List.set_cons_succ,sizeMax,Nat.reduceLeDiff,b_add,b_mul2,hg,h1,h2,h3,zkJ hp]
 exact ⟨_,_,_,_,rfl⟩
theorem zgm {c:Cl}{s num:Int}{u5 u6 u7:Option PV}(i:Nat)(p:Int)(h:(i,p)∈[(0,(2147483647:Int)),(1,2147483629),(2,2147483587),(3,2147483579),(4,2147483563)]) :
  ∃num' v5 v6 v7,exs c [some (.int s),some primes,some (.int num),some (.int i),some (.int p),u5,u6,u7] [] mixB=.nx [some (.int s),some primes,some (.int num'),some (.int i),some (.int p),v5,v6,v7] [] := by
 simp only [List.mem_cons,Prod.mk.injEq,List.not_mem_nil,or_false] at h
 rcases h with ⟨rfl,rfl⟩|⟨rfl,rfl⟩|⟨rfl,rfl⟩|⟨rfl,rfl⟩|⟨rfl,rfl⟩
 ·exact zbU (fun _ => rfl) (by decide) (by decide) (by decide)
 ·exact zbU (fun _ => rfl) (by decide) (by decide) (by decide)
 ·exact zbU (fun _ => rfl) (by decide) (by decide) (by decide)
 ·exact zbU (fun _ => rfl) (by decide) (by decide) (by decide)
 ·exact zbU (fun _ => rfl) (by decide) (by decide) (by decide)
noncomputable def mixL:List PV := [.tup [.int 0,.int 2147483647],.tup [.int 1,.int 2147483629],.tup [.int 2,.int 2147483587],.tup [.int 3,.int 2147483579],.tup [.int 4,.int 2147483563]]
theorem mixed (k:Nat)(s:Int)(st:Store):∃num,callT T (k+1) zdZ [.int s] st=.ok (.int num) st := by
 obtain ⟨ρ',st',h,num,a,b,c,d,e,e1,e2⟩ := zd5 (call := callT T k) (t := .t [3,4]) (b := mixB) (fun _ ρ st => ∃num a b c d e,ρ=[some (.int s),some primes,some (.int num),a,b,c,d,e]/\st=[]) mixL 0 [some (.int s),some primes,some (.int 0),none,none,none,none,none] [] ⟨_,_,_,_,_,_,rfl,rfl⟩ (by
  rintro j x ρ st hx ⟨num,a,b,c,d,e,rfl,rfl⟩
  have hx := List.mem_of_getElem? hx
  have hx:∃i p,x=.tup [.int ((i:Nat):Int),.int p]/\(i,p)∈[(0,(2147483647:Int)),(1,2147483629),(2,2147483587),(3,2147483579),(4,2147483563)] := by
   simp only [mixL,List.mem_cons,List.not_mem_nil,or_false] at hx
   rcases hx with rfl|rfl|rfl|rfl|rfl
   ·exact ⟨0,_,rfl,by simp⟩
   ·exact ⟨1,_,rfl,by simp⟩
   ·exact ⟨2,_,rfl,by simp⟩
   ·exact ⟨3,_,rfl,by simp⟩
   ·exact ⟨4,_,rfl,by simp⟩
  obtain ⟨i,p,rfl,hm⟩ := hx
  obtain ⟨num',v5,v6,v7,hh⟩ := zgm (c := callT T k) (s := s) (num := num) (u5 := c) (u6 := d) (u7 := e) i p hm
  exact ⟨_,_,_,rfl,hh,_,_,_,_,_,_,rfl,rfl⟩)
 subst e1 e2
 refine ⟨num,?_⟩
 rw [callT]
 have hb:f_qmixed.body=.cons (.asg (.n 1) (.tup (.cons (.cst (.int 2147483647)) (.cons (.cst (.int 2147483629)) (.cons (.cst (.int 2147483587)) (.cons (.cst (.int 2147483579)) (.cons (.cst (.int 2147483563)) .nil))))))) (.cons (.asg (.n 2) (.cst (.int 0))) (.cons (.for (.t [3,4]) (.enum (.var 1)) mixB) (.cons (.ret (.var 2)) .nil))) := rfl
 have hT:T zdZ=some ⟨1,8,true,f_qmixed.body⟩ := rfl
 have hp:PV.tup [.int 2147483647,.int 2147483629,.int 2147483587,.int 2147483579,.int 2147483563]=primes := rfl
 rw [hT,hb]
 have h5:ev (callT T k) [some (.int s),none,none,none,none,none,none,none] [] (.tup (.cons (.cst (.int 2147483647)) (.cons (.cst (.int 2147483629)) (.cons (.cst (.int 2147483587)) (.cons (.cst (.int 2147483579)) (.cons (.cst (.int 2147483563)) .nil))))))=.ok primes [] := by
  simp [ev.eq_1,ev.eq_11,evs,R.bind,sizeMax,primes]
 have he:evi (callT T k) [some (.int s),some primes,some (.int 0),none,none,none,none,none] [] (.enum (.var 1))=.ok mixL [] := by
  simp [evi,ev.eq_2,R.bind,primes,pairsUp,mixL]
 simp? [noLocs,noLoc,Bool.and_self,x_asg,x_for,h5,bindT,nxO,List.set_cons_zero,List.set_cons_succ,ev.eq_1,he,h,ev.eq_2,List.getElem?_cons_succ]
theorem rdS {st:Store}{n:Nat}{o x:Ob}(h:st[n]?=some o):(st.set n x)[n]?=some x := by
 have:n<st.length := by
  rcases Nat.lt_or_ge n st.length with h1|h1
  ·exact h1
  ·rw [List.getElem?_eq_none h1] at h;cases h
 rw [List.getElem?_set_self this]
theorem fill (k n:Nat)(ns:List Int)(hns:ns.length<=1000)(a p:Int)(ha:0<=a)(f:Bool)(st:Store)(h:st[n]?=some (.lst [.lst (ns.map .int),.int a,.int p,.bl f])) :
  ∃p' f',callT T (k+2) zf8 [.loc n] st=.ok .non (st.set n (.lst [.lst (ns.map .int),.int (a+1),.int p',.bl f'])) := by
 rw [callT,show T zf8=some za3 from rfl]
 by_cases hn:ns=[]
 ·subst hn
  obtain ⟨q,hq⟩ := mixed k (31*a+7) (st.set n (.lst [.lst [],.int (a+1),.int p,.bl true]))
  have h':st[n]?=some (.lst [.lst [],.int a,.int p,.bl f]) := h
  refine ⟨q,true,?_⟩
  dsimp! [za3,List.length_cons,List.length_nil,if_true,List.map_cons,List.map_nil,Nat.reduceSub,List.replicate,List.cons_append,List.nil_append,x_asg,stO,ev.eq_7,ev.eq_11,ev.eq_19,bindT,h,rdS h,sizeMax,sixV,bltV,lenV,seqOf,ha,decide_true,cond_true]
  simp [ha,h',rdS h',hq]
 ·have h0:0<ns.length := List.length_pos_iff.2 hn
  have h1 := Int.emod_nonneg a (show (ns.length:Int)≠0 by omega)
  have h2 := Int.emod_lt_of_pos a (show (0:Int)<ns.length by omega)
  have h3:(a % (ns.length:Int)).toNat<ns.length := by omega
  obtain ⟨v,hv⟩:∃v,ns[(a % (ns.length:Int)).toNat]?=some v := ⟨_,List.getElem?_eq_getElem h3⟩
  have hw:ns[(a % (ns.length:Int)).toNat]'h3=v := by rw [List.getElem?_eq_getElem h3] at hv;exact Option.some.inj hv
  have h4:(ns.length:Int)<10000000000000000000000000000000000000000000000000000000000000000000000 := by omega
  have h5:(0:Int)<ns.length := by omega
  by_cases hf:(ns.length:Int)<=a \/ 104729*(a / (ns.length:Int))+v<1000000000000000000
  ·obtain ⟨q,hq⟩ := mixed k (104729*(a / (ns.length:Int))+v) (st.set n (.lst [.lst (ns.map .int),.int (a+1),.int p,.bl true]))
   refine ⟨q,true,?_⟩
   rcases Classical.em ((ns.length:Int)<=a) with hg|hg
   ·dsimp! [za3,List.length_cons,List.length_nil,if_true,List.map_cons,List.map_nil,Nat.reduceSub,List.replicate,List.cons_append,List.nil_append,x_asg,stO,ev.eq_7,ev.eq_11,ev.eq_19,bindT,h,rdS h,sizeMax,sixV,bltV,lenV,seqOf,List.length_map,h5,h1,h2,h4,hg,and_self,decide_true,cond_true,List.getElem?_map,hv,Option.bind_some,Option.map_some]
    simp [h,rdS h,hq,h0,h1,h2,h4,hv,hw,hg]
   ·have hf := hf.resolve_left hg
    dsimp! [za3,List.length_cons,List.length_nil,if_true,List.map_cons,List.map_nil,Nat.reduceSub,List.replicate,List.cons_append,List.nil_append,x_asg,stO,ev.eq_7,ev.eq_11,ev.eq_19,bindT,h,rdS h,sizeMax,sixV,bltV,lenV,seqOf,List.length_map,h5,h1,h2,h4,hg,hf,and_self,decide_true,cond_true,List.getElem?_map,hv,Option.bind_some,Option.map_some]
    simp [h,rdS h,hq,h0,h1,h2,h4,hv,hw,hg,hf]
  ·have hg:¬(ns.length:Int)<=a := fun z => hf (.inl z)
   have hf:¬104729*(a / (ns.length:Int))+v<1000000000000000000 := fun z => hf (.inr z)
   refine ⟨104729*(a / (ns.length:Int))+v - 1000000000000000000,false,?_⟩
   dsimp! [za3,List.length_cons,List.length_nil,if_true,List.map_cons,List.map_nil,Nat.reduceSub,List.replicate,List.cons_append,List.nil_append,x_asg,stO,ev.eq_7,ev.eq_11,ev.eq_19,bindT,h,rdS h,sizeMax,sixV,bltV,lenV,seqOf,List.length_map,h5,h1,h2,h4,hg,hf,and_self,decide_true,cond_true,List.getElem?_map,hv,Option.bind_some,Option.map_some]
   simp [h,rdS h,h0,h1,h2,h4,hv,hw,hg,hf]
noncomputable def takeC:Ce := match f_qtake.body with
 | .cons _ (.cons (.while c _) _) => c
 |_ => .nope
noncomputable def takeB:Css := match f_qtake.body with
 | .cons _ (.cons (.while _ b) _) => b
 |_ => .nil
theorem zfK {c:Cl}{n:Nat}{ns:List Int}{a p m t:Int}{f:Bool}{u:Option PV}{st:Store}(h:st[n]?=some (.lst [.lst (ns.map .int),.int a,.int p,.bl f])) :
  ∃B,ev c [some (.loc n),some (.int m),some (.int t),u] st takeC=.ok (.bl B) st/\(B=true->t<64) := by
 by_cases h1:t<64
 ·by_cases h2:p=0
  ·refine ⟨true,?_,fun _ => h1⟩
   simp_all! [takeC,f_qtake,h]
   simp [h1,h2,zb9,peq]
  ·have h2:(p == 0)=false := by simp [h2]
   cases f
   ·refine ⟨false,?_,fun _ => h1⟩
    simp_all! [takeC,f_qtake,h]
    simp [h,h1,h2,zb9,peq]
   ·refine ⟨decide (p<m*4096),?_,fun _ => h1⟩
    simp_all! [takeC,f_qtake,h]
    simp [h,h1,h2,zb9,peq]
 ·refine ⟨false,?_,fun z => by cases z⟩
  simp_all! [takeC,f_qtake,h]
  simp [h1]
theorem zeV (k:Nat){n:Nat}{ns:List Int}(hns:ns.length<=1000){a p m t:Int}(ha:0<=a){f:Bool}{u:Option PV}{st:Store}(h:st[n]?=some (.lst [.lst (ns.map .int),.int a,.int p,.bl f])) :
  ∃p' f',exs (callT T (k+2)) [some (.loc n),some (.int m),some (.int t),u] st takeB=.nx [some (.loc n),some (.int m),some (.int (t+1)),u] (st.set n (.lst [.lst (ns.map .int),.int (a+1),.int p',.bl f'])) := by
 obtain ⟨q,g,hq⟩ := fill k n ns hns a p ha f st h
 have hm:(1+q % 4093).natAbs<18446744073709551616 := by omega
 have hau:∀st,ex (callT T (k+2)) [some (.loc n),some (.int m),some (.int t),u] st (.aug 2 .add (.cst (.int 1)))=.nx [some (.loc n),some (.int m),some (.int (t+1)),u] st := fun st => by
  rw [zkh (x := .int t) rfl]
  simp [ev.eq_1,R.fl,augV,binV,binI,nxO]
 cases g
 ·refine ⟨q,false,?_⟩
  dsimp! [takeB,f_qtake,x_expr,hau,ev.eq_6,hq,augV,Option.map_some,rdS h]
  simp [rdS h]
 ·by_cases hl:q<m*4096
  ·refine ⟨q+m*4096*(1+q % 4093),true,?_⟩
   dsimp! [takeB,f_qtake,x_expr,hau,ev.eq_6,hq,augV,Option.map_some,rdS h,stO,sixV]
   simp [rdS h,hl,hm]
  ·refine ⟨q,true,?_⟩
   dsimp! [takeB,f_qtake,x_expr,hau,ev.eq_6,hq,augV,Option.map_some,rdS h]
   simp [rdS h,hl]
theorem zdE (k:Nat){n:Nat}{ns:List Int}(hns:ns.length<=1000){m:Int}{u:Option PV}:∀(r N:Nat) (t a p:Int) (f:Bool) (st:Store),r<=N->64 - t<=r->0<=a->st[n]?=some (.lst [.lst (ns.map .int),.int a,.int p,.bl f]) ->
  ∃t' a' p' f',0<=a'/\whileB (callT T (k+2)) takeC takeB (N+1) [some (.loc n),some (.int m),some (.int t),u] st=.nx [some (.loc n),some (.int m),some (.int t'),u] (st.set n (.lst [.lst (ns.map .int),.int a',.int p',.bl f']))
 |r,N,t,a,p,f,st,hN,ht,ha,h => by
  obtain ⟨B,hB,hb⟩ := zfK (c := callT T (k+2)) (m := m) (t := t) (u := u) h
  have hs:st.set n (.lst [.lst (ns.map .int),.int a,.int p,.bl f])=st := by
   refine List.ext_getElem? fun i => ?_
   rw [List.getElem?_set]
   split
   ·rename_i e
    subst e
    split
    ·exact h.symm
    ·rename_i z
     rw [List.getElem?_eq_none (by omega)] at h
     cases h
   ·rfl
  cases B with
  |false => exact ⟨t,a,p,f,ha,by rw [zdQ hB rfl,hs]⟩
  |true =>
   have h64 := hb rfl
   match r,N with
   |0,_ => exact absurd ht (by omega)
   |r+1,N+1 =>
    obtain ⟨p1,f1,hx⟩ := zeV k hns (m := m) (t := t) ha (u := u) h
    obtain ⟨t',a',p',f',h0,h2⟩ := zdE k hns (m := m) (u := u) r N (t+1) (a+1) p1 f1 _ (by omega) (by omega) (by omega) (rdS h)
    refine ⟨t',a',p',f',h0,?_⟩
    rw [zfJ hB rfl hx,h2,List.set_set]
theorem take (k n:Nat)(ns:List Int)(hns:ns.length<=1000)(a p m:Int)(ha:0<=a)(hm:0<m)(hm2:m<10000000000000000000000000000000000000000000000000000000000000000000000)(f:Bool)(st:Store)(h:st[n]?=some (.lst [.lst (ns.map .int),.int a,.int p,.bl f])) :
  ∃d a' p' f',0<=d/\d<m/\0<=a'/\callT T (k+3) zaq [.loc n,.int m] st=.ok (.int d) (st.set n (.lst [.lst (ns.map .int),.int a',.int p',.bl f'])) := by
 obtain ⟨t',a',p',f',h0,h2⟩ := zdE k hns (m := m) (u := none) 64 99999 0 a p f st (by omega) (by omega) ha h
 refine ⟨p' % m,a',p' / m,f',Int.emod_nonneg _ (by omega),Int.emod_lt_of_pos _ hm,h0,?_⟩
 have hb:f_qtake.body=.cons (.asg (.n 2) (.cst (.int 0))) (.cons (.while takeC takeB) (.cons (.asg (.n 3) (.bin .mod (.idx (.var 0) (.cst (.int 2))) (.var 1))) (.cons (.six (.var 0) (.cst (.int 2)) (.bin .fdiv (.idx (.var 0) (.cst (.int 2))) (.var 1))) (.cons (.ret (.var 3)) .nil)))) := rfl
 have hT:T zaq=some ⟨2,4,false,f_qtake.body⟩ := rfl
 rw [callT,hT,hb]
 simp? [x_asg,zhF,x_six,nxO,stO,ev.eq_1,ev.eq_2,ev.eq_3,ev.eq_16,R.bind,bindT,List.set_cons_zero,List.set_cons_succ,List.getElem?_cons_succ,h2,rdS h,idxV,idxI,at?,ixI,binV,binI,hm,hm2,and_self,toR,sixV]
 simp [rdS h,hm,hm2]
def Drw (ns:List Int)(n:Nat)(st:Store):Prop := ∃a p f,0<=a/\st[n]?=some (.lst [.lst (ns.map .int),.int a,.int p,.bl f])
def Onl (ns:List Int)(n:Nat)(st st':Store):Prop := ∃a p f,0<=a/\st'=st.set n (.lst [.lst (ns.map .int),.int a,.int p,.bl f])
theorem Onl.drw {ns:List Int}{n:Nat}{st st':Store}(h:Drw ns n st)(o:Onl ns n st st'):Drw ns n st' := by
 obtain ⟨a,p,f,ha,h⟩ := h
 obtain ⟨b,q,g,hb,rfl⟩ := o
 exact ⟨b,q,g,hb,rdS h⟩
theorem Onl.trans {ns:List Int}{n:Nat}{st st1 st2:Store}(o:Onl ns n st st1)(o2:Onl ns n st1 st2):Onl ns n st st2 := by
 obtain ⟨b,q,g,hb,rfl⟩ := o
 obtain ⟨c,r,j,hc,rfl⟩ := o2
 exact ⟨c,r,j,hc,by rw [List.set_set]⟩
theorem takeD (k:Nat){n:Nat}{ns:List Int}(hns:ns.length<=1000){m:Int}(hm:0<m)(hm2:m<10000000000000000000000000000000000000000000000000000000000000000000000){st:Store}(h:Drw ns n st) :
  ∃d st',0<=d/\d<m/\Onl ns n st st'/\callT T (k+3) zaq [.loc n,.int m] st=.ok (.int d) st' := by
 obtain ⟨a,p,f,ha,h⟩ := h
 obtain ⟨d,a',p',f',h1,h2,h3,h4⟩ := take k n ns hns a p m ha hm hm2 f st h
 exact ⟨d,_,h1,h2,⟨_,_,_,h3,rfl⟩,h4⟩
theorem fresh (k:Nat)(ns:List Int)(h:ns.length<=63)(st:Store):∃v,callT T (k+1) zcJ [.scr (ns.map .int)] st=.ok (.loc st.length) (st++[v])/\v=.lst [.lst (ns.map .int),.int 0,.int 0,.bl false] := by
 have hT:T zcJ=some zbP := rfl
 refine ⟨_,?_,rfl⟩
 rw [callT,hT]
 simp? [zbP,ev,evs,R.bind,toR]
 have hc:slcV (.scr (ns.map PV.int)) none (.int 63)=some (.lst (ns.map .int)) := by
  have hk:clampI ns.length 63=ns.length := by
   show min 63 ns.length=ns.length
   omega
  simp [slcV,optI,slcO,cut,loOf,hiOf,hk]
  try rw [<- List.length_map (f := PV.int),List.take_length]
 simp [optI,onP,hc,sizeMax]
theorem Drw.refl {ns:List Int}{n:Nat}{st:Store}(h:Drw ns n st):Onl ns n st st := by
 obtain ⟨a,p,f,ha,h⟩ := h
 exact ⟨a,p,f,ha,zg8 h⟩
theorem Drw.pos {ns:List Int}{st:Store}(h:Drw ns 0 st):0<st.length := by
 obtain ⟨a,p,f,ha,h⟩ := h
 rcases Nat.lt_or_ge 0 st.length with z|z
 ·exact z
 ·rw [List.getElem?_eq_none z] at h;cases h
theorem Drw.app {ns:List Int}{st:Store}(h:Drw ns 0 st)(o:Ob):Drw ns 0 (st++[o]) := by
 have hl := h.pos
 obtain ⟨a,p,f,ha,h⟩ := h
 exact ⟨a,p,f,ha,by rw [List.getElem?_append_left hl];exact h⟩
theorem Drw.put {ns:List Int}{st:Store}(h:Drw ns 0 st){L:Nat}(hL:L≠0)(o:Ob):Drw ns 0 (st.set L o) := by
 obtain ⟨a,p,f,ha,h⟩ := h
 exact ⟨a,p,f,ha,by rw [List.getElem?_set_ne hL];exact h⟩
theorem Onl.get {ns:List Int}{st st':Store}(o:Onl ns 0 st st'){L:Nat}(hL:L≠0):st'[L]?=st[L]? := by
 obtain ⟨a,p,f,ha,rfl⟩ := o
 rw [List.getElem?_set_ne (Ne.symm hL)]
theorem zeA (l:List Int):noLocs [PV.scr (l.map .int)]=true := by simp [noLocs,noLoc,noLocs_ints]
theorem Onl.len {ns:List Int}{n:Nat}{st st':Store}(o:Onl ns n st st'):st'.length=st.length := by
 obtain ⟨a,p,f,ha,rfl⟩ := o
 rw [List.length_set]
noncomputable def rws:List Str := [Str.ofString "add",Str.ofString "less",Str.ofString "swap",Str.ofString "copy",Str.ofString "twice",Str.ofString "half",Str.ofString "bare",Str.ofString "both",Str.ofString "any",Str.ofString "odd",Str.ofString "nought",Str.ofString "clear",Str.ofString "one"]
noncomputable def r3:R PV->Option (Int×Int×Int)
 | .ok (.tp false [.int x,.int y,.int z]) _ => some (x,y,z)
 |_ => none
theorem zfy {r:R PV}{p:Int×Int×Int}(h:r3 r=some p):∃st,r=.ok (.tp false [.int p.1,.int p.2.1,.int p.2.2]) st := by
 unfold r3 at h
 split at h
 ·cases h;exact ⟨_,rfl⟩
 ·cases h
noncomputable def chk1 (w:Nat)(r:Str)(a b c:Nat):Bool :=
 match r3 (callT T 5 zbD [.str r,.int w,.int a,.int b,.int c] []),r3 (callT T 5 zbF [.str r,.int ((2 ^ w:Nat):Int),.int a,.int b,.int c] []) with
 |some p,some q => decide (p=q) && decide (0<=p.1/\p.1<((2 ^ w:Nat):Int)/\0<=p.2.1/\p.2.1<((2 ^ w:Nat):Int)/\0<=p.2.2/\p.2.2<2)
 |_,_ => false
noncomputable def chkW (w:Nat)(r:Str):Bool := (List.range (2 ^ w)).all fun a => (List.range (2 ^ w)).all fun b => (List.range 2).all fun c => chk1 w r a b c
theorem ck1:(rws.all (chkW 1))=true := by decide +kernel
theorem zkq:chkW 2 (Str.ofString "add")=true := by decide +kernel
theorem zkB:chkW 2 (Str.ofString "less")=true := by decide +kernel
theorem zkp:chkW 2 (Str.ofString "swap")=true := by decide +kernel
theorem zkH:chkW 2 (Str.ofString "copy")=true := by decide +kernel
theorem zkL:chkW 2 (Str.ofString "twice")=true := by decide +kernel
theorem zkA:chkW 2 (Str.ofString "half")=true := by decide +kernel
theorem zkz:chkW 2 (Str.ofString "bare")=true := by decide +kernel
theorem zkj:chkW 2 (Str.ofString "both")=true := by decide +kernel
theorem zkc:chkW 2 (Str.ofString "any")=true := by decide +kernel
theorem zko:chkW 2 (Str.ofString "odd")=true := by decide +kernel
theorem zjR:chkW 2 (Str.ofString "nought")=true := by decide +kernel
theorem zjN:chkW 2 (Str.ofString "clear")=true := by decide +kernel
theorem zi8:chkW 2 (Str.ofString "one")=true := by decide +kernel
theorem zkG:chkW 3 (Str.ofString "add")=true := by decide +kernel
theorem zky:chkW 3 (Str.ofString "less")=true := by decide +kernel
theorem zkw:chkW 3 (Str.ofString "swap")=true := by decide +kernel
theorem zkR:chkW 3 (Str.ofString "copy")=true := by decide +kernel
theorem zkv:chkW 3 (Str.ofString "twice")=true := by decide +kernel
theorem zkx:chkW 3 (Str.ofString "half")=true := by decide +kernel
theorem zkD:chkW 3 (Str.ofString "bare")=true := by decide +kernel
theorem zkb:chkW 3 (Str.ofString "both")=true := by decide +kernel
theorem zki:chkW 3 (Str.ofString "any")=true := by decide +kernel
theorem zkg:chkW 3 (Str.ofString "odd")=true := by decide +kernel
theorem zi2:chkW 3 (Str.ofString "nought")=true := by decide +kernel
theorem zjl:chkW 3 (Str.ofString "clear")=true := by decide +kernel
theorem ziU:chkW 3 (Str.ofString "one")=true := by decide +kernel
theorem ziX {w:Nat}(hw:w=1 \/ w=2 \/ w=3){r:Str}(hr:r∈rws):chkW w r=true := by
 rcases hw with rfl|rfl|rfl
 ·exact List.all_eq_true.1 ck1 r hr
 ·simp only [rws,List.mem_cons,List.not_mem_nil,or_false] at hr
  rcases hr with rfl|rfl|rfl|rfl|rfl|rfl|rfl|rfl|rfl|rfl|rfl|rfl|rfl
  ·exact zkq
  ·exact zkB
  ·exact zkp
  ·exact zkH
  ·exact zkL
  ·exact zkA
  ·exact zkz
  ·exact zkj
  ·exact zkc
  ·exact zko
  ·exact zjR
  ·exact zjN
  ·exact zi8
 ·simp only [rws,List.mem_cons,List.not_mem_nil,or_false] at hr
  rcases hr with rfl|rfl|rfl|rfl|rfl|rfl|rfl|rfl|rfl|rfl|rfl|rfl|rfl
  ·exact zkG
  ·exact zky
  ·exact zkw
  ·exact zkR
  ·exact zkv
  ·exact zkx
  ·exact zkD
  ·exact zkb
  ·exact zki
  ·exact zkg
  ·exact zi2
  ·exact zjl
  ·exact ziU
def Wds (w:Nat)(a b c:Int):Prop := 0<=a/\a<((2 ^ w:Nat):Int)/\0<=b/\b<((2 ^ w:Nat):Int)/\0<=c/\c<2
theorem zdS {k f:Nat}{fn:IC.Fn}{args:List PV}{v:PV}{s:Store}(hT:T f=some fn)(hp:fn.pure=true)(hl:args.length=fn.np)(hn:noLocs args=true)(h:callT T (k+1) f args []=.ok v s)(st:Store):callT T (k+1) f args st=.ok v st := by
 rw [zaK hT hp hl hn] at h ⊢
 unfold outP at h ⊢
 split at h
 ·rename_i v1 s1 e
  split at h
  ·rename_i q
   rw [if_pos q]
   injection h with h1 h2
   rw [h1]
  ·cases h
 ·rename_i e
  injection h with h1 h2
  rw [<- h1]
 ·cases h
 ·cases h
theorem zhf {w:Nat}(hw:w=1 \/ w=2 \/ w=3){r:Str}(hr:r∈rws){a b c:Int}(h:Wds w a b c)(k:Nat):∃x y z,Wds w x y z/\∀st,
  callT T (k+5) zbD [.str r,.int w,.int a,.int b,.int c] st=.ok (.tp false [.int x,.int y,.int z]) st /\
  callT T (k+5) zbF [.str r,.int ((2 ^ w:Nat):Int),.int a,.int b,.int c] st=.ok (.tp false [.int x,.int y,.int z]) st := by
 obtain ⟨a0,a1,b0,b1,c0,c1⟩ := h
 obtain ⟨a,rfl⟩ := zce a0
 obtain ⟨b,rfl⟩ := zce b0
 obtain ⟨c,rfl⟩ := zce c0
 have h2 := ziX hw hr
 unfold chkW at h2
 have h3 := List.all_eq_true.1 h2 a (List.mem_range.2 (by omega))
 have h4 := List.all_eq_true.1 h3 b (List.mem_range.2 (by omega))
 have h5 := List.all_eq_true.1 h4 c (List.mem_range.2 (by omega))
 unfold chk1 at h5
 split at h5
 ·rename_i p q e1 e2
  rw [Bool.and_eq_true,decide_eq_true_eq,decide_eq_true_eq] at h5
  obtain ⟨rfl,g⟩ := h5
  obtain ⟨s1,f1⟩ := zfy e1
  obtain ⟨s2,f2⟩ := zfy e2
  refine ⟨p.1,p.2.1,p.2.2,g,fun st => ⟨?_,?_⟩⟩
  ·rw [Nat.add_comm]
   exact zbg (zdS (fn := zaB) rfl rfl rfl rfl f1 st) k
  ·rw [Nat.add_comm]
   exact zbg (zdS (fn := zaC) rfl rfl rfl rfl f2 st) k
 ·cases h5
local macro_rules | `(tactic| simp! [$xs,*]) => `(tactic| simp only [IC.xs_cons,IC.xs_nil,IC.x_asg,IC.x_ite,IC.x_ret,IC.x_expr,IC.x_for,IC.x_six,IC.x_try,IC.x_raise,IC.evs,IC.evi,IC.ev.eq_1,IC.ev.eq_2,IC.ev.eq_3,IC.ev.eq_4,IC.ev.eq_5,IC.ev.eq_6,IC.ev.eq_7,IC.ev.eq_8,IC.ev.eq_9,IC.ev.eq_10,IC.ev.eq_11,IC.ev.eq_12,IC.ev.eq_13,IC.ev.eq_14,IC.ev.eq_15,IC.ev.eq_16,IC.ev.eq_17,IC.ev.eq_18,IC.ev.eq_19,IC.ev.eq_20,IC.ev.eq_21,IC.ev.eq_22,IC.ev.eq_24,IC.ev.eq_25,IC.ev.eq_26,IC.ev.eq_28, IC.v_comp,List.getElem?_cons_zero,List.getElem?_cons_succ,WK.bd_ok,WK.fl_ok,WK.bd_exc,WK.fl_exc,WK.toR_some,IC.toL,WK.bT_n,WK.nxO_some,WK.th_nx,WK.th_rt,WK.th_exc,List.set_cons_zero,List.set_cons_succ,WK.on_t,WK.t_bl,WK.ono,IC.onBl,cond_true,cond_false,List.length_cons,List.length_nil,Nat.zero_add,Nat.reduceAdd,Nat.reduceSub,Nat.reduceLeDiff,if_true,IC.noLoc,IC.noLocs,WK.noLocs_ints,Bool.and_self,Bool.not_true,Bool.not_false,List.map_cons,List.map_nil,List.replicate,List.cons_append,List.nil_append,List.append_nil,Option.bind_none,Option.bind_some,Option.join_some,WK.b_add,WK.b_sub,WK.b_mul2,WK.b_div2,WK.c_lt,WK.c_le,WK.c_gt,WK.c_ge,WK.c_eq,WK.c_ne,IC.PV.tup,IC.sizeMax,$xs,*])
theorem zcD:∀ss:List Str,noLocs (ss.map .str)=true
 | [] => rfl
 |s::ss => by simp [noLocs,noLoc,zcD ss]
noncomputable def adB:Css := match f_all_done.body with
 | .cons (.forl _ _ b) _ => b
 |x => x
noncomputable def adT:Css := match f_all_done.body with
 | .cons _ r => r
 |x => x
noncomputable def rrB:Css := match f_refuse_rows.body with
 | .cons (.forl _ _ b) _ => b
 |x => x
noncomputable def rrT:Css := match f_refuse_rows.body with
 | .cons _ r => r
 |x => x
noncomputable def smB:Css := match f_qsmall_all.body with
 | .cons _ (.cons (.for _ _ b) _) => b
 |x => x
theorem bind3 {i j k:Nat}{a b c:PV}{ρ:IC.Env}:bindT (.t [i,j,k]) (.tp false [a,b,c]) ρ=some (((ρ.set i (some a)).set j (some b)).set k (some c)) := rfl
theorem zfR {w:Nat}(hw:w=1 \/ w=2 \/ w=3){r:Str}(hr:r∈rws){a b c:Int}(h:Wds w a b c)(k:Nat):∃x y z,Wds w x y z /\
  (∀st p0,exs (callT T (k+5)) [p0,some (.int w),some (.int a),some (.int b),some (.int c),some (.str r)] st adB=.nx [p0,some (.int w),some (.int x),some (.int y),some (.int z),some (.str r)] st) /\
  (∀st p0 p2,exs (callT T (k+5)) [p0,some (.int ((2 ^ w:Nat):Int)),p2,some (.int a),some (.int b),some (.int c),some (.str r)] st smB=.nx [p0,some (.int ((2 ^ w:Nat):Int)),p2,some (.int x),some (.int y),some (.int z),some (.str r)] st) := by
 obtain ⟨x,y,z,hx,e⟩ := zhf hw hr h k
 refine ⟨x,y,z,hx,fun st p0 => ?_,fun st p0 p2 => ?_⟩ <;> obtain ⟨e1,e2⟩ := e st
 ·simp! [adB,f_all_done,e1,bind3]
 ·simp! [smB,f_qsmall_all,e2,bind3]
theorem loops {w:Nat}(hw:w=1 \/ w=2 \/ w=3)(k:Nat):∀(ss:List Str),(∀r∈ss,r∈rws)->∀{a b c:Int},Wds w a b c->∃x y z,Wds w x y z /\
  (∀st p0 p5,∃q5,forB (callT T (k+5)) (.n 5) adB (ss.map .str) [p0,some (.int w),some (.int a),some (.int b),some (.int c),p5] st=.nx [p0,some (.int w),some (.int x),some (.int y),some (.int z),q5] st) /\
  (∀p0 p2 p6,∃q6,forB (callT T (k+5)) (.n 6) smB (ss.map .str) [p0,some (.int ((2 ^ w:Nat):Int)),p2,some (.int a),some (.int b),some (.int c),p6] []=.nx [p0,some (.int ((2 ^ w:Nat):Int)),p2,some (.int x),some (.int y),some (.int z),q6] [])
 | [],hs,a,b,c,h => ⟨a,b,c,h,fun st p0 p5 => ⟨p5,zbd⟩,fun p0 p2 p6 => ⟨p6,zbd⟩⟩
 |r::ss,hs,a,b,c,h => by
  obtain ⟨x1,y1,z1,h1,e1,e2⟩ := zfR hw (hs r List.mem_cons_self) h k
  obtain ⟨x,y,z,hx,f1,f2⟩ := loops hw k ss (fun r hr => hs r (List.mem_cons_of_mem _ hr)) h1
  refine ⟨x,y,z,hx,fun st p0 p5 => ?_,fun p0 p2 p6 => ?_⟩
  ·obtain ⟨q5,f⟩ := f1 st p0 (some (.str r))
   refine ⟨q5,?_⟩
   rw [List.map_cons,zaE (ρ1 := [p0,some (.int w),some (.int a),some (.int b),some (.int c),some (.str r)]) rfl,e1]
   exact f
  ·obtain ⟨q6,f⟩ := f2 p0 p2 (some (.str r))
   refine ⟨q6,?_⟩
   rw [List.map_cons,zaE (ρ1 := [p0,some (.int ((2 ^ w:Nat):Int)),p2,some (.int a),some (.int b),some (.int c),some (.str r)]) rfl,e2]
   exact f
theorem zdf {t:Tg}{F:IC.Env->Store->Fl}{n:Nat}{xs:List PV}{st:Store}(hs:st[n]?=some (.lst xs))(P:IC.Env->Prop)(hP:∀v∈xs,∀ρ,P ρ->∃ρ1 ρ2,bindT t v ρ=some ρ1/\F ρ1 st=.nx ρ2 st/\P ρ2) :
  ∀(m i:Nat) (ρ:IC.Env),P ρ->i<=xs.length->xs.length<i+m->forV t F n m i ρ st=forL t F (xs.drop i) ρ st
 |0,i,ρ,hρ,h1,h2 => by omega
 |m+1,i,ρ,hρ,h1,h2 => by
  rw [forV,hs]
  dsimp only
  by_cases hi:i<xs.length
  ·obtain ⟨ρ1,ρ2,e1,e2,h3⟩ := hP xs[i] (List.getElem_mem hi) ρ hρ
   rw [List.getElem?_eq_getElem hi,List.drop_eq_getElem_cons hi,forL]
   dsimp only
   rw [e1]
   dsimp only
   rw [e2]
   exact zdf hs P hP m (i+1) ρ2 h3 (by omega) (by omega)
  ·rw [List.getElem?_eq_none (by omega),List.drop_eq_nil_of_le (by omega),forL]
def Src (st:Store)(v:PV)(ss:List Str):Prop := v=.tp false (ss.map .str) \/ v=.lst (ss.map .str) \/ ∃n,v=.loc n/\st[n]?=some (.lst (ss.map .str))
theorem zfb {call:Cl}{t:Tg}{b:Css}{ρ:IC.Env}{st:Store}{i:Nat}{v:PV}{ss:List Str}(hv:ρ[i]?=some (some v))(h:Src st v ss)(hl:ss.length<=1000)(P:IC.Env->Prop)(h0:P ρ)(hP:∀r∈ss,∀ρ,P ρ->∃ρ1 ρ2,bindT t (.str r) ρ=some ρ1/\exs call ρ1 st b=.nx ρ2 st/\P ρ2) :
  ex call ρ st (.forl t (.var i) b)=forB call t b (ss.map .str) ρ st := by
 have h1:ev call ρ st (.var i)=.ok v st := by rw [ev.eq_2,hv]
 rw [ex,h1,fl_ok]
 rcases h with rfl|rfl|⟨n,rfl,hn⟩
 ·rfl
 ·rfl
 ·dsimp only
  refine (zdf hn P (fun v hv ρ hρ => ?_) 100000 0 ρ h0 (by omega) (by simp;omega)).trans rfl
  obtain ⟨r,hr,rfl⟩ := List.mem_map.1 hv
  exact hP r hr ρ hρ
theorem zhX {st:Store}{v:PV}{ss:List Str}(h:Src st v ss):bltV .len st [v]=some (.int ss.length) := by
 rcases h with rfl|rfl|⟨n,rfl,hn⟩
 ·simp [bltV,lenV,seqOf]
 ·simp [bltV,lenV,seqOf]
 ·simp [bltV,lenV,seqOf,hn]
theorem zjz {r:Str}(hr:r∈rws):cmpV .notin (.str r) z9=some (.bl false) := by
 have:(rws.all fun r => match cmpV .notin (.str r) z9 with|some (.bl false) => true|_ => false)=true := by decide +kernel
 have := List.all_eq_true.1 this r hr
 split at this
 ·assumption
 ·cases this
theorem ze0 (k:Nat){st:Store}{v:PV}{ss:List Str}(h:Src st v ss)(hs:∀r∈ss,r∈rws)(hl:ss.length<=8):callT T (k+1) zat [v] st=.ok .non st := by
 have hT:T zat=some f_refuse_rows := rfl
 have hb:f_refuse_rows.body=.cons (.forl (.n 1) (.var 0) rrB) rrT := rfl
 have one:∀r∈ss,exs (callT T k) [some v,some (.str r)] st rrB=.nx [some v,some (.str r)] st := fun r hr => by
  simp! [rrB,f_refuse_rows,zjz (hs r hr)]
 have lp:∀(ts:List Str),(∀r∈ts,r∈ss)->∀p,∃q,forB (callT T k) (.n 1) rrB (ts.map .str) [some v,p] st=.nx [some v,q] st := by
  intro ts
  induction ts with
  |nil => exact fun _ p => ⟨p,zbd⟩
  |cons r ts ih =>
   intro ht p
   obtain ⟨q,e⟩ := ih (fun r hr => ht r (List.mem_cons_of_mem _ hr)) (some (.str r))
   refine ⟨q,?_⟩
   rw [List.map_cons,zaE (ρ1 := [some v,some (.str r)]) rfl,one r (ht r List.mem_cons_self)]
   exact e
 obtain ⟨q,e⟩ := lp ss (fun r hr => hr) none
 rw [zbI hT rfl rfl]
 show outI (exs (callT T k) [some v,none] st f_refuse_rows.body)=_
 rw [hb,xs_cons,zfb (v := v) (ss := ss) rfl h (by omega) (fun ρ => ∃p,ρ=[some v,p]) ⟨none,rfl⟩ (fun r hr ρ hρ => by
  obtain ⟨p,rfl⟩ := hρ
  exact ⟨_,_,rfl,one r hr,_,rfl⟩),e,th_nx]
 have hc:cmpV .gt (.int (ss.length:Int)) za8=some (.bl false) := by
  rw [show za8=.int 8 from rfl,c_gt,decide_eq_false (by omega)]
 simp! [rrT,f_refuse_rows,zhX h,hc,outI]
theorem zdL {w:Nat}(hw:w=1 \/ w=2 \/ w=3)(k:Nat){ss:List Str}(hs:∀r∈ss,r∈rws)(hl:ss.length<=8){a b c:Int}(h:Wds w a b c):∃x y z,Wds w x y z /\
  (∀st v,Src st v ss->callT T (k+7) za5 [v,.int w,.int a,.int b,.int c] st=.ok (.tp false [.int x,.int y,.int z]) st) /\
  (∀st,callT T (k+6) zaI [.lst (ss.map .str),.int ((2 ^ w:Nat):Int),.tp false [.int a,.int b,.int c]] st=.ok (.tp false [.int x,.int y,.int z]) st) := by
 obtain ⟨x,y,z,hx,f1,f2⟩ := loops hw k ss hs h
 refine ⟨x,y,z,hx,fun st v hv => ?_,fun st => ?_⟩
 ·obtain ⟨q5,e⟩ := f1 st (some v) none
  have hT:T zcC=some f_all_done := rfl
  have hb:f_all_done.body=.cons (.forl (.n 5) (.var 0) adB) adT := rfl
  have e1:callT T (k+6) zcC [v,.int w,.int a,.int b,.int c] st=.ok (.tp false [.int x,.int y,.int z]) st := by
   rw [zbI hT rfl rfl]
   show outI (exs (callT T (k+5)) [some v,some (.int w),some (.int a),some (.int b),some (.int c),none] st f_all_done.body)=_
   rw [hb,xs_cons,zfb (v := v) (ss := ss) rfl hv (by omega) (fun ρ => ∃a b c p,Wds w a b c/\ρ=[some v,some (.int w),some (.int a),some (.int b),some (.int c),p]) ⟨a,b,c,none,h,rfl⟩ (fun r hr ρ hρ => by
    obtain ⟨a,b,c,p,h,rfl⟩ := hρ
    obtain ⟨x,y,z,hx,e1,_⟩ := zfR hw (hs r hr) h k
    exact ⟨_,_,rfl,e1 _ _,x,y,z,_,hx,rfl⟩),e,th_nx]
   simp! [adT,f_all_done,zfO]
  have hT:T za5=some zan := rfl
  have e2:callT T (k+6) zat [v] st=.ok .non st := ze0 (k+5) hv hs hl
  rw [zbI hT rfl rfl]
  simp! [zan,e1,e2,zfO]
 ·obtain ⟨q6,e⟩ := f2 (some (.lst (ss.map .str))) (some (.tp false [.int a,.int b,.int c])) none
  have hT:T zaI=some f_qsmall_all := rfl
  have hb:f_qsmall_all.body=(match f_qsmall_all.body with
   | .cons a (.cons (.for t i _) r) => .cons a (.cons (.for t i smB) r)
   |x => x) := rfl
  have hn:noLocs (ss.map .str)=true := zcD ss
  have hn2:noLocs [.lst (ss.map .str),.int ((2 ^ w:Nat):Int),.tp false [.int a,.int b,.int c]]=true := by simp [noLocs,noLoc,hn]
  rw [zaK hT rfl rfl hn2,hb]
  simp! [f_qsmall_all,bind3,e]
  rfl
noncomputable def rwsV:List PV := rws.map .str
theorem zhc (k:Nat)(st:Store):callT T (k+1) zcN [] st=.ok (.tp false rwsV) st := by
 have h:(match callT T 1 zcN [] [] with | .ok (.tp false xs) _ => decide (xs.map (fun v => match v with | .str s => s|_ => default)=rws) && xs.all (fun v => match v with | .str _ => true|_ => false)|_ => false)=true := by decide +kernel
 split at h
 ·rename_i xs s e
  rw [Bool.and_eq_true,decide_eq_true_eq] at h
  have hx:xs=rwsV := by
   rw [rwsV,<- h.1,List.map_map]
   conv => lhs;rw [<- List.map_id xs]
   refine List.map_congr_left fun v hv => ?_
   have := List.all_eq_true.1 h.2 v hv
   cases v <;> simp_all
  rw [hx] at e
  rw [Nat.add_comm]
  exact zbg (zdS (k := 0) (fn := zcM) rfl rfl rfl rfl e st) k
 ·cases h
noncomputable def srE:Ce := match f_qsmall_rows.body with
 | .cons _ (.cons (.ret (.comp _ _ _ _ e)) _) => e
 |_ => .nope
theorem zjY {ns:List Int}(hns:ns.length<=1000)(k:Nat){st:Store}(h:Drw ns 0 st)(x:PV):∃r st',r∈rws/\Onl ns 0 st st'/\oneB (callT T (k+3)) [none,some (.loc 0)] (.n 0) (.cst (.bl true)) srE x st=.ok (some (.str r)) st' := by
 obtain ⟨d,s1,d0,d1,o1,e1⟩ := takeD k hns (m := 13) (by omega) (by omega) h
 obtain ⟨d,rfl⟩ := zce d0
 have hd:d<rws.length := by simp [rws];omega
 have hi:idxV s1 (.tp false rwsV) (.int d)=some (.str rws[d]) := by
  have:(List.range 13).all (fun d => match idxV [] (.tp false rwsV) (.int (d:Int)),rws[d]? with|some (.str a),some b => decide (a=b)|_,_ => false)=true := by decide +kernel
  have := List.all_eq_true.1 this d (List.mem_range.2 (by omega))
  rw [List.getElem?_eq_getElem hd] at this
  have e:idxV s1 (.tp false rwsV) (.int (d:Int))=idxV [] (.tp false rwsV) (.int (d:Int)) := rfl
  rw [e]
  split at this
  ·rename_i a b f1 f2
   rw [decide_eq_true_eq] at this
   cases f2
   rw [f1,this]
  ·cases this
 have e2:callT T (k+3) zcN [] st=.ok (.tp false rwsV) st := zhc (k+2) st
 refine ⟨rws[d],s1,List.getElem_mem hd,o1,?_⟩
 have hb:bindT (.n 0) x [none,some (.loc 0)]=some [some x,some (.loc 0)] := rfl
 simp only [oneB,hb,ev.eq_1,bd_ok,t_bl,ono,cond_true]
 simp! [srE,f_qsmall_rows,e2,e1,hi]
theorem zfw {ns:List Int}(hns:ns.length<=1000)(k:Nat):∀(xs:List PV) {st:Store},Drw ns 0 st->∃(ss:List Str) (st':Store),ss.length=xs.length/\(∀r∈ss,r∈rws)/\Onl ns 0 st st'/\compB (callT T (k+3)) [none,some (.loc 0)] (.n 0) (.cst (.bl true)) srE xs st=.ok (ss.map .str) st'
 | [],st,h => ⟨[],st,rfl,by simp,h.refl,zdB⟩
 |x::xs,st,h => by
  obtain ⟨r,s1,hr,o1,e1⟩ := zjY hns k h x
  obtain ⟨ss,s2,l,hs,o2,e2⟩ := zfw hns k xs (o1.drw h)
  refine ⟨r::ss,s2,by simp [l],fun q hq => ?_,o1.trans o2,?_⟩
  ·rcases List.mem_cons.1 hq with rfl|hq
   ·exact hr
   ·exact hs q hq
  ·rw [zaW,e1,bd_ok,e2,bd_ok]
   rfl
theorem ze9:∀(n:Nat) (a:Int),(rangeL n a 1).length=n
 |0,a => rfl
 |n+1,a => by rw [rangeL,List.length_cons,ze9 n]
theorem zem {ns:List Int}(hns:ns.length<=1000)(k:Nat){st:Store}(h:Drw ns 0 st):∃(ss:List Str) (st':Store),ss.length<=8/\(∀r∈ss,r∈rws)/\Onl ns 0 st st'/\callT T (k+4) zar [.loc 0,.int 8] st=.ok (.lst (ss.map .str)) st' := by
 have hT:T zar=some f_qsmall_rows := rfl
 obtain ⟨d,s1,d0,d1,o1,e1⟩ := takeD k hns (m := 9) (by omega) (by omega) h
 obtain ⟨d,rfl⟩ := zce d0
 obtain ⟨ss,s2,l,hs,o2,e2⟩ := zfw hns k (rangeL d 0 1) (o1.drw h)
 have hl:(rangeL d 0 1).length=d := ze9 d 0
 refine ⟨ss,s2,by omega,hs,o1.trans o2,?_⟩
 have e1:callT T (k+3) zaq [.loc 0,.int (8+1)] st=.ok (.int d) s1 := e1
 have hb:f_qsmall_rows.body=(match f_qsmall_rows.body with
  | .cons a (.cons (.ret (.comp s t i c _)) r) => .cons a (.cons (.ret (.comp s t i c srE)) r)
  |x => x) := rfl
 have hr:rng1 (.int (d:Int))=some (rangeL d 0 1) := zgn d (by omega)
 rw [zbI hT rfl rfl,hb]
 simp! [f_qsmall_rows,e1,hr,e2,ze3 _ (show (ss.map PV.str).length<=1000000 by simp;omega),zfO]
theorem zfA (k:Nat){w:Nat}(hw:w=1 \/ w=2 \/ w=3){x y z:Int}(h:Wds w x y z)(st:Store):callT T (k+2) zb5 [.tp false [.int x,.int y,.int z],.int 3,.int 8] st=.ok (.bl true) st := by
 have hT:T zb5=some zbk := rfl
 have hT2:T zbN=some zbJ := rfl
 obtain ⟨a0,a1,b0,b1,c0,c1⟩ := h
 have hp:((2 ^ w:Nat):Int)<=8 := by rcases hw with rfl|rfl|rfl <;> decide
 have hw1:∀(i:Int) st,callT T (k+1) zbN [.int i] st=.ok (.bl true) st := fun i st => by
  rw [zaK hT2 rfl rfl rfl]
  simp! [zbJ,isiV,isTy,isBl,zfe]
 have hc:∀i:Int,-8<=i->i<=8->oneB (callT T (k+1)) [none,some (.int 8)] (.n 0) (.cst (.bl true)) (.and (.call zbN (.cons (.var 0) .nil)) (.chain .le .le (.bin .sub (.cst (.int 0)) (.var 1)) (.var 0) (.var 1))) (.int i) []=.ok (some (.bl true)) [] := fun i h1 h2 => by
  have hb:bindT (.n 0) (.int i) [none,some (.int 8)]=some [some (.int i),some (.int 8)] := rfl
  simp only [oneB,hb,ev.eq_1,bd_ok,t_bl,ono,cond_true]
  have g1:decide (0 - 8<=i)=true := decide_eq_true (by omega)
  have g2:decide (i<=8)=true := decide_eq_true (by omega)
  simp! [hw1,g1,g2,blO]
 have hx := hc x (by omega) (by omega)
 have hy := hc y (by omega) (by omega)
 have hz := hc z (by omega) (by omega)
 have hcp:compB (callT T (k+1)) [none,some (.int 8)] (.n 0) (.cst (.bl true)) (.and (.call zbN (.cons (.var 0) .nil)) (.chain .le .le (.bin .sub (.cst (.int 0)) (.var 1)) (.var 0) (.var 1))) [.int x,.int y,.int z] []=.ok [.bl true,.bl true,.bl true] [] := by
  rw [zaW,hx,bd_ok,zaW,hy,bd_ok,zaW,hz,bd_ok,zdB]
  rfl
 have ha:bltV .all [] [.lst [.bl true,.bl true,.bl true]]=some (.bl true) := rfl
 have hl:bltV .len [] [.tp false [.int x,.int y,.int z]]=some (.int 3) := rfl
 rw [zaK hT rfl rfl rfl]
 simp! [zbk,isiV,isTy,isBl,hl,beq_self_eq_true,bne_self_eq_false,hcp,ze3 _ (show [PV.bl true,.bl true,.bl true].length<=1000000 by simp),ha,zfe]
section
variable {c:Cl}{ρ:IC.Env}{st:Store}
theorem zjs {e:Ce}:ev c ρ st (.thw e)=(ev c ρ st e).bind fun v st1 => thwV v st1 := by rw [ev]
theorem zhA {e:Ce}:ev c ρ st (.isl e)=(ev c ρ st e).bind fun v st1 => toR (islV st1 v) st1 := by rw [ev]
theorem zjh {n:Nat}{xs:List PV}(hn:st[n]?=some (.lst xs)):mthOk .clear st (.loc n)=some true/\mthV .clear st (.loc n) []=.ok .non (st.set n (.lst [])) := by
 simp only [mthOk,mthV,clrV,lstOf,hn,Option.map_some,and_self]
end
theorem ziE {r:Str}(hr:r∈rws):tam 1 10 (.str r)=true := by
 have:(rws.all fun r => tam 1 10 (.str r))=true := by decide +kernel
 exact List.all_eq_true.1 this r hr
theorem zd4:∀ss:List Str,peqs (ss.map .str) (ss.map .str)=true
 | [] => rfl
 |s::ss => by simp [peqs,peq,zd4 ss]
theorem zhV {ss:List Str}(hs:∀r∈ss,r∈rws)(hl:ss.length<=8):cmpV .ne (.lst (ss.map .str)) (.lst (ss.map .str))=some (.bl false) := by
 have ht:tam 2 10 (.lst (ss.map .str))=true := zh2.2 ⟨by omega,by simp;omega,fun x hx => by
  obtain ⟨r,hr,rfl⟩ := List.mem_map.1 hx
  exact ziE (hs r hr)⟩
 simp only [cmpV]
 rw [if_pos (by rw [ziD ht (by omega)];rfl)]
 simp [peq,zd4]
noncomputable def lawB:Css := match f_law.body with
 | .cons _ (.cons (.for _ _ b) _) => b
 |_ => .nil
noncomputable def lwB:Css := match lawB with
 | .cons _ (.cons _ (.cons _ (.cons _ (.cons _ (.cons _ r))))) => r
 |_ => .nil
noncomputable def lwC:Css := match lwB with
 | .cons _ r => r
 |_ => .nil
noncomputable def lwD:Css := match lwC with
 | .cons _ (.cons _ r) => r
 |_ => .nil
noncomputable def lwE:Css := match lwD with
 | .cons _ r => r
 |_ => .nil
theorem ze1 {ns:List Int}{w:Nat}{ss:List Str}(hs:∀r∈ss,r∈rws)(hl:ss.length<=8){a b c x y z:Int}(hw:w=1 \/ w=2 \/ w=3)(hx:Wds w x y z)
  (hrun:∀st v,Src st v ss->callT T 11 za5 [v,.int w,.int a,.int b,.int c] st=.ok (.tp false [.int x,.int y,.int z]) st)
  {p0 p2 p5 p9:Option PV} {v:PV} {st:Store} (h:Drw ns 0 st) (hv:v=.tp false (ss.map .str) \/ ∃n,n≠0/\v=.loc n/\st[n]?=some (.lst (ss.map .str))) :
  ∃st',Drw ns 0 st'/\exs (callT T 11) [p0,some (.loc 0),p2,some (.lst (ss.map .str)),some (.int w),p5,some (.tp false [.int a,.int b,.int c]),some (.tp false [.int x,.int y,.int z]),some v,p9] st lwC =
   .nx [p0,some (.loc 0),p2,some (.lst (ss.map .str)),some (.int w),p5,some (.tp false [.int a,.int b,.int c]),some (.tp false [.int x,.int y,.int z]),some v,some (.tp false [.int x,.int y,.int z])] st' := by
 have hsrc:Src st v ss := by
  rcases hv with rfl|⟨n,_,rfl,hn⟩
  ·exact .inl rfl
  ·exact .inr (.inr ⟨n,rfl,hn⟩)
 have e1 := hrun st v hsrc
 have e2 := fun s => hrun s (.lst (ss.map .str)) (.inr (.inl rfl))
 have hli:bltV .list st [v]=some (.lst (ss.map .str)) := by
  rcases hsrc with rfl|rfl|⟨n,rfl,hn⟩
  ·simp [bltV,seqOf]
  ·simp [bltV,seqOf]
  ·simp [bltV,seqOf,hn]
 have hli2:∀s,bltV .list s [.lst (ss.map .str)]=some (.lst (ss.map .str)) := fun s => by simp [bltV,seqOf]
 have hne := zhV hs hl
 have hne2:cmpV .ne (.tp false [.int x,.int y,.int z]) (.tp false [.int x,.int y,.int z])=some (.bl false) := by simp [cmpV,shp,shd,shds,peq,peqs]
 have hwh:∀s,callT T 11 zb5 [.tp false [.int x,.int y,.int z],.int 3,.int 8] s=.ok (.bl true) s := fun s => zfA 9 hw hx s
 have i0:∀s,idxV s (.tp false [.int a,.int b,.int c]) (.int 0)=some (.int a) := fun s => rfl
 have i1:∀s,idxV s (.tp false [.int a,.int b,.int c]) (.int 1)=some (.int b) := fun s => rfl
 have i2:∀s,idxV s (.tp false [.int a,.int b,.int c]) (.int 2)=some (.int c) := fun s => rfl
 have hb:lwC=(match lwC with
  | .cons a (.cons b _) => .cons a (.cons b lwD)
  |x => x) := rfl
 have hb2:lwD=(match lwD with
  | .cons a _ => .cons a lwE
  |x => x) := rfl
 have pA:exs (callT T 11) [p0,some (.loc 0),p2,some (.lst (ss.map .str)),some (.int w),p5,some (.tp false [.int a,.int b,.int c]),some (.tp false [.int x,.int y,.int z]),some v,p9] st lwC =
   exs (callT T 11) [p0,some (.loc 0),p2,some (.lst (ss.map .str)),some (.int w),p5,some (.tp false [.int a,.int b,.int c]),some (.tp false [.int x,.int y,.int z]),some v,some (.tp false [.int x,.int y,.int z])] st lwD := by
  rw [hb]
  simp! [lwC,lwB,lawB,f_law,i0,i1,i2,e1,hli,hne,hwh,hne2]
 have pE:∀s,exs (callT T 11) [p0,some (.loc 0),p2,some (.lst (ss.map .str)),some (.int w),p5,some (.tp false [.int a,.int b,.int c]),some (.tp false [.int x,.int y,.int z]),some v,some (.tp false [.int x,.int y,.int z])] s lwE =
   .nx [p0,some (.loc 0),p2,some (.lst (ss.map .str)),some (.int w),p5,some (.tp false [.int a,.int b,.int c]),some (.tp false [.int x,.int y,.int z]),some v,some (.tp false [.int x,.int y,.int z])] s := fun s => by
  simp! [lwE,lwD,lwC,lwB,lawB,f_law,i0,i1,i2,e2,hli2,hne2]
 rcases hv with rfl|⟨n,n0,rfl,hn⟩
 ·refine ⟨st,h,?_⟩
  have hi:islV st (.tp false (ss.map .str))=some (.bl false) := rfl
  rw [pA,hb2]
  simp! [lwD,lwC,lwB,lawB,f_law,zhA,hi,pE]
 ·refine ⟨st.set n (.lst []),h.put n0 _,?_⟩
  have hi:islV st (.loc n)=some (.bl true) := by simp [islV,lstOf,hn]
  obtain ⟨c1,c2⟩ := zjh hn
  rw [pA,hb2]
  simp! [lwD,lwC,lwB,lawB,f_law,zhA,hi,c1,c2,pE]
theorem zh7 {ns:List Int}(hns:ns.length<=1000){p0 p2:Option PV}{r:List (Option PV)}(hr:r.length=7){st:Store}(h:Drw ns 0 st) :
  ∃st' r',r'.length=7/\Drw ns 0 st'/\exs (callT T 11) (p0::some (.loc 0)::p2::r) st lawB=.nx (p0::some (.loc 0)::p2::r') st' := by
 obtain ⟨ss,s1,hl,hs,o1,e1⟩ := zem hns 7 h
 have e1:callT T 11 zar [.loc 0,.int 8] st=.ok (.lst (ss.map .str)) s1 := e1
 have h1 := o1.drw h
 obtain ⟨d,s2,d0,d1,o2,e2⟩ := takeD 8 hns (m := 3) (by omega) (by omega) h1
 have e2:callT T 11 zaq [.loc 0,.int 3] s1=.ok (.int d) s2 := e2
 have h2 := o2.drw h1
 obtain ⟨w,hw,hwd⟩:∃w:Nat,(w=1 \/ w=2 \/ w=3)/\1+d=(w:Int) := ⟨(1+d).toNat,by omega,by omega⟩
 have hix:∃q:Int,idxV s2 (.lst [.int 1,.int 2,.int 4]) (.int ((w:Int) - 1))=some (.int q)/\2*q=((2 ^ w:Nat):Int) := by
  rcases hw with rfl|rfl|rfl
  ·exact ⟨1,rfl,rfl⟩
  ·exact ⟨2,rfl,rfl⟩
  ·exact ⟨4,rfl,rfl⟩
 obtain ⟨q,e3,hq⟩ := hix
 have hp:0<((2 ^ w:Nat):Int)/\((2 ^ w:Nat):Int)<=8 := by rcases hw with rfl|rfl|rfl <;> decide
 obtain ⟨W,hW⟩:∃W:Int,W=((2 ^ w:Nat):Int) := ⟨_,rfl⟩
 obtain ⟨a,s3,a0,a1,o3,e4⟩ := takeD 8 hns (m := W) (by omega) (by omega) h2
 have e4:callT T 11 zaq [.loc 0,.int W] s2=.ok (.int a) s3 := e4
 have h3 := o3.drw h2
 obtain ⟨b,s4,b0,b1,o4,e5⟩ := takeD 8 hns (m := W) (by omega) (by omega) h3
 have e5:callT T 11 zaq [.loc 0,.int W] s3=.ok (.int b) s4 := e5
 have h4 := o4.drw h3
 obtain ⟨c,s5,c0,c1,o5,e6⟩ := takeD 8 hns (m := 2) (by omega) (by omega) h4
 have e6:callT T 11 zaq [.loc 0,.int 2] s4=.ok (.int c) s5 := e6
 have h5 := o5.drw h4
 obtain ⟨x,y,z,hx,hrun,hall⟩ := zdL hw 4 hs hl (a := a) (b := b) (c := c) ⟨a0,by omega,b0,by omega,c0,c1⟩
 have e7:∀st,callT T 11 zaI [.lst (ss.map .str),.int W,.tp false [.int a,.int b,.int c]] st=.ok (.tp false [.int x,.int y,.int z]) st := fun st => by
  rw [hW];exact zbg (hall st) 1
 have hli:∀s,bltV .list s [.lst (ss.map .str)]=some (.lst (ss.map .str)) := fun s => by simp [bltV,seqOf]
 have hti:∀s,bltV .tuple s [.lst (ss.map .str)]=some (.tp false (ss.map .str)) := fun s => rfl
 have htw:thwV (.lst (ss.map .str)) s5=.ok (.loc s5.length) (s5++[.lst (ss.map .str)]) := rfl
 have h6:Drw ns 0 (s5++[.lst (ss.map .str)]) := h5.app _
 obtain ⟨t,s7,t0,t1,o7,e8⟩ := takeD 8 hns (m := 2) (by omega) (by omega) h6
 have e8:callT T 11 zaq [.loc 0,.int 2] (s5++[.lst (ss.map .str)])=.ok (.int t) s7 := e8
 have h7 := o7.drw h6
 have hL:s5.length≠0 := by have := h5.pos;omega
 have h7L:s7[s5.length]?=some (.lst (ss.map .str)) := by rw [o7.get hL];simp
 obtain ⟨p3,p4,p5,p6,p7,p8,p9,rfl⟩:∃p3 p4 p5 p6 p7 p8 p9,r=[p3,p4,p5,p6,p7,p8,p9] := by
  match r,hr with
  | [a,b,c,d,e,f,g],_ => exact ⟨a,b,c,d,e,f,g,rfl⟩
 have hb:lawB=(match lawB with
  | .cons a (.cons b (.cons c (.cons d (.cons e (.cons f _))))) => .cons a (.cons b (.cons c (.cons d (.cons e (.cons f lwB)))))
  |x => x) := rfl
 have hb2:lwB=(match lwB with
  | .cons a _ => .cons a lwC
  |x => x) := rfl
 have hq2:2*q=W := by omega
 have pA:exs (callT T 11) [p0,some (.loc 0),p2,p3,p4,p5,p6,p7,p8,p9] st lawB =
   exs (callT T 11) [p0,some (.loc 0),p2,some (.lst (ss.map .str)),some (.int w),some (.int W),some (.tp false [.int a,.int b,.int c]),some (.tp false [.int x,.int y,.int z]),some (.loc s5.length),p9] (s5++[.lst (ss.map .str)]) lwB := by
  rw [hb]
  simp! [lawB,f_law,e1,e2,hwd,e3,hq2,e4,e5,e6,e7,hli,zjs,htw]
 by_cases ht:t=1
 ·have hc:cmpV .eq (.int t) (.int 1)=some (.bl true) := by rw [ht];rfl
  obtain ⟨s8,h8,e9⟩ := ze1 (ns := ns) (p0 := p0) (p2 := p2) (p5 := some (.int W)) (p9 := p9) hs hl hw hx (fun st v hv => hrun st v hv) h7 (.inl rfl)
  refine ⟨s8,[some (.lst (ss.map .str)),some (.int w),some (.int W),some (.tp false [.int a,.int b,.int c]),some (.tp false [.int x,.int y,.int z]),some (.tp false (ss.map .str)),some (.tp false [.int x,.int y,.int z])],rfl,h8,?_⟩
  rw [pA,hb2]
  subst ht
  simp! [lwB,lawB,f_law,e8,beq_self_eq_true,hti,e9]
 ·have hc:((t:Int) == 1)=false := by simp [ht]
  obtain ⟨s8,h8,e9⟩ := ze1 (ns := ns) (p0 := p0) (p2 := p2) (p5 := some (.int W)) (p9 := p9) hs hl hw hx (fun st v hv => hrun st v hv) h7 (.inr ⟨_,hL,rfl,h7L⟩)
  refine ⟨s8,[some (.lst (ss.map .str)),some (.int w),some (.int W),some (.tp false [.int a,.int b,.int c]),some (.tp false [.int x,.int y,.int z]),some (.loc s5.length),some (.tp false [.int x,.int y,.int z])],rfl,h8,?_⟩
  rw [pA,hb2]
  simp! [lwB,lawB,f_law,e8,hc,e9]
theorem turns {ns:List Int}(hns:ns.length<=1000){p0:Option PV}:∀(N:Nat) (a:Int) (p2:Option PV) (r:List (Option PV)) (st:Store),r.length=7->Drw ns 0 st ->
  ∃st' v2 r',Drw ns 0 st'/\forB (callT T 11) (.n 2) lawB (rangeL N a 1) (p0::some (.loc 0)::p2::r) st=.nx (p0::some (.loc 0)::v2::r') st'
 |0,a,p2,r,st,hr,h => ⟨st,p2,r,h,by rw [rangeL,zbd]⟩
 |N+1,a,p2,r,st,hr,h => by
  obtain ⟨s1,r1,hr1,h1,e1⟩ := zh7 hns (p0 := p0) (p2 := some (.int a)) hr h
  obtain ⟨s2,v2,r2,h2,e2⟩ := turns hns (p0 := p0) N (a+1) (some (.int a)) r1 s1 hr1 h1
  refine ⟨s2,v2,r2,h2,?_⟩
  rw [rangeL,zaE (ρ1 := p0::some (.loc 0)::some (.int a)::r) rfl,e1]
  exact e2
theorem zgG (ns:List Int)(hn:ns.length<=63):callT T 12 zfX [.scr (ns.map .int)] []=.ok (.bl true) [] := by
 obtain ⟨o,e1,ho⟩ := fresh 10 ns hn []
 have h0:Drw ns 0 [o] := ⟨0,0,false,by omega,by rw [ho];rfl⟩
 have hns:ns.length<=1000 := by omega
 have hT:T zfX=some ⟨1,10,true,f_law.body⟩ := rfl
 have e1:callT T 11 zcJ [.scr (ns.map .int)] []=.ok (.loc 0) [o] := e1
 obtain ⟨s1,v2,r',h1,e2⟩ := turns hns (p0 := some (.scr (ns.map .int))) 4 0 none [none,none,none,none,none,none,none] [o] rfl h0
 have hb:f_law.body=(match f_law.body with
  | .cons a (.cons (.for t i _) r) => .cons a (.cons (.for t i lawB) r)
  |_ => .nil) := rfl
 have hr:rng1 (.int 4)=some (rangeL 4 0 1) := rfl
 rw [zaK hT rfl rfl (zeA ns)]
 dsimp only
 rw [hb]
 simp! [f_law,Nat.zero_le,e1,hr,e2,zfe]
end WK
namespace WK
open PySem L2 IC
section
variable {P:Program}{w:World}{K:PySem.W.Frag}{mg:Str->Option Value}{base:Heap}{cl:Nat->Addr}{fa:Nat->Addr}{fdd:Nat->FuncData}
theorem zA (Z:Facts w K mg cl fa fdd):∀k,Fns P w K mg base cl fa fdd k
 |0 => fun i ps _ => zgs
 |k+1 => fun i ps h => match i,h with
  |0,h => by cases h;exact ziz Z (zA Z k)
  |1,h => by cases h;exact zew Z (zA Z k)
  |2,h => by cases h;exact zgC Z (zA Z k)
  |3,h => by cases h;exact zgv Z (zA Z k)
  |4,h => by cases h;exact zfm Z (zA Z k)
  |5,h => by cases h;exact zcW Z (zA Z k)
  |6,h => by cases h;exact zeF Z (zA Z k)
  |7,h => by cases h;exact zf5 Z (zA Z k)
  |8,h => by cases h;exact zfg Z (zA Z k)
  |9,h => by cases h;exact zeO Z (zA Z k)
  |10,h => by cases h;exact zeW Z (zA Z k)
  |11,h => by cases h;exact zdh Z (zA Z k)
  |12,h => by cases h;exact zcj Z (zA Z k)
  |13,h => by cases h;exact zdR Z (zA Z k)
  |14,h => by cases h;exact zcQ Z (zA Z k)
  |15,h => by cases h;exact zfd Z (zA Z k)
  |16,h => by cases h;exact ze5 Z (zA Z k)
  |17,h => by cases h;exact zg5 Z (zA Z k)
  |18,h => by cases h;exact zgL Z (zA Z k)
  |19,h => by cases h;exact zfz Z (zA Z k)
  |20,h => by cases h;exact zeH Z (zA Z k)
  |21,h => by cases h;exact zf2 Z (zA Z k)
  |22,h => by cases h;exact zc6 Z (zA Z k)
  |23,h => by cases h;exact zc3 Z (zA Z k)
  |24,h => by cases h;exact zco Z (zA Z k)
  |25,h => by cases h;exact zjf Z (zA Z k)
  |i+26,h => by cases h
end
set_option maxHeartbeats 0 in
noncomputable abbrev FN (x:Str)(s:Stmt)(d kV dc pm:Value)(an:Option Addr)(cd ct:Value) := PySem.W.fnOf x x (defArgs s) (defBody s) (defScope s) d kV dc pm an cd ct
noncomputable abbrev lN (K:PySem.W.Frag)(f:Addr)(x:Str)(s:Stmt)(d oc:Value)(od:Option Addr)(kV dc pm:Value)(an:Option Addr)(cd ct:Value)(sl:Array (Option Value)) := K.lookup f=some ⟨oc,od,.func (FN x s d kV dc pm an cd ct),sl⟩
noncomputable abbrev aN (K:PySem.W.Frag)(x:Str)(f:Addr) := PySem.W.nsIn K mainGlobals x=some (some (.ref f))
noncomputable abbrev cN (K:PySem.W.Frag)(c:Value)(x:Str) := PySem.W.codeIn K c x=true
noncomputable abbrev pN (K:PySem.W.Frag)(f:Addr) := PySem.W.keepIn K (.ref f)=true
theorem kl0 {α:Type}(l:List α)(h:l.length=0):l=[] := List.eq_nil_of_length_eq_zero h
theorem kl1 {α:Type}(l:List α)(h:l.length=1):∃a,l=[a] := match l,h with | [a],_ => ⟨a,rfl⟩
theorem kl2 {α:Type}(l:List α)(h:l.length=2):∃a b,l=[a,b] := match l,h with | [a,b],_ => ⟨a,b,rfl⟩
theorem kl3 {α:Type}(l:List α)(h:l.length=3):∃a b c,l=[a,b,c] := match l,h with | [a,b,c],_ => ⟨a,b,c,rfl⟩
theorem kl5 {α:Type}(l:List α)(h:l.length=5):∃a b c d e,l=[a,b,c,d,e] := match l,h with | [a,b,c,d,e],_ => ⟨a,b,c,d,e,rfl⟩
theorem kl6 {α:Type}(l:List α)(h:l.length=6):∃a b c d e f,l=[a,b,c,d,e,f] := match l,h with | [a,b,c,d,e,f],_ => ⟨a,b,c,d,e,f,rfl⟩
theorem kl7 {α:Type}(l:List α)(h:l.length=7):∃a b c d e f g,l=[a,b,c,d,e,f,g] := match l,h with | [a,b,c,d,e,f,g],_ => ⟨a,b,c,d,e,f,g,rfl⟩
theorem kl8 {α:Type}(l:List α)(h:l.length=8):∃a b c d e f g k,l=[a,b,c,d,e,f,g,k] := match l,h with | [a,b,c,d,e,f,g,k],_ => ⟨a,b,c,d,e,f,g,k,rfl⟩
theorem kl4 {α:Type}(l:List α)(h:l.length=4):∃a b c d,l=[a,b,c,d] := match l,h with | [a,b,c,d],_ => ⟨a,b,c,d,rfl⟩
theorem all_mk {l:PySem.W.OpenLaw}{w:World}{K:PySem.W.Frag}{h:Heap}{mg:Str->Option Value}{fx:Addr}(X:K.In h)(G:h.Ns mainGlobals mg)(hfa:mg "law"=some (.ref fx))(a0:aN K "made" f0)(l0:lN K f0 "made" zcd .none oc0 od0 kV0 dc0 pm0 an0 cd0 ct0 sl0)(c0:cN K cd0 "made")(p0:pN K f0)(a1:aN K "highest" f1)(l1:lN K f1 "highest" zak .none oc1 od1 kV1 dc1 pm1 an1 cd1 ct1 sl1)(c1:cN K cd1 "highest")(p1:pN K f1)(a2:aN K "moved" f2)(l2:lN K f2 "moved" zbr .none oc2 od2 kV2 dc2 pm2 an2 cd2 ct2 sl2)(c2:cN K cd2 "moved")(p2:pN K f2)(a3:aN K "bared" f3)(l3:lN K f3 "bared" za9 .none oc3 od3 kV3 dc3 pm3 an3 cd3 ct3 sl3)(c3:cN K cd3 "bared")(p3:pN K f3)(a4:aN K "summed" f4)(l4:lN K f4 "summed" zas .none oc4 od4 kV4 dc4 pm4 an4 cd4 ct4 sl4)(c4:cN K cd4 "summed")(p4:pN K f4)(a5:aN K "taken_away" f5)(l5:lN K f5 "taken_away" zQ .none oc5 od5 kV5 dc5 pm5 an5 cd5 ct5 sl5)(c5:cN K cd5 "taken_away")(p5:pN K f5)(a6:aN K "in_both" f6)(l6:lN K f6 "in_both" zai .none oc6 od6 kV6 dc6 pm6 an6 cd6 ct6 sl6)(c6:cN K cd6 "in_both")(p6:pN K f6)(a7:aN K "in_any" f7)(l7:lN K f7 "in_any" zaX .none oc7 od7 kV7 dc7 pm7 an7 cd7 ct7 sl7)(c7:cN K cd7 "in_any")(p7:pN K f7)(a8:aN K "in_one" f8)(l8:lN K f8 "in_one" zaS .none oc8 od8 kV8 dc8 pm8 an8 cd8 ct8 sl8)(c8:cN K cd8 "in_one")(p8:pN K f8)(a9:aN K "doubled" f9)(l9:lN K f9 "doubled" z8 .none oc9 od9 kV9 dc9 pm9 an9 cd9 ct9 sl9)(c9:cN K cd9 "doubled")(p9:pN K f9)(a10:aN K "halved" f10)(l10:lN K f10 "halved" zaN .none oc10 od10 kV10 dc10 pm10 an10 cd10 ct10 sl10)(c10:cN K cd10 "halved")(p10:pN K f10)(a11:aN K "small_run" f11)(l11:lN K f11 "small_run" zN .none oc11 od11 kV11 dc11 pm11 an11 cd11 ct11 sl11)(c11:cN K cd11 "small_run")(p11:pN K f11)(a12:aN K "refuse_rows" f12)(l12:lN K f12 "refuse_rows" zF .none oc12 od12 kV12 dc12 pm12 an12 cd12 ct12 sl12)(c12:cN K cd12 "refuse_rows")(p12:pN K f12)(a13:aN K "all_done" f13)(l13:lN K f13 "all_done" zV .none oc13 od13 kV13 dc13 pm13 an13 cd13 ct13 sl13)(c13:cN K cd13 "all_done")(p13:pN K f13)(a14:aN K "small_done" f14)(l14:lN K f14 "small_done" zL .none oc14 od14 kV14 dc14 pm14 an14 cd14 ct14 sl14)(c14:cN K cd14 "small_done")(p14:pN K f14)(a15:aN K "_law_fresh" f15)(l15:lN K f15 "_law_fresh" zaV .none oc15 od15 kV15 dc15 pm15 an15 cd15 ct15 sl15)(c15:cN K cd15 "_law_fresh")(p15:pN K f15)(a16:aN K "_law_mixed" f16)(l16:lN K f16 "_law_mixed" zam .none oc16 od16 kV16 dc16 pm16 an16 cd16 ct16 sl16)(c16:cN K cd16 "_law_mixed")(p16:pN K f16)(a17:aN K "_law_fill" f17)(l17:lN K f17 "_law_fill" zaz .none oc17 od17 kV17 dc17 pm17 an17 cd17 ct17 sl17)(c17:cN K cd17 "_law_fill")(p17:pN K f17)(a18:aN K "_law_take" f18)(l18:lN K f18 "_law_take" za4 .none oc18 od18 kV18 dc18 pm18 an18 cd18 ct18 sl18)(c18:cN K cd18 "_law_take")(p18:pN K f18)(a19:aN K "_law_whole" f19)(l19:lN K f19 "_law_whole" z6 .none oc19 od19 kV19 dc19 pm19 an19 cd19 ct19 sl19)(c19:cN K cd19 "_law_whole")(p19:pN K f19)(a20:aN K "_law_wholes" f20)(l20:lN K f20 "_law_wholes" zM .none oc20 od20 kV20 dc20 pm20 an20 cd20 ct20 sl20)(c20:cN K cd20 "_law_wholes")(p20:pN K f20)(a21:aN K "_law_texts" f21)(l21:lN K f21 "_law_texts" zap .none oc21 od21 kV21 dc21 pm21 an21 cd21 ct21 sl21)(c21:cN K cd21 "_law_texts")(p21:pN K f21)(a22:aN K "_law_small_one" f22)(l22:lN K f22 "_law_small_one" zO .none oc22 od22 kV22 dc22 pm22 an22 cd22 ct22 sl22)(c22:cN K cd22 "_law_small_one")(p22:pN K f22)(a23:aN K "_law_small_all" f23)(l23:lN K f23 "_law_small_all" zP .none oc23 od23 kV23 dc23 pm23 an23 cd23 ct23 sl23)(c23:cN K cd23 "_law_small_all")(p23:pN K f23)(a24:aN K "_law_small_rows" f24)(l24:lN K f24 "_law_small_rows" zE .none oc24 od24 kV24 dc24 pm24 an24 cd24 ct24 sl24)(c24:cN K cd24 "_law_small_rows")(p24:pN K f24)(a25:aN K "law" f25)(l25:lN K f25 "law" zaJ .none oc25 od25 kV25 dc25 pm25 an25 cd25 ct25 sl25)(c25:cN K cd25 "law")(p25:pN K f25)(z_all:PySem.W.nsIn K mainGlobals "all"=some none)(z_bool:PySem.W.nsIn K mainGlobals "bool"=some none)(z_enumerate:PySem.W.nsIn K mainGlobals "enumerate"=some none)(z_int:PySem.W.nsIn K mainGlobals "int"=some none)(z_isinstance:PySem.W.nsIn K mainGlobals "isinstance"=some none)(z_len:PySem.W.nsIn K mainGlobals "len"=some none)(z_list:PySem.W.nsIn K mainGlobals "list"=some none)(z_range:PySem.W.nsIn K mainGlobals "range"=some none)(z_tuple:PySem.W.nsIn K mainGlobals "tuple"=some none)(k_bool_n:PySem.W.kitOne K (.type "NoneType") (.type "bool")=some false)(k_bool_b:PySem.W.kitOne K (.type "bool") (.type "bool")=some true)(k_bool_i:PySem.W.kitOne K (.type "int") (.type "bool")=some false)(k_bool_s:PySem.W.kitOne K (.type "str") (.type "bool")=some false)(k_bool_p:PySem.W.kitOne K (.type "tuple") (.type "bool")=some false)(k_bool_l:PySem.W.kitOne K (.type "list") (.type "bool")=some false)(k_int_n:PySem.W.kitOne K (.type "NoneType") (.type "int")=some false)(k_int_b:PySem.W.kitOne K (.type "bool") (.type "int")=some true)(k_int_i:PySem.W.kitOne K (.type "int") (.type "int")=some true)(k_int_s:PySem.W.kitOne K (.type "str") (.type "int")=some false)(k_int_p:PySem.W.kitOne K (.type "tuple") (.type "int")=some false)(k_int_l:PySem.W.kitOne K (.type "list") (.type "int")=some false)(k_list_n:PySem.W.kitOne K (.type "NoneType") (.type "list")=some false)(k_list_b:PySem.W.kitOne K (.type "bool") (.type "list")=some false)(k_list_i:PySem.W.kitOne K (.type "int") (.type "list")=some false)(k_list_s:PySem.W.kitOne K (.type "str") (.type "list")=some false)(k_list_p:PySem.W.kitOne K (.type "tuple") (.type "list")=some false)(k_list_l:PySem.W.kitOne K (.type "list") (.type "list")=some true)(k_tuple_n:PySem.W.kitOne K (.type "NoneType") (.type "tuple")=some false)(k_tuple_b:PySem.W.kitOne K (.type "bool") (.type "tuple")=some false)(k_tuple_i:PySem.W.kitOne K (.type "int") (.type "tuple")=some false)(k_tuple_s:PySem.W.kitOne K (.type "str") (.type "tuple")=some false)(k_tuple_p:PySem.W.kitOne K (.type "tuple") (.type "tuple")=some true)(k_tuple_l:PySem.W.kitOne K (.type "list") (.type "tuple")=some false)(g_MOST_ROWS_a:PySem.W.nsIn K mainGlobals "MOST_ROWS"=some (some (.int 8 g_MOST_ROWS_t)))(g_SMALL_ROWS_a:aN K "SMALL_ROWS" g_SMALL_ROWS_y0)(g_SMALL_ROWS_l0:K.lookup g_SMALL_ROWS_y0=some ⟨.type "tuple",g_SMALL_ROWS_d0,.seq #[.str "add" g_SMALL_ROWS_t0_0,.str "less" g_SMALL_ROWS_t0_1,.str "swap" g_SMALL_ROWS_t0_2,.str "copy" g_SMALL_ROWS_t0_3,.str "twice" g_SMALL_ROWS_t0_4,.str "half" g_SMALL_ROWS_t0_5,.str "bare" g_SMALL_ROWS_t0_6,.str "both" g_SMALL_ROWS_t0_7,.str "any" g_SMALL_ROWS_t0_8,.str "odd" g_SMALL_ROWS_t0_9,.str "nought" g_SMALL_ROWS_t0_10,.str "clear" g_SMALL_ROWS_t0_11,.str "one" g_SMALL_ROWS_t0_12] g_SMALL_ROWS_n0,g_SMALL_ROWS_s0⟩)(gm_a:aN K "MAKERS" gm_y)(gm_l:K.lookup gm_y=some ⟨.type "dict",none,.dict #[⟨PyData.keyHash w.params "move",.str "move" gm_t0,.ref f2⟩,⟨PyData.keyHash w.params "bare",.str "bare" gm_t1,.ref f3⟩,⟨PyData.keyHash w.params "sum",.str "sum" gm_t2,.ref f4⟩,⟨PyData.keyHash w.params "less",.str "less" gm_t3,.ref f5⟩,⟨PyData.keyHash w.params "both",.str "both" gm_t4,.ref f6⟩,⟨PyData.keyHash w.params "any",.str "any" gm_t5,.ref f7⟩,⟨PyData.keyHash w.params "odd",.str "odd" gm_t6,.ref f8⟩,⟨PyData.keyHash w.params "twice",.str "twice" gm_t7,.ref f9⟩,⟨PyData.keyHash w.params "half",.str "half" gm_t8,.ref f10⟩] gm_n,#[]⟩)
   :∃fd:FuncData,(∀(s:Shared) (v:Value),BindsTo s fd ⟨[v],[]⟩ [("_law_script",v)])/\∀base:Heap,K.In base->base.Ns mainGlobals mg->FnOk l.prog w K mg base (CX1 l.prog w) 24 fx fd ["_law_script"] (spX K (callT T 12) zfX) := by
 have e := Value.ref.inj (Option.some.inj (hfa.symm.trans (PySem.W.mg_of X G a25)))
 subst e
 have Z:Facts w K mg (fun i => ([0,0,0,0,0,0,0,0,0,0,0,0,0,0,0,0,0,0,0,0,0,0,0]:List Addr).getD i 0) (fun i => ([f0,f1,f2,f3,f4,f5,f6,f7,f8,f9,f10,f11,f12,f13,f14,f15,f16,f17,f18,f19,f20,f21,f22,f23,f24,fx]:List Addr).getD i 0) (fun i => match i with
  |0 => (FN "made" zcd .none kV0 dc0 pm0 an0 cd0 ct0)
  |1 => (FN "highest" zak .none kV1 dc1 pm1 an1 cd1 ct1)
  |2 => (FN "moved" zbr .none kV2 dc2 pm2 an2 cd2 ct2)
  |3 => (FN "bared" za9 .none kV3 dc3 pm3 an3 cd3 ct3)
  |4 => (FN "summed" zas .none kV4 dc4 pm4 an4 cd4 ct4)
  |5 => (FN "taken_away" zQ .none kV5 dc5 pm5 an5 cd5 ct5)
  |6 => (FN "in_both" zai .none kV6 dc6 pm6 an6 cd6 ct6)
  |7 => (FN "in_any" zaX .none kV7 dc7 pm7 an7 cd7 ct7)
  |8 => (FN "in_one" zaS .none kV8 dc8 pm8 an8 cd8 ct8)
  |9 => (FN "doubled" z8 .none kV9 dc9 pm9 an9 cd9 ct9)
  |10 => (FN "halved" zaN .none kV10 dc10 pm10 an10 cd10 ct10)
  |11 => (FN "small_run" zN .none kV11 dc11 pm11 an11 cd11 ct11)
  |12 => (FN "refuse_rows" zF .none kV12 dc12 pm12 an12 cd12 ct12)
  |13 => (FN "all_done" zV .none kV13 dc13 pm13 an13 cd13 ct13)
  |14 => (FN "small_done" zL .none kV14 dc14 pm14 an14 cd14 ct14)
  |15 => (FN "_law_fresh" zaV .none kV15 dc15 pm15 an15 cd15 ct15)
  |16 => (FN "_law_mixed" zam .none kV16 dc16 pm16 an16 cd16 ct16)
  |17 => (FN "_law_fill" zaz .none kV17 dc17 pm17 an17 cd17 ct17)
  |18 => (FN "_law_take" za4 .none kV18 dc18 pm18 an18 cd18 ct18)
  |19 => (FN "_law_whole" z6 .none kV19 dc19 pm19 an19 cd19 ct19)
  |20 => (FN "_law_wholes" zM .none kV20 dc20 pm20 an20 cd20 ct20)
  |21 => (FN "_law_texts" zap .none kV21 dc21 pm21 an21 cd21 ct21)
  |22 => (FN "_law_small_one" zO .none kV22 dc22 pm22 an22 cd22 ct22)
  |23 => (FN "_law_small_all" zP .none kV23 dc23 pm23 an23 cd23 ct23)
  |24 => (FN "_law_small_rows" zE .none kV24 dc24 pm24 an24 cd24 ct24)
  |25 => (FN "law" zaJ .none kV25 dc25 pm25 an25 cd25 ct25)
  |_ => (FN "law" zaJ .none kV25 dc25 pm25 an25 cd25 ct25)) := {
  F0 := zZ (st := zcd) (ps := ["name","w","x","y","k"]) X G a0 l0 c0 p0 fun _ _ _ _ _ _ us hl => by obtain ⟨a,b,c,d,e,rfl⟩ := kl5 us hl;exact rfl
  F1 := zZ (st := zak) (ps := ["w"]) X G a1 l1 c1 p1 fun _ _ _ _ _ _ us hl => by obtain ⟨a,rfl⟩ := kl1 us hl;exact rfl
  F2 := zZ (st := zbr) (ps := ["w","x","y","k"]) X G a2 l2 c2 p2 fun _ _ _ _ _ _ us hl => by obtain ⟨a,b,c,d,rfl⟩ := kl4 us hl;exact rfl
  F3 := zZ (st := za9) (ps := ["w","x","y","k"]) X G a3 l3 c3 p3 fun _ _ _ _ _ _ us hl => by obtain ⟨a,b,c,d,rfl⟩ := kl4 us hl;exact rfl
  F4 := zZ (st := zas) (ps := ["w","x","y","k"]) X G a4 l4 c4 p4 fun _ _ _ _ _ _ us hl => by obtain ⟨a,b,c,d,rfl⟩ := kl4 us hl;exact rfl
  F5 := zZ (st := zQ) (ps := ["w","x","y","k"]) X G a5 l5 c5 p5 fun _ _ _ _ _ _ us hl => by obtain ⟨a,b,c,d,rfl⟩ := kl4 us hl;exact rfl
  F6 := zZ (st := zai) (ps := ["w","x","y","k"]) X G a6 l6 c6 p6 fun _ _ _ _ _ _ us hl => by obtain ⟨a,b,c,d,rfl⟩ := kl4 us hl;exact rfl
  F7 := zZ (st := zaX) (ps := ["w","x","y","k"]) X G a7 l7 c7 p7 fun _ _ _ _ _ _ us hl => by obtain ⟨a,b,c,d,rfl⟩ := kl4 us hl;exact rfl
  F8 := zZ (st := zaS) (ps := ["w","x","y","k"]) X G a8 l8 c8 p8 fun _ _ _ _ _ _ us hl => by obtain ⟨a,b,c,d,rfl⟩ := kl4 us hl;exact rfl
  F9 := zZ (st := z8) (ps := ["w","x","y","k"]) X G a9 l9 c9 p9 fun _ _ _ _ _ _ us hl => by obtain ⟨a,b,c,d,rfl⟩ := kl4 us hl;exact rfl
  F10 := zZ (st := zaN) (ps := ["w","x","y","k"]) X G a10 l10 c10 p10 fun _ _ _ _ _ _ us hl => by obtain ⟨a,b,c,d,rfl⟩ := kl4 us hl;exact rfl
  F11 := zZ (st := zN) (ps := ["rows","w","lo","hi","k"]) X G a11 l11 c11 p11 fun _ _ _ _ _ _ us hl => by obtain ⟨a,b,c,d,e,rfl⟩ := kl5 us hl;exact rfl
  F12 := zZ (st := zF) (ps := ["rows"]) X G a12 l12 c12 p12 fun _ _ _ _ _ _ us hl => by obtain ⟨a,rfl⟩ := kl1 us hl;exact rfl
  F13 := zZ (st := zV) (ps := ["rows","w","lo","hi","k"]) X G a13 l13 c13 p13 fun _ _ _ _ _ _ us hl => by obtain ⟨a,b,c,d,e,rfl⟩ := kl5 us hl;exact rfl
  F14 := zZ (st := zL) (ps := ["row","w","lo","hi","k"]) X G a14 l14 c14 p14 fun _ _ _ _ _ _ us hl => by obtain ⟨a,b,c,d,e,rfl⟩ := kl5 us hl;exact rfl
  F15 := zZ (st := zaV) (ps := ["_law_script"]) X G a15 l15 c15 p15 fun _ _ _ _ _ _ us hl => by obtain ⟨a,rfl⟩ := kl1 us hl;exact rfl
  F16 := zZ (st := zam) (ps := ["_law_seed"]) X G a16 l16 c16 p16 fun _ _ _ _ _ _ us hl => by obtain ⟨a,rfl⟩ := kl1 us hl;exact rfl
  F17 := zZ (st := zaz) (ps := ["_law_state"]) X G a17 l17 c17 p17 fun _ _ _ _ _ _ us hl => by obtain ⟨a,rfl⟩ := kl1 us hl;exact rfl
  F18 := zZ (st := za4) (ps := ["_law_state","_law_many"]) X G a18 l18 c18 p18 fun _ _ _ _ _ _ us hl => by obtain ⟨a,b,rfl⟩ := kl2 us hl;exact rfl
  F19 := zZ (st := z6) (ps := ["_law_thing"]) X G a19 l19 c19 p19 fun _ _ _ _ _ _ us hl => by obtain ⟨a,rfl⟩ := kl1 us hl;exact rfl
  F20 := zZ (st := zM) (ps := ["_law_thing","_law_many","_law_most"]) X G a20 l20 c20 p20 fun _ _ _ _ _ _ us hl => by obtain ⟨a,b,c,rfl⟩ := kl3 us hl;exact rfl
  F21 := zZ (st := zap) (ps := []) X G a21 l21 c21 p21 fun _ _ _ _ _ _ us hl => by obtain rfl := kl0 us hl;exact rfl
  F22 := zZ (st := zO) (ps := ["_law_row","_law_wide","_law_lo","_law_hi","_law_k"]) X G a22 l22 c22 p22 fun _ _ _ _ _ _ us hl => by obtain ⟨a,b,c,d,e,rfl⟩ := kl5 us hl;exact rfl
  F23 := zZ (st := zP) (ps := ["_law_rows","_law_wide","_law_begin"]) X G a23 l23 c23 p23 fun _ _ _ _ _ _ us hl => by obtain ⟨a,b,c,rfl⟩ := kl3 us hl;exact rfl
  F24 := zZ (st := zE) (ps := ["_law_state","_law_most"]) X G a24 l24 c24 p24 fun _ _ _ _ _ _ us hl => by obtain ⟨a,b,rfl⟩ := kl2 us hl;exact rfl
  F25 := zZ (st := zaJ) (ps := ["_law_script"]) X G a25 l25 c25 p25 fun _ _ _ _ _ _ us hl => by obtain ⟨a,rfl⟩ := kl1 us hl;exact rfl
  z_all := PySem.W.mg_none_of X G z_all
  z_bool := PySem.W.mg_none_of X G z_bool
  z_enumerate := PySem.W.mg_none_of X G z_enumerate
  z_int := PySem.W.mg_none_of X G z_int
  z_isinstance := PySem.W.mg_none_of X G z_isinstance
  z_len := PySem.W.mg_none_of X G z_len
  z_list := PySem.W.mg_none_of X G z_list
  z_range := PySem.W.mg_none_of X G z_range
  z_tuple := PySem.W.mg_none_of X G z_tuple
  k_bool := ⟨k_bool_n,k_bool_b,k_bool_i,k_bool_s,k_bool_p,k_bool_l⟩
  k_int := ⟨k_int_n,k_int_b,k_int_i,k_int_s,k_int_p,k_int_l⟩
  k_list := ⟨k_list_n,k_list_b,k_list_i,k_list_s,k_list_p,k_list_l⟩
  k_tuple := ⟨k_tuple_n,k_tuple_b,k_tuple_i,k_tuple_s,k_tuple_p,k_tuple_l⟩
  c_MOST_ROWS := ⟨_,PySem.W.mg_of X G g_MOST_ROWS_a⟩
  c_SMALL_ROWS := ⟨g_SMALL_ROWS_y0,PySem.W.mg_of X G g_SMALL_ROWS_a,fun B φ H => zjc (xs := [.str "add",.str "less",.str "swap",.str "copy",.str "twice",.str "half",.str "bare",.str "both",.str "any",.str "odd",.str "nought",.str "clear",.str "one"]) g_SMALL_ROWS_l0 (Nat.le_of_ble_eq_true rfl) (.cons ⟨_,rfl⟩ (.cons ⟨_,rfl⟩ (.cons ⟨_,rfl⟩ (.cons ⟨_,rfl⟩ (.cons ⟨_,rfl⟩ (.cons ⟨_,rfl⟩ (.cons ⟨_,rfl⟩ (.cons ⟨_,rfl⟩ (.cons ⟨_,rfl⟩ (.cons ⟨_,rfl⟩ (.cons ⟨_,rfl⟩ (.cons ⟨_,rfl⟩ (.cons ⟨_,rfl⟩ .nil))))))))))))) (zR (by simp only [RepV]) (zR (by simp only [RepV]) (zR (by simp only [RepV]) (zR (by simp only [RepV]) (zR (by simp only [RepV]) (zR (by simp only [RepV]) (zR (by simp only [RepV]) (zR (by simp only [RepV]) (zR (by simp only [RepV]) (zR (by simp only [RepV]) (zR (by simp only [RepV]) (zR (by simp only [RepV]) (zR (by simp only [RepV]) zf1)))))))))))))⟩
  g_MAKERS := ⟨gm_y,_,_,PySem.W.mg_of X G gm_a,gm_l,.cons (i := 2) (.cons (i := 3) (.cons (i := 4) (.cons (i := 5) (.cons (i := 6) (.cons (i := 7) (.cons (i := 8) (.cons (i := 9) (.cons (i := 10) (.nil))))))))),by decide +kernel⟩
 }
 exact ⟨_,fun s v => .of_eq rfl,fun base XB _ => (zA Z 12 25 _ rfl).imp fun _ _ _ _ h => h _⟩
theorem walk {l:PySem.W.OpenLaw}{q:Program}{loose:List Str}{XP:(Str->Option Value)->Heap->Prop}{YP:World->Heap->Prop}{d:DefRec}{K:Params->PySem.W.Frag}(hn:l.most=some 63)(hdf:d.params.defaults=[])
  (hY:∀(w:World) (h:Heap),YP w h->(K w.params).In h)
  (F:∀(w:World) (mg:Str->Option Value) (fa:Addr) (h:Heap),(K w.params).In h->h.Ns mainGlobals mg->mg d.name=some (.ref fa) ->
   ∃fd:FuncData,(∀(s:Shared) (u:Value),BindsTo s fd ⟨[u],[]⟩ [("_law_script",u)])/\∀base:Heap,(K w.params).In base->base.Ns mainGlobals mg->FnOk l.prog w (K w.params) mg base (CX1 l.prog w) 24 fa fd ["_law_script"] (spX (K w.params) (callT T 12) zfX)) :
  PySem.W.WalkO q loose XP YP l.row.toRowW d [] (fun f vs => PySem.call f vs) :=
 L2.walk_of (n := 63) (k := 24) (x := "_law_script") (CX := fun w => CX1 l.prog w) (sp := fun w => spX (K w.params) (callT T 12) zfX) hn (by decide) hdf ⟨rfl,by decide,by decide⟩ hY F (fun w H a ns hl _ hS => zf0 zgG hl hS) fun _ _ _ _ _ z => ziI z
end WK
open PySem PySem.W PyProof.Rows
namespace PySem.W.Fast
def tw6491409713961500453:=Nat
def tw8894411343712127321:=Nat
def tw16198069179151634168:=Nat
def tw12805991271213108321:=Nat
def tw4897386956206263648:=Nat
def tw6808279951585251830:=Nat
def tw7554835877588267877:=Nat
def tw17255909123000438650:=Nat
def tw6687503807683872250:=Nat
def tw9344395879366625981:=Nat
def tw10742205141936924091:=Nat
def tw13439805287691690488:=Nat
def tw8799636617484457805:=Nat
def tw5932853074599561823:=Nat
def tw11757236889846136966:=Nat
def tw10781172990462843822:=Nat
def tw14511071719135440280:=Nat
def tw9487964508894105170:=Nat
def tw14752698134522426551:=Nat
def tw10382226036187835033:=Nat
def tw16736237942536557448:=Nat
def tw11876090072681723802:=Nat
def tw13637419754518152817:=Nat
def tw6707630897389731225:=Nat
def tw14030171759673832906:=Nat
def tw17345100874416506025:=Nat
def tw3954193821120517640:=Nat
def tw7291260811408656117:=Nat
def tw16516393873227966553:=Nat
def tw2797505060003724734:=Nat
def tw3269348536700884986:=Nat
def tw17942622107969145981:=Nat
def tw9282819280458857457:=Nat
def tw17967858307985129186:=Nat
def tw11768399288259429674:=Nat
def tw14186938642034644302:=Nat
def tw4585553242389034050:=Nat
def tw18281462891558127679:=Nat
def tw6265762065797517859:=Nat
def tw8696693332689383276:=Nat
def tw7481731230914278548:=Nat
def tw13755274317894452989:=Nat
def tw13939638710862082121:=Nat
def tw15630449639194155484:=Nat
def tw1163645122954984179:=Nat
def tw4229920765311082040:=Nat
def tw5869078720331443771:=Nat
def tw3307105475569140644:=Nat
def tw1951757412939787337:=Nat
def tw9730898628201422841:=Nat
def tw17246249809467029014:=Nat
def tw5181240650630555960:=Nat
def tw632346072001244328:=Nat
def tw13306205669950538864:=Nat
def tw15006229964498876517:=Nat
def tw10238306654841616675:=Nat
def tw6591588219614692035:=Nat
def tw7084574701150776782:=Nat
def tw526006448682730648:=Nat
def tw6120821764192370451:=Nat
def tw17073048818925639527:=Nat
def tw7017676943449339024:=Nat
def tw11393889755604608094:=Nat
def tw415001454347142452:=Nat
def tw3215047467517329626:=Nat
def tw11682284965695547221:=Nat
def tw15988946120632703109:=Nat
def tw3439987354721038209:=Nat
def tw11277050285859865962:=Nat
def tw3686818286280031387:=Nat
def tw1362899731324880147:=Nat
def tw15230252121908796562:=Nat
def tw7570438465421872805:=Nat
def tw9194854385945715452:=Nat
def tw10771558773404822776:=Nat
def tw809100296596895522:=Nat
def tw15993740373137321520:=Nat
def tw4128685422344350799:=Nat
def tw6363059644035465691:=Nat
def tw9536383673982902164:=Nat
def tw12810844680811447757:=Nat
def tw9461817733258253503:=Nat
def tw17649234068388887300:=Nat
def tw16686094122123511518:=Nat
def tw16236052586733535199:=Nat
def tw13731689394645420433:=Nat
def tw573891514782295266:=Nat
def tw18260871933890153913:=Nat
def tw3304981505154302570:=Nat
def tw3835477607050156583:=Nat
def tw9020447828295971171:=Nat
def tw11472605019720256372:=Nat
def tw14770329965748594748:=Nat
def tw16056304750056823162:=Nat
def tw13438189866436315967:=Nat
def tw14121506699564819025:=Nat
def tw14974552455903104335:=Nat
def tw4821534118942286864:=Nat
def tw11801076132661565736:=Nat
def tw12880456487524725698:=Nat
def tw11803447404516458009:=Nat
def tw9983623704335506297:=Nat
def tw4253773075619265862:=Nat
def tw7663416505294534811:=Nat
def tw12786923342558524492:=Nat
def tw6965334903195470477:=Nat
def tw2852276914448082020:=Nat
def tw1290909107244041179:=Nat
def tw8410323860747449177:=Nat
def tw7353556537708270259:=Nat
def tw3537402216426283400:=Nat
def tw10076202622915484578:=Nat
def tw9217256974041397056:=Nat
def tw8987946579870551689:=Nat
def tw17706867436770285434:=Nat
def tw653216652518245114:=Nat
def tw12850546427625890693:=Nat
def tw5346651307462889235:=Nat
def tw4870900739112256971:=Nat
def tw14578221416291391668:=Nat
def tw1035528143408817030:=Nat
def tw14128852406862395382:=Nat
def tw10701090459594874539:=Nat
def tw14975415486612553359:=Nat
def tw13750848690658503207:=Nat
def tw17911667170334987329:=Nat
def tw2835756111494829219:=Nat
def tw9385751261418003425:=Nat
def tw2542223820614608823:=Nat
def tw9506514084796179752:=Nat
def tw9682876605176482612:=Nat
def tw14381278514546503830:=Nat
def tw5604818906928273532:=Nat
def tw9554282913057637900:=Nat
def tw7089939253041516095:=Nat
def tw16098745884427207019:=Nat
def tw11359028076504283135:=Nat
def tw5389845441512320904:=Nat
def tw6732173504617305332:=Nat
def tw1831082500676544832:=Nat
def tw9267548699829396872:=Nat
def tw13228312091682327614:=Nat
end PySem.W.Fast
set_option maxRecDepth 100000 in
set_option maxHeartbeats 0 in
theorem PySem.Challenge.cw_widewords_k63_small_machine_holds : PySem.Challenge.rw_widewords_k63_small_machine.Holds := by
 w_on;o_law;k_head;(case hw => w_witness2)
 k_fill
 refine WK.walk (l := PySem.Challenge.rw_widewords_k63_small_machine) rfl rfl (fun w h Y => PySem.W.kIn_of Y) ?F
 case F =>
  intro w mg fa h KX G hmg
  refine' WK.all_mk KX G hmg ?a0 ?l0 ?c0 ?p0 ?a1 ?l1 ?c1 ?p1 ?a2 ?l2 ?c2 ?p2 ?a3 ?l3 ?c3 ?p3 ?a4 ?l4 ?c4 ?p4 ?a5 ?l5 ?c5 ?p5 ?a6 ?l6 ?c6 ?p6 ?a7 ?l7 ?c7 ?p7 ?a8 ?l8 ?c8 ?p8 ?a9 ?l9 ?c9 ?p9 ?a10 ?l10 ?c10 ?p10 ?a11 ?l11 ?c11 ?p11 ?a12 ?l12 ?c12 ?p12 ?a13 ?l13 ?c13 ?p13 ?a14 ?l14 ?c14 ?p14 ?a15 ?l15 ?c15 ?p15 ?a16 ?l16 ?c16 ?p16 ?a17 ?l17 ?c17 ?p17 ?a18 ?l18 ?c18 ?p18 ?a19 ?l19 ?c19 ?p19 ?a20 ?l20 ?c20 ?p20 ?a21 ?l21 ?c21 ?p21 ?a22 ?l22 ?c22 ?p22 ?a23 ?l23 ?c23 ?p23 ?a24 ?l24 ?c24 ?p24 ?a25 ?l25 ?c25 ?p25 ?z_all ?z_bool ?z_enumerate ?z_int ?z_isinstance ?z_len ?z_list ?z_range ?z_tuple ?k_bool_n ?k_bool_b ?k_bool_i ?k_bool_s ?k_bool_p ?k_bool_l ?k_int_n ?k_int_b ?k_int_i ?k_int_s ?k_int_p ?k_int_l ?k_list_n ?k_list_b ?k_list_i ?k_list_s ?k_list_p ?k_list_l ?k_tuple_n ?k_tuple_b ?k_tuple_i ?k_tuple_s ?k_tuple_p ?k_tuple_l ?g_MOST_ROWS_a ?g_SMALL_ROWS_a ?g_SMALL_ROWS_l0 ?gm_a ?gm_l
  all_goals try delta WK.aN WK.cN WK.pN WK.lN
  (case a0 => k_is);(case l0 => k_is);(case c0 => k_is);(case p0 => k_is);(case a1 => k_is);(case l1 => k_is);(case c1 => k_is);(case p1 => k_is)
  (case a2 => k_is);(case l2 => k_is);(case c2 => k_is);(case p2 => k_is);(case a3 => k_is);(case l3 => k_is);(case c3 => k_is);(case p3 => k_is)
  (case a4 => k_is);(case l4 => k_is);(case c4 => k_is);(case p4 => k_is);(case a5 => k_is);(case l5 => k_is);(case c5 => k_is);(case p5 => k_is)
  (case a6 => k_is);(case l6 => k_is);(case c6 => k_is);(case p6 => k_is);(case a7 => k_is);(case l7 => k_is);(case c7 => k_is);(case p7 => k_is)
  (case a8 => k_is);(case l8 => k_is);(case c8 => k_is);(case p8 => k_is);(case a9 => k_is);(case l9 => k_is);(case c9 => k_is);(case p9 => k_is)
  (case a10 => k_is);(case l10 => k_is);(case c10 => k_is);(case p10 => k_is);(case a11 => k_is);(case l11 => k_is);(case c11 => k_is);(case p11 => k_is)
  (case a12 => k_is);(case l12 => k_is);(case c12 => k_is);(case p12 => k_is);(case a13 => k_is);(case l13 => k_is);(case c13 => k_is);(case p13 => k_is)
  (case a14 => k_is);(case l14 => k_is);(case c14 => k_is);(case p14 => k_is);(case a15 => k_is);(case l15 => k_is);(case c15 => k_is);(case p15 => k_is)
  (case a16 => k_is);(case l16 => k_is);(case c16 => k_is);(case p16 => k_is);(case a17 => k_is);(case l17 => k_is);(case c17 => k_is);(case p17 => k_is)
  (case a18 => k_is);(case l18 => k_is);(case c18 => k_is);(case p18 => k_is);(case a19 => k_is);(case l19 => k_is);(case c19 => k_is);(case p19 => k_is)
  (case a20 => k_is);(case l20 => k_is);(case c20 => k_is);(case p20 => k_is);(case a21 => k_is);(case l21 => k_is);(case c21 => k_is);(case p21 => k_is)
  (case a22 => k_is);(case l22 => k_is);(case c22 => k_is);(case p22 => k_is);(case a23 => k_is);(case l23 => k_is);(case c23 => k_is);(case p23 => k_is)
  (case a24 => k_is);(case l24 => k_is);(case c24 => k_is);(case p24 => k_is);(case a25 => k_is);(case l25 => k_is);(case c25 => k_is);(case p25 => k_is)
  (case z_all => k_is);(case z_bool => k_is);(case z_enumerate => k_is);(case z_int => k_is);(case z_isinstance => k_is);(case z_len => k_is);(case z_list => k_is);(case z_range => k_is)
  (case z_tuple => k_is);(case k_bool_n => kit_is);(case k_bool_b => kit_is);(case k_bool_i => kit_is);(case k_bool_s => kit_is);(case k_bool_p => kit_is);(case k_bool_l => kit_is);(case k_int_n => kit_is)
  (case k_int_b => kit_is);(case k_int_i => kit_is);(case k_int_s => kit_is);(case k_int_p => kit_is);(case k_int_l => kit_is);(case k_list_n => kit_is);(case k_list_b => kit_is);(case k_list_i => kit_is)
  (case k_list_s => kit_is);(case k_list_p => kit_is);(case k_list_l => kit_is);(case k_tuple_n => kit_is);(case k_tuple_b => kit_is);(case k_tuple_i => kit_is);(case k_tuple_s => kit_is);(case k_tuple_p => kit_is)
  (case k_tuple_l => kit_is);(case g_MOST_ROWS_a => k_is);(case g_SMALL_ROWS_a => k_is);(case g_SMALL_ROWS_l0 => k_is);(case gm_a => k_is);(case gm_l => k_is)
