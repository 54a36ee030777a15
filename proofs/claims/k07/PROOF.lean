import PyProof.Rows.All
import Wide.All
import OpenK.AllK
import Wide.FinOn
import HandS.ForMost
import HandS.IsInst
import HandS.StrMore
import HandS.TupAny
import HandS.TupMul
import HandS.Zip
import HandS.CallLocal
import HandS.Style
import HandS.Flow
import HandS.More
import HandS.Conv
import HandS.Exc
import HandS.ExcInit
import HandS.ExcField
import HandS.TryMany
import HandS.ExcOwn
import HandS.ExcValue
import HandS.ReplaceLit
import HandS.Replace
import HandS.TryOnly
import KE.KExcIs
import HandS.ReplaceList
import KE.IntTextLaws
import HandS.ExcIs
import KE.RegKIsAll
import PySem.Challenge.RW_inorderonce_k07_falls_keep_beginnings
set_option Elab.async false
set_option linter.all false
set_option maxRecDepth 100000
set_option maxHeartbeats 4000000
/-! errors whose base is Exception, with an own __init__ that keeps its arguments -/
namespace PySem.EX1
open PySem PySem.Spec PySem.W PySem.Calls PyProof.Rows PySem.HandSPX Builtin Builtin.ObjectAttr
/-- an mro: own classes, then Exception's -/
def ownEx : List Value → Bool
  | .ref _ :: r => ownEx r
  | [.type "Exception", .type "BaseException", .type "object"] => true
  | _ => false
inductive OwnEx : List Value → Prop
  | base : OwnEx [.type "Exception", .type "BaseException", .type "object"]
  | own (c : Addr) {r : List Value} : OwnEx r → OwnEx (.ref c :: r)
theorem ownEx_ok : ∀ l : List Value, ownEx l = true → OwnEx l
  | [], h => by cases h
  | .ref c :: r, h => .own c (ownEx_ok r h)
  | .none :: _, h => by cases h
  | .ellipsis :: _, h => by cases h
  | .notImplemented :: _, h => by cases h
  | .bool _ :: _, h => by cases h
  | .int _ _ :: _, h => by cases h
  | .float _ _ :: _, h => by cases h
  | .str _ _ :: _, h => by cases h
  | .bytes _ _ :: _, h => by cases h
  | .builtin _ :: _, h => by cases h
  | .type a :: r, h => by
    unfold ownEx at h
    split at h
    · rename_i e
      cases e
    · rename_i e
      rw [e]
      exact .base
    · cases h
theorem OwnEx.setable {l : List Value} (h : OwnEx l) (self : Value) : refuseLoop self "__setattr__" l = pure () := by
  induction h with
  | base => exact F.store_Exception.passes self
  | own c _ ih => rw [refuseLoop_ref, ih]
theorem OwnEx.has {l : List Value} (h : OwnEx l) (n : String) : l.contains (.type n) = [Value.type "Exception", .type "BaseException", .type "object"].contains (.type n) := by
  induction h with
  | base => rfl
  | own c _ ih =>
    rw [List.contains_cons, ih]
    rfl
theorem OwnEx.full {l : List Value} (h : OwnEx l) : l.isEmpty = false := by cases h <;> rfl
section
variable {prog : Program} {w : World} {A : Around} {E : Value → Shared → Prop} {R : Result → Shared → Prop} {hp : Heap} {g : Array GenState} {d : Drawn} {t : Nat} {os : OsState}
variable {K : W.Frag} {nm : Str} {tk : Tok} {v : Value} {x C dx : Addr} {fv : Array Value} {cd : ClassData} {od : Option Addr} {oo : Option Obj}
theorem exs_new (X : K.In hp) (hx : hp.get? x = some { cls := .ref C, data := .fields fv }) (hcd : W.clsIn K C = some cd) (hm : OwnEx cd.mro) (hh : cd.hasDict = true) (ha : W.findIn K (.ref C) nm = some none)
    (hq : ∀ h' tk' dx, (∀ b o, b ≠ x → hp.get? b = some o → h'.get? b = some o) → hp.objs.size ≤ dx → dx ≠ x →
      h'.get? x = some { cls := .ref C, dict := some dx, data := .fields fv } → h'.Ns1 dx (fun y => if y = nm then some v else none) → R (.ok (.ret .none)) ⟨h', g, d, tk', os⟩) :
    codeAny (model prog w) A (.call (.builtin "object.__setattr__") ⟨[.ref x, .str nm tk, v], []⟩) R ⟨hp, g, d, t, os⟩ := by
  have J : W.InstAt hp x { cls := .ref C, data := .fields fv } C none := ⟨hx, rfl, rfl, trivial⟩
  have xs : x ≠ hp.objs.size := Nat.ne_of_lt (Heap.lt_size hx)
  have obj : cd.mro.contains (.type "object") = true := (hm.has "object").trans (by decide +kernel)
  have lm : W.Looks (model prog w) hp (mroOf (.ref C)) cd.mro := (W.looks_clsIn X hcd).andThen .now
  have lc : W.Looks (model prog w) hp (classData C) cd := W.looks_clsIn X hcd
  have ln : W.Looks (model prog w) hp (storeTaker? none) none := .now
  have li : W.Looks (model prog w) hp (isInstance (.ref x) (.type "object")) true :=
    J.type.andThen (W.looks_mroIn X (by unfold W.mroIn; rw [hcd, Option.bind_some, if_neg (by rw [hm.full]; decide), obj]))
  refine codeAny_call_builtin F.store_object.slot.plain F.store_object.entry
    (@W.check_slot (model prog w) _ _ ⟨hp, g, d, t, os⟩ "object.__setattr__" "object" "__setattr__" (.ref x) [.str nm tk, v] [] _ F.store_object.kind F.store_object.split li
      (F.store_object.args (.ref x) (.str nm tk) v) ?_)
  rw [W.osa_eq, refuse_eq]
  refine wpAny_bind (wpAny_bind (J.type.at (wpAny_bind (lm.at ?_))))
  rw [hm.setable]
  refine wpAny_pure (wpAny_bind (J.type.at (wpAny_bind ((W.looks_findIn X ha).at (wpAny_bind (ln.at ?_))))))
  show wpAny _ _ (storeInOwnDict (.ref x) (.ref C) (.str nm tk) nm v false) _ _ _
  obtain ⟨c1, c2, c3, c4, c5, c6, c7, c8, c9, c10, c11⟩ := cd
  have e6 : c6 = true := hh
  subst e6
  unfold storeInOwnDict ownDictForStores
  repeat (first | with_reducible refine store_in_new ?_ ?_ | with_reducible refine wpAny_loadPart_at hx ?_ | with_reducible refine lc.at ?_ | wp_step)
  · exact ⟨_, #[], _, (Heap.get?_update_ne _ _ _ _ xs.symm).trans (Heap.get?_push_at rfl rfl), rfl, fun e q => absurd q (by simp), fun _ => rfl⟩
  · intro h' tk' n1 sb
    have hx1 := Heap.get?_push_of_some (h := hp) { cls := .type "dict", data := .dict #[] } hx
    exact hq h' tk' hp.objs.size (fun b o ne q => (sb.2 b (Nat.ne_of_lt (Heap.lt_size q))).trans ((Heap.get?_update_ne _ _ _ _ ne).trans (Heap.get?_push_of_some _ q))) (Nat.le_refl _) xs.symm
      ((sb.2 x xs).trans (Heap.get?_update_self _ hx1 rfl)) n1
/-- a further field -/
theorem exs_old {m0 : Str → Option Value} {nl : List Str} (X : K.In hp) (hx : hp.get? x = some { cls := .ref C, dict := some dx, data := .fields fv }) (hns : hp.Ns1 dx m0) (hw : Within m0 nl) (hz : nl.length ≤ 1000)
    (hcd : W.clsIn K C = some cd) (hm : OwnEx cd.mro) (hh : cd.hasDict = true) (ha : W.findIn K (.ref C) nm = some none)
    (hq : ∀ h' tk', (∀ b o, b ≠ dx → hp.get? b = some o → h'.get? b = some o) → h'.Ns1 dx (fun y => if y = nm then some v else m0 y) → R (.ok (.ret .none)) ⟨h', g, d, tk', os⟩) :
    codeAny (model prog w) A (.call (.builtin "object.__setattr__") ⟨[.ref x, .str nm tk, v], []⟩) R ⟨hp, g, d, t, os⟩ := by
  obtain ⟨oD, _, _, hoD, _, _⟩ := hns.count hw
  have J : W.InstAt hp x { cls := .ref C, dict := some dx, data := .fields fv } C (some oD) := ⟨hx, rfl, rfl, hoD⟩
  have obj : cd.mro.contains (.type "object") = true := (hm.has "object").trans (by decide +kernel)
  have lm : W.Looks (model prog w) hp (mroOf (.ref C)) cd.mro := (W.looks_clsIn X hcd).andThen .now
  have lc : W.Looks (model prog w) hp (classData C) cd := W.looks_clsIn X hcd
  have ln : W.Looks (model prog w) hp (storeTaker? none) none := .now
  have li : W.Looks (model prog w) hp (isInstance (.ref x) (.type "object")) true :=
    J.type.andThen (W.looks_mroIn X (by unfold W.mroIn; rw [hcd, Option.bind_some, if_neg (by rw [hm.full]; decide), obj]))
  refine codeAny_call_builtin F.store_object.slot.plain F.store_object.entry
    (@W.check_slot (model prog w) _ _ ⟨hp, g, d, t, os⟩ "object.__setattr__" "object" "__setattr__" (.ref x) [.str nm tk, v] [] _ F.store_object.kind F.store_object.split li
      (F.store_object.args (.ref x) (.str nm tk) v) ?_)
  rw [W.osa_eq, refuse_eq]
  refine wpAny_bind (wpAny_bind (J.type.at (wpAny_bind (lm.at ?_))))
  rw [hm.setable]
  refine wpAny_pure (wpAny_bind (J.type.at (wpAny_bind ((W.looks_findIn X ha).at (wpAny_bind (ln.at ?_))))))
  show wpAny _ _ (storeInOwnDict (.ref x) (.ref C) (.str nm tk) nm v false) _ _ _
  obtain ⟨c1, c2, c3, c4, c5, c6, c7, c8, c9, c10, c11⟩ := cd
  have e6 : c6 = true := hh
  subst e6
  unfold storeInOwnDict ownDictForStores
  repeat (first | with_reducible refine OEX.store_in_old hns hw hz ?_ | with_reducible refine wpAny_loadPart_at hx ?_ | with_reducible refine lc.at ?_ | wp_step)
  exact fun h' tk' n1 sb => hq h' tk' (fun b o ne q => (sb.2 b ne).trans q) n1
end
end PySem.EX1

namespace W2
open PySem PySem.Spec PyProof.Rows L2 PySem.EX1
/-- what the written part says of such an error class -/
structure ErC (K : PySem.W.Frag) (C : Addr) : Prop where
  cls : ∃ nm q N bs bm sn sub ab col dd k0 k1 k2 k3 k5, K.lookup C = some (excClassObj nm q C N bs bm true sn sub ab col dd k0 k1 k2 k3 k5 "Exception.__new__") ∧ ownEx bm = true
  sa : PySem.W.findIn K (.ref C) "__setattr__" = some (some (.builtin "object.__setattr__"))
  exC : PySem.W.subIn K (.ref C) (.type "BaseException") = some true
  tyC : PySem.W.typeIn K (.ref C) = some (.type "type")
  kC : PySem.W.keepIn K (.ref C) = true
section
variable {X : Cx} {pins : List (Addr × Obj)} {σ : L2.St} {H : Hp} {s : Shared} {a C dx : Addr} {f : Str} {y : V} {u : Value} {fs : List (Str × V)} {Q : Unit → Shared → Prop} {E : Value → Shared → Prop} {A : Around}
theorem er_new (T : ErC X.K C) (I : Inv X pins σ H s) (e : H a = some (exo a C none)) (hno : PySem.W.findIn X.K (.ref C) f = some none) (ry : RelV y u)
    (h : ∀ dx s', H dx = none → dx ≠ a → Inv X pins σ (upd (upd H dx (exd dx [(f, y)])) a (exo a C (some dx))) s' → Q () s') : wpAny (model X.prog X.w) A (setAttr (.ref a) f u) Q E s := by
  obtain ⟨nm, q, N, bs, bm, sn, sub, ab, col, dd, k0, k1, k2, k3, k5, hC, hbm⟩ := T.cls
  have hcl : PySem.W.clsIn X.K C = some ⟨nm, bs, .ref C :: bm, N, q, true, sn, sub, ab, col, false⟩ := by
    unfold PySem.W.clsIn
    rw [hC]
  obtain ⟨t1, ho⟩ := exo_at I.hok e
  obtain ⟨hp, g, d, t, os⟩ := s
  refine PySem.W.set_plain I.kIn (ox := ⟨.ref C, none, .fields #[.ref t1, .none, .none, .none, .bool false, .none], #[]⟩) (od := none) ⟨ho, rfl, rfl, trivial⟩ T.sa ?_
  refine exs_new I.kIn ho hcl (.own C (ownEx_ok _ hbm)) rfl hno fun h' tk' dx k dn dne hx hn => ?_
  have fresh : H dx = none := I.hok.fresh dn
  have off : ∀ {b : Addr} {o : Obj}, hp.get? b = some o → b ≠ dx := fun z => Nat.ne_of_lt (Nat.lt_of_lt_of_le (Heap.lt_size z) dn)
  have offa : ∀ {b : Addr}, H b = none → b ≠ a := fun n z => by
    rw [z, e] at n
    cases n
  have un : Un X.fs [] H (upd (upd H dx (exd dx [(f, y)])) a (exo a C (some dx))) hp h' :=
    ⟨fun b o z n _ _ => k b o (offa n) z, fun b o z n _ _ => ⟨o.slots, k b o (offa n) z⟩, fun b o z n _ => by rw [upd_ne (offa n), upd_ne (off z)]; exact n,
      fun b o z _ => by
        by_cases hb : b = a
        · exact ⟨_, by rw [hb]; exact hx⟩
        · exact ⟨o, k b o hb z⟩,
      fun b xs z => by rw [upd_ne (at_ne e z exo_tup), upd_ne (ne_of_none z fresh)]; exact z,
      fun b o v z => by rw [upd_ne (at_ne e z exo_frz), upd_ne (ne_of_none z fresh)]; exact z,
      fun b ps z => ⟨#[], by rw [upd_ne (at_ne e z exo_tbl), upd_ne (ne_of_none z fresh), z]; simp⟩⟩
  refine h dx _ fresh dne (I.un (t' := tk') un fun b o z => ?_)
  by_cases hb : b = a
  · subst hb
    rw [upd_same] at z
    cases z
    exact exo_ok hx
  rw [upd_ne hb] at z
  by_cases hd : b = dx
  · subst hd
    rw [upd_same] at z
    cases z
    exact exd_ok hn (relO_put (fs := []) ry fun g => True.intro)
  rw [upd_ne hd] at z
  refine (I.hok b o z).stay (fun c v hc r => k c v ?_ r) (fun c hc => ?_) fun c xs hc => ?_
  · rcases hc with hc | hc
    · rw [hc]; exact hb
    · exact at_ne e hc exo_own
  · rw [upd_ne (at_ne e hc exo_own), upd_ne (ne_of_none hc fresh)]; exact hc
  · rw [upd_ne (at_ne e hc exo_tup), upd_ne (ne_of_none hc fresh)]; exact hc
theorem er_old (T : ErC X.K C) (I : Inv X pins σ H s) (e : H a = some (exo a C (some dx))) (ed : H dx = some (exd dx fs)) (hl : fs.length ≤ 900) (hno : PySem.W.findIn X.K (.ref C) f = some none) (ry : RelV y u)
    (h : ∀ s', Inv X pins σ (upd H dx (exd dx ((f, y) :: fs))) s' → Q () s') : wpAny (model X.prog X.w) A (setAttr (.ref a) f u) Q E s := by
  obtain ⟨nm, q, N, bs, bm, sn, sub, ab, col, dd, k0, k1, k2, k3, k5, hC, hbm⟩ := T.cls
  have hcl : PySem.W.clsIn X.K C = some ⟨nm, bs, .ref C :: bm, N, q, true, sn, sub, ab, col, false⟩ := by
    unfold PySem.W.clsIn
    rw [hC]
  obtain ⟨t1, ho⟩ := exo_at I.hok e
  obtain ⟨mA, hns, rel⟩ := exd_at I.hok ed
  obtain ⟨hp, g, d, t, os⟩ := s
  obtain ⟨oD, _, _, hoD, _, _⟩ := hns.count (within_of rel)
  refine PySem.W.set_plain I.kIn (ox := ⟨.ref C, some dx, .fields #[.ref t1, .none, .none, .none, .bool false, .none], #[]⟩) (od := some oD) ⟨ho, rfl, rfl, hoD⟩ T.sa ?_
  refine exs_old I.kIn ho hns (within_of rel) (by rw [List.length_map]; omega) hcl (.own C (ownEx_ok _ hbm)) rfl hno fun h' tk' k hn => ?_
  obtain ⟨o1, _, _, e1, _⟩ := id hn
  exact h _ (I.write (t' := tk') (x := dx) (e := dx) (o := exd dx ((f, y) :: fs)) (by rw [ed]; exact True.intro) (.inl rfl) k ⟨o1, e1⟩ (exd_ok hn (relO_put ry rel)))
end
/-- self.f = e in the __init__ of an error -/
def tEr (K : PySem.W.Frag) (f : Str) (to te : TE) : TS := fun D σ H => te σ H fun y H1 => to σ H1 fun x H2 => ∃ a C : Addr, x = .ref a ∧ ErC K C ∧ PySem.W.findIn K (.ref C) f = some none ∧
  ((H2 a = some (exo a C none) ∧ ∀ dx, H2 dx = none → dx ≠ a → D.nx σ (upd (upd H2 dx (exd dx [(f, y)])) a (exo a C (some dx)))) ∨
    ∃ (dx : Addr) (fs : List (Str × V)), H2 a = some (exo a C (some dx)) ∧ H2 dx = some (exd dx fs) ∧ fs.length ≤ 900 ∧ D.nx σ (upd H2 dx (exd dx ((f, y) :: fs))))
theorem ps_er {X : Cx} {o e : Expr} {to te : TE} {f : Str} {p' pos : Pos} (ho : PE X o to) (he : PE X e te) (hs : swapsWith e (some (.Attribute o f p')) pos.line X.env = pure false := by rfl) : PS X (.Assign [.Attribute o f p'] e pos) (tEr X.K f to te) := by
  constructor
  intro pins s σ H D I h
  refine plainObj_wpAny_Assign_Attribute (thn (he.run pins s σ H _ I h) fun v s1 ⟨y, H1, I1, r1, q1⟩ => thn (ho.run pins s1 σ H1 _ I1 q1) ?_) hs
  rintro u s2 ⟨x, H2, I2, r2, a, C, rfl, T, hno, q⟩
  obtain rfl : u = Value.ref a := r2
  rcases q with ⟨ea, q⟩ | ⟨dx, fs, ea, ed, hl, q⟩
  · exact er_new T I2 ea hno r1 fun dx s' n ne J => ⟨σ, _, J, q dx n ne⟩
  · exact er_old T I2 ea ed hl hno r1 fun s' J => ⟨σ, _, J, q⟩
end W2

namespace W2
open PySem PySem.Spec PyProof.Rows L2
/-! ### room with the guards told; what is left of it in an except suite -/
structure Rm (k : Nat) (A : Around) : Prop where
  r : Room k A
  g : A.guards = some []
theorem Rm.mono {j k : Nat} {A : Around} (h : Rm k A) (le : j ≤ k) : Rm j A := ⟨h.r.mono le, h.g⟩
structure Rg (A : Around) : Prop where
  un : A.units + 200 < cLine
  g : A.guards = some []
theorem Rm.rg {k : Nat} {A : Around} (h : Rm k A) : Rg A := ⟨by have := h.r.un; omega, h.g⟩
theorem Rg.mark {A : Around} (h : Rg A) (hd : Option Value) : Rg (A.mark hd) := ⟨h.un, h.g⟩
theorem Rm.make {k : Nat} {A : Around} (r : Rm (k + 1) A) (C : Addr) (us : List Value) (kw : List (Str × Value)) : Rm k (A.under (.builtin "type.__call__" ⟨.ref C :: us, kw⟩)) := ⟨r.r.make C us kw, by
  show pushGuards (Code.guards (.builtin "type.__call__" ⟨.ref C :: us, kw⟩)) A.guards = some []
  rw [r.g]
  have : Code.guards (.builtin "type.__call__" ⟨.ref C :: us, kw⟩) = [] := by
    unfold Code.guards
    rw [if_neg]
    show ¬ guardIds.contains "type.__call__" = true
    decide +kernel
  rw [this]
  rfl⟩
/-- a def's promise; errors may leave it -/
structure FnX (P : Program) (w : World) (K : PySem.W.Frag) (mg : Str → Option Value) (base : Heap) (k : Nat) (f : Addr) (fd : FuncData) (ps : List Str) (sp : Sp) : Prop where
  len : ∀ vs H Q E, sp vs H Q E → vs.length = ps.length
  run : ∀ (A : Around) (o : List Env) (s : Shared) (H : Hp) (ar : Args) (us : List Value) (vs : List V) (Q : VK) (E : XK), Rm k A → Env0 P w K mg base A o s H → BindsTo s fd ar (ps.zip us) → Vals vs us → sp vs H Q E →
    codeAny (model P w) A (.call (.ref f) ar) (CR (L2.CX P w) o P w H s Q E) s
section
variable {P : Program} {w : World} {K : PySem.W.Frag} {mg : Str → Option Value} {base : Heap}
theorem FnX.mono {j k : Nat} {f : Addr} {fd : FuncData} {ps : List Str} {sp : Sp} (F : FnX P w K mg base j f fd ps sp) (h : j ≤ k) : FnX P w K mg base k f fd ps sp := ⟨F.len, fun A o s H ar us vs Q E hr => F.run A o s H ar us vs Q E (hr.mono h)⟩
theorem fnX_of {x qual : Str} {st : Stmt} {f : Addr} {fd : FuncData} {N ps : List Str} {k : Nat} {sp : Sp} (F : Fun K x qual st f fd) (S : FnScope N ps (defScope st)) (len : ∀ vs H Q E, sp vs H Q E → vs.length = ps.length)
    (body : ∀ (c : Value) (A : Around) (o : List Env) (s : Shared) (H : Hp) (vs : List V) (Q : VK) (E : XK), Rm k (A.deeper (envOfC qual (defScope st) s.heap.objs.size f c)) → sp vs H Q E →
      ∃ t, PSs (cxOf (L2.CX P w) P w K mg base N qual (defScope st) f c A o s H E) (defBody st) t ∧ t { nx := fun _ H' => Q .non H', rt := Q } (start N vs) H) : FnX P w K mg base (k + 1) f fd ps sp := by
  obtain ⟨oc, od, kV, doc, pm, an, c, ct, osl, rfl, lk, hcd⟩ := F.ex
  refine ⟨len, ?_⟩
  intro A o s H ar us vs Q E hr e0 hb r hsp
  have kb : ∀ b ob, base.get? b = some ob → s.heap.get? b = some ob := fun b ob e => (e0.bs b ob e).1
  have KX : K.In s.heap := e0.mod.kin.keeps kb
  have kinds : ∀ y ∈ ps.zip us, (defScope st).names.lookup y.1 = some .local ∨ ((defScope st).names.lookup y.1 = some .cell ∧ ((cellsFrom (s.heap.objs.size + 1) (defScope st).names []).lookup y.1).isSome = true) := by
    intro y hy
    rcases S.par y.1 (List.of_mem_zip (show (y.1, y.2) ∈ ps.zip us from hy)).1 with q | q
    · exact .inl q
    · exact .inr ⟨q, PySem.W.cellsFrom_some _ _ _ (Or.inl q)⟩
  refine codeAny_call_function hr.r.depth (KX _ _ lk) rfl S.co S.gen rfl (PySem.W.codeRec_of KX hcd) (hb _ _ _ _ ?_)
  refine wpAny_newFunctionEnv_cells S.kind kinds fun env he s1 x => ?_
  subst he
  refine ⟨(e0.mod.nolimit.keeps kb).keeps x.toInCall.keep, codeAny_func ?_⟩
  obtain ⟨t, ht, hq⟩ := body c A o s H vs Q E ⟨hr.r.deeper _, hr.g⟩ hsp
  have I := inv_start (CX := L2.CX P w) (P := P) (w := w) (K := K) (mg := mg) (base := base) (qual := qual) (f := f) (cd := c) (E := E) S hr.r.hd e0 (len _ _ _ _ hsp) r x
  refine wpAny_mono (ht.run [] s1 (start N vs) H _ I hq) (fun fl s' hs => ?_) fun e s' hs => hs
  cases fl with
  | ret u =>
    obtain ⟨v, σ', H', J, rv, q⟩ := hs
    exact ⟨v, H', J.os, J.bare, J.base, J.hok, rv, q⟩
  | next =>
    obtain ⟨σ', H', J, q⟩ := hs
    exact ⟨.non, H', J.os, J.bare, J.base, J.hok, rfl, q⟩
  | brk => exact (hs.elim fun _ h => h.elim fun _ h => False.elim h.2)
  | cont => exact (hs.elim fun _ h => h.elim fun _ h => False.elim h.2)
end
section
variable {X : Cx} {k : Nat} {f : Addr} {fd : FuncData} {ps : List Str} {sp : Sp} {E : L2.St → XK} {W : WX} {x : Str} {p pos : Pos} {e : Expr} {es : List Expr} {t : TA}
theorem run_X {pins : List (Addr × Obj)} {σ : L2.St} {H : Hp} {s : Shared} {Q : VK} {us : List Value} {vs : List V} {ar : Args} (F : FnX X.prog X.w X.K X.mg X.base k f fd ps sp) (hr : Rm k X.A) (tk : Takes X W)
    (hb : BindsTo s fd ar (ps.zip us)) (I : Inv X pins σ H s) (r : Vals vs us) (h : sp vs H Q (WE W σ)) :
    codeAny (model X.prog X.w) X.A (.call (.ref f) ar) (fun r s' => match r with | .ok (.ret u) => EP X pins σ Q u s' | .ok _ => False | .error e => X.xe e s') s := by
  refine codeAny_mono (F.run X.A X.stack s H ar us vs Q _ hr I.env0 hb r h) fun r s' hq => ?_
  match r, hq with
  | .error e, hq => exact passAt tk σ pins H s e s' I hq
  | .ok (.ret u), hq => exact I.after hq
theorem run_Xc {pins : List (Addr × Obj)} {σ : L2.St} {H : Hp} {s : Shared} {Q : VK} {us : List Value} {vs : List V} (F : FnX X.prog X.w X.K X.mg X.base k f fd ps sp) (hr : Rm k X.A) (tk : Takes X W)
    (hb : Binds X.K fd ps []) (I : Inv X pins σ H s) (r : Vals vs us) (h : sp vs H Q (WE W σ)) : wpAny (model X.prog X.w) X.A (call (.ref f) us) (EP X pins σ Q) X.xe s := by
  have hl : (us ++ []).length = ps.length := by
    rw [List.append_nil, ← r.length]
    exact F.len _ _ _ _ h
  have hz := hb s us I.kIn hl
  rw [List.append_nil] at hz
  refine wpAny_call (codeAny_mono (run_X F hr tk hz I r h) fun r s' hq => ?_)
  match r, hq with
  | .error e, hq => exact hq
  | .ok (.ret u), hq => exact hq
theorem pe_X (F : FnX X.prog X.w X.K X.mg X.base k f fd ps sp) (hr : Rm k X.A) (tk : Takes X W) (hg : Gl X x) (hm : X.mg x = some (.ref f)) (hk : PySem.W.keepIn X.K (.ref f) = true) (hb : Binds X.K fd ps []) (ha : PA X (e :: es) t)
    (hdb : (x == ("__debug__" : Str)) = false := by decide) (he : starEach (e :: es) X.env = (false, eval e X.env) :: starEach es X.env := by rfl) (hpl : (backTo pos (starEach es X.env)).any (·.1) = false := by rfl) :
    PE X (.Call (.Name x p) (e :: es) [] pos) (fun σ H Q => t σ H fun vs H1 => sp vs H1 Q (WE W σ)) := by
  constructor
  intro pins s σ H Q I h
  refine wpAny_Call_Name_kw (ld_glob I hg hm ?_ hdb)
  refine PySem.W.callWith_K (h₀ := X.base) I.ok.mod.kin hk (thn (ha.run pos pins s σ H _ I h) ?_) he hpl
  rintro us s1 ⟨vs, H1, I1, r, q⟩
  exact ⟨I1.kIn, run_Xc F hr tk hb I1 r q⟩
theorem pe_X0 (F : FnX X.prog X.w X.K X.mg X.base k f fd ps sp) (hr : Rm k X.A) (tk : Takes X W) (hg : Gl X x) (hm : X.mg x = some (.ref f)) (hk : PySem.W.keepIn X.K (.ref f) = true) (hb : Binds X.K fd ps [])
    (hdb : (x == ("__debug__" : Str)) = false := by decide) : PE X (.Call (.Name x p) [] [] pos) (fun σ H Q => sp [] H Q (WE W σ)) := by
  constructor
  intro pins s σ H Q I h
  refine wpAny_Call_Name_kw (ld_glob I hg hm ?_ hdb)
  exact PySem.W.callWith_K0 I.kIn hk (run_Xc (us := []) F hr tk hb I .nil h)
/-- C(e, ..), C an error class with an own __init__ -/
theorem pmk_er {C fI : Addr} (T : ErC X.K C) (iC : PySem.W.findIn X.K (.ref C) "__init__" = some (some (.ref fI))) (tI : PySem.W.typeIn X.K (.ref fI) = some (.type "function")) (F : FnX X.prog X.w X.K X.mg X.base k fI fd ps sp) (hr : Rm (k + 1) X.A)
    (hb : Binds X.K fd ps []) (hg : Gl X x) (hm : X.mg x = some (.ref C)) (ha : PA X (e :: es) t)
    (hdb : (x == ("__debug__" : Str)) = false := by decide) (he : starEach (e :: es) X.env = (false, eval e X.env) :: starEach es X.env := by rfl) (hpl : (backTo pos (starEach es X.env)).any (·.1) = false := by rfl) :
    PMk X (.Call (.Name x p) (e :: es) [] pos) (tMkO C sp [] t) := by
  intro pins s σ H Q I h
  obtain ⟨nm, q, N, bs, bm, sn, sub, ab, col, dd, k0, k1, k2, k3, k5, hC, hbm⟩ := T.cls
  have hm2 := PySem.EX1.ownEx_ok _ hbm
  refine wpAny_Call_Name_kw (ld_glob I hg hm ?_ hdb)
  refine PySem.W.callWith_K (h₀ := X.base) I.ok.mod.kin T.kC (thn (ha.run pos pins s σ H _ I h) fun us s1 ⟨vs, H1, I1, r1, hz, q1⟩ => ⟨I1.kIn, ?_⟩) he hpl
  show wpAny _ _ (call (.ref C) us) _ _ _
  obtain ⟨hp, g, dr, tk, os⟩ := s1
  have hsz : hp.objs.size ≤ hp.objs.size + 1 := Nat.le_succ _
  have hq := q1 (hp.objs.size + 1) (I1.hok.fresh hsz)
  have kk : ∀ b o, hp.get? b = some o → ((hp.push (PySem.W.kdv_tup us)).push (PySem.HandSPX.excO C hp.objs.size)).get? b = some o := fun b o e => Heap.get?_push_of_some _ (Heap.get?_push_of_some _ e)
  have hget : ((hp.push (PySem.W.kdv_tup us)).push (PySem.HandSPX.excO C hp.objs.size)).get? (hp.objs.size + 1) = some (PySem.HandSPX.excO C hp.objs.size) := by heap_get
  have I2 := I1.laid (t' := tk) (a := hp.objs.size + 1) (o := exo (hp.objs.size + 1) C none) (h' := (hp.push (PySem.W.kdv_tup us)).push (PySem.HandSPX.excO C hp.objs.size)) kk hsz (exo_ok hget)
  have r2 : Vals (V.ref (hp.objs.size + 1) :: (vs ++ [])) (Value.ref (hp.objs.size + 1) :: us) := .cons rfl (by rw [List.append_nil]; exact r1)
  have hl : (Value.ref (hp.objs.size + 1) :: us ++ []).length = ps.length := by
    rw [List.append_nil, ← r2.length]
    exact F.len _ _ _ _ hq
  have hus : us.length ≤ sizeLine := by
    rw [← Paired.length r1, sizeLine_eq]
    omega
  have hbz := hb _ (Value.ref (hp.objs.size + 1) :: us) I2.kIn hl
  rw [List.append_nil] at hbz
  refine wpAny_call (PySem.HandSPX.call_own PySem.F.excBase_Exception (fun Y => hm2.has Y) (I1.kIn _ _ hC) (PySem.W.looks_findIn I1.kIn iC) (fun self => PySem.W.bind_fn I1.kIn self tI) hus
    (codeAny_mono (F.run _ X.stack _ _ _ _ _ _ (fun _ _ _ => False) (hr.make C us []) (I2.env0.make C us []) hbz r2 hq) fun r s' hq' => ?_))
  match r, hq' with
  | .error er, hq' =>
    obtain ⟨_, _, _, _, _, _, _, _, _, _, _, _, z⟩ := hq'
    exact z.elim
  | .ok (.ret u), hq' =>
    obtain ⟨v, H2, os2, bare2, un2, hok2, rv, ev, d, fs, ea, ed, hd1, q2⟩ := hq'
    subst ev
    obtain ⟨h2, g2, d2, t2, os'⟩ := s'
    exact ⟨rv, mk_end (raises_own T.exC T.tyC) I1 hsz kk un2 hok2 os2 bare2 ea ed hd1 q2⟩
end
end W2

namespace W2
open PySem PySem.Spec PyProof.Rows L2
/-! ### try with any clauses "except C:" and "except C as n:" -/
abbrev Ts := Addr → Value → Option Addr → TS
structure Cl where
  c : Value
  i : Option Nat
  ts : Ts
/-- what is wanted behind a suite: the clause's name is gone -/
def dropN (D : Ends) : Option Nat → Ends
  | none => D
  | some i => { nx := fun σ H => D.nx (σ.set i none) H, rt := D.rt, bk := fun σ H => D.bk (σ.set i none) H, ct := fun σ H => D.ct (σ.set i none) H }
def setN (σ : L2.St) (a : Addr) : Option Nat → L2.St
  | none => σ
  | some i => σ.set i (some (.ref a))
def wCl (K : PySem.W.Frag) (Wout : WX) (D : Ends) : List Cl → WX
  | [] => Wout
  | l :: r => fun cls d σ H => ∃ b, PySem.W.exmOne K cls l.c = some b ∧ (b = true → ∀ a, H a = none → l.ts a cls d (dropN D l.i) (setN σ a l.i) H) ∧ (b = false → wCl K Wout D r cls d σ H)
inductive ClsOk (X : Cx) : List ExceptHandler → List Cl → Prop
  | nil : ClsOk X [] []
  | cons {x : Str} {c : Value} {ts : Ts} {b₀ : Stmt} {suite : List Stmt} {np pos' : Pos} {hds : List ExceptHandler} {l : List Cl} (hc : Names X x c)
      (hsu : ∀ (a : Addr) (oe : Obj) (cls : Value) (d : Option Addr) (pn : List (Addr × Obj)), Zc cls d oe → (∃ vs, oe.data = .fields vs) → PSs (X.suite a ((a, oe) :: pn)) (b₀ :: suite) (ts a cls d)) (r : ClsOk X hds l) :
      ClsOk X (.ExceptHandler (some (.Name x np)) none (b₀ :: suite) pos' :: hds) (⟨c, none, ts⟩ :: l)
  | as {x n : Str} {i : Nat} {c : Value} {ts : Ts} {b₀ : Stmt} {suite : List Stmt} {np pos' : Pos} {hds : List ExceptHandler} {l : List Cl} (hc : Names X x c) (hi : X.N[i]? = some n) (hln : X.env.kindOf n = some .local)
      (hsu : ∀ (a : Addr) (oe : Obj) (cls : Value) (d : Option Addr) (pn : List (Addr × Obj)), Zc cls d oe → (∃ vs, oe.data = .fields vs) → PSs (X.suite a ((a, oe) :: pn)) (b₀ :: suite) (ts a cls d)) (r : ClsOk X hds l) :
      ClsOk X (.ExceptHandler (some (.Name x np)) (some n) (b₀ :: suite) pos' :: hds) (⟨c, some i, ts⟩ :: l)
section
variable {X : Cx} {body : List Stmt} {h₀ : ExceptHandler} {hds : List ExceptHandler} {l : List Cl} {pos : Pos} {tb : WX → TS} {Wout : WX}
theorem ps_try (hs : X.stack = X.env :: X.outer) (hf : X.env.frame = some X.env.locals) (hN : X.N.Nodup) (tk : Takes X Wout)
    (hb : ∀ (W : WX) (pn : List (Addr × Obj)) (xe : Value → Shared → Prop), Takes (X.tr pn xe) W → PassesOwn (model X.prog X.w) X.A X.env xe → PSs (X.tr pn xe) body (tb W)) (hh : ClsOk X (h₀ :: hds) l) :
    PS X (.Try body (h₀ :: hds) [] [] pos) (fun D σ H => tb (wCl X.K Wout D l) D σ H) := by
  constructor
  intro pins s σ H D I h
  have ok := I.ok
  have hfr : X.A.frames = some (X.env :: X.outer) := by rw [ok.frames, hs]
  refine wpAny_Try_except (wpAny_mono ((hb (wCl X.K Wout D l) (X.pn ++ pins) (fun e s₁ => wpAny (model X.prog X.w) X.A (noteFrame e X.env) (fun _ s₂ => wpAny (model X.prog X.w) X.A (setFlight e none)
    (fun _ s₃ => wpAny (model X.prog X.w) X.A (handleBy e X.env (h₀ :: hds)) (SP X pins D) X.xe s₃) X.xe s₂) X.xe s₁) (fun u s' xx => ?_) PassesOwn.looking).run [] s σ H D (I.toTry _) h) (fun f s1 hsp => ?_) (fun e s1 he => he))
  · obtain ⟨a, B, sI, pins', σ', H', cls, d, rfl, J', nb, up, sky, na, os, ag, w⟩ := xx
    have J : Inv X pins σ' H' sI := J'.ofTry ok
    have sky' : Sky B (X.env :: X.outer) a (Zc cls d) X.env.locals s'.heap := hs ▸ sky
    show wpAny (model X.prog X.w) X.A (noteFrame (.ref a) X.env) _ _ _
    refine Sky.land Zc.steady hfr hf sky' fun h3 fl3 up3 => ?_
    have J3 : Inv X pins σ' H' { s' with heap := h3 } := J.landed nb fl3.1 (up.trans up3) os ag
    obtain ⟨oe3, vs3, he3, hz3, hd3⟩ := fl3.there
    have nfr : a ∉ frs (X.env :: X.outer) := fun hm => by
      obtain ⟨_, o', e', hnf⟩ := fl3.2.2.1.mem hm
      rw [he3] at e'
      cases e'
      exact hnf _ hd3
    have nL : a ≠ X.env.locals := fun z => nfr (List.mem_filterMap.mpr ⟨X.env, List.mem_cons_self, by rw [hf, z]⟩)
    have nF : a ∉ X.fs := fun hm => by
      obtain ⟨e, he, q⟩ := List.mem_filterMap.mp hm
      exact nfr (List.mem_filterMap.mpr ⟨e, List.mem_cons_of_mem _ he, q⟩)
    have S3 := J3.suite he3 hd3 na nL nF
    have LT : PySem.W.Looks (model X.prog X.w) h3 (typeOf (.ref a)) cls := fun A Q E s k q => wpAny_typeOf_ref (k _ _ he3) (by rw [hz3.1]; exact q)
    have test : ∀ {x : Str} {c : Value} {np : Pos} {Q : Value → Shared → Prop} {E : Value → Shared → Prop}, Names X x c → Q c { s' with heap := h3 } → wpAny (model X.prog X.w) (X.A.mark (some (.ref a))) (eval (.Name x np) X.env) Q E { s' with heap := h3 } := by
      intro x c np Q E hc q
      obtain ⟨hg, hdbg, hm | ⟨hm, hv, hnn⟩⟩ := hc
      · exact ld_glob (X := X.suite a ((a, oe3) :: (X.pn ++ pins))) S3 hg hm q hdbg
      · exact ld_blt (X := X.suite a ((a, oe3) :: (X.pn ++ pins))) S3 hg hm hv q hnn hdbg
    have go : ∀ {hds' : List ExceptHandler} {l' : List Cl}, ClsOk X hds' l' → wCl X.K Wout D l' cls d σ' H' → wpAny (model X.prog X.w) X.A (handleBy (.ref a) X.env hds') (SP X pins D) X.xe { s' with heap := h3 } := by
      intro hds' l' hk
      induction hk with
      | nil =>
        intro w
        refine wpAny_handleBy_nil ?_
        obtain ⟨_, _, _, oe, vs, T, _, _, he, _, hd, h1, _⟩ := id fl3
        have fin : wpAny (model X.prog X.w) X.A (setFlight (.ref a) X.env.frame) (fun _ s4 => wpAny (model X.prog X.w) X.A (throw (.ref a) : Sem Flow) (SP X pins D) X.xe s4) X.xe { s' with heap := h3 } := by
          rw [hf]
          refine HandSPX.setFlight_upZ fl3 fun h4 hh4 up4 => wpAny_throw (tk _ _ ⟨a, B, sI, pins, σ', H', cls, d, rfl, J, nb, (up.trans up3).trans up4, .inr (.inr (by rw [hs]; exact hh4)), na, os, ag, w⟩)
        unfold PySem.passOn
        refine wpAny_bind (wpAny_field he hd h1 ?_)
        rw [if_neg (show ¬ ((Value.ref T == Value.none) = true) from by simp)]
        first | exact wpAny_bind (wpAny_pure (wpAny_bind fin)) | exact wpAny_bind fin
      | @cons x c ts b₀ suite np pos' hds2 l2 hc hsu r ih =>
        rintro ⟨b, hb1, hyes, hno⟩
        refine wpAny_handleBy_cons (codeAny_handlers_test ?_) (by intro q; cases q)
        refine test hc ((PySem.W.exm_one (M := model X.prog X.w) J3.kIn LT hb1).here ?_)
        cases b with
        | false => exact ih (hno rfl)
        | true =>
          refine codeAny_handlers_suite (HandSPX.lands_againZ fl3 fun h4 fl4 up4 => ?_)
          have J4 : Inv X pins σ' H' { s' with heap := h4 } := J.landed nb fl4.1 ((up.trans up3).trans up4) os ag
          obtain ⟨oe4, vs4, he4, hz4, hd4⟩ := fl4.there
          refine wpAny_mono ((hsu a oe4 cls d (X.pn ++ pins) hz4 ⟨_, hd4⟩).run [] _ _ H' _ (J4.suite he4 hd4 na nL nF) (hyes rfl a na)) (fun f s6 hsp => ?_) (fun _ _ z => False.elim z)
          match f, hsp with
          | .next, ⟨_, _, S6, q6⟩ => exact ⟨_, _, S6.unsuite ok, q6⟩
          | .brk, ⟨_, _, S6, q6⟩ => exact ⟨_, _, S6.unsuite ok, q6⟩
          | .cont, ⟨_, _, S6, q6⟩ => exact ⟨_, _, S6.unsuite ok, q6⟩
          | .ret u, ⟨_, _, _, S6, r6, q6⟩ => exact ⟨_, _, _, S6.unsuite ok, r6, q6⟩
      | @as x n i c ts b₀ suite np pos' hds2 l2 hc hi hln hsu r ih =>
        rintro ⟨b, hb1, hyes, hno⟩
        refine wpAny_handleBy_cons (codeAny_handlers_test ?_) (by intro q; cases q)
        refine test hc ((PySem.W.exm_one (M := model X.prog X.w) J3.kIn LT hb1).here ?_)
        cases b with
        | false => exact ih (hno rfl)
        | true =>
          refine codeAny_handlers_suite_as (HandSPX.lands_againZ fl3 fun h4 fl4 up4 => ?_)
          have J4 : Inv X pins σ' H' { s' with heap := h4 } := J.landed nb fl4.1 ((up.trans up3).trans up4) os ag
          obtain ⟨oe4, vs4, he4, hz4, hd4⟩ := fl4.there
          refine store_ok (X := X.suite a ((a, oe4) :: (X.pn ++ pins))) (v := .ref a) (J4.suite he4 hd4 na nL nF) hN hi (.inl hln) rfl (fun s5 S5 => ?_) (.inr hln)
          refine wpAny_mono ((hsu a oe4 cls d (X.pn ++ pins) hz4 ⟨_, hd4⟩).run [] s5 _ H' _ S5 (hyes rfl a na)) (fun f s6 hsp => ?_) (fun _ _ z => False.elim z)
          have end_ : ∀ {σ6 : L2.St} {H6 : Hp} {Q : Shared → Prop}, Inv (X.suite a ((a, oe4) :: (X.pn ++ pins))) [] σ6 H6 s6 → (∀ s7, Inv X pins (σ6.set i none) H6 s7 → Q s7) →
              wpAny (model X.prog X.w) X.A (do bindName X.env n .none; unbindBehindTheSuite X.env n pos') (fun _ s7 => Q s7) X.xe s6 := fun S6 hq => gone_ok (S6.unsuite ok) hN hi hln hq
          match f, hsp with
          | .next, ⟨_, _, S6, q6⟩ => exact end_ S6 fun s7 J7 => ⟨_, _, J7, q6⟩
          | .brk, ⟨_, _, S6, q6⟩ => exact end_ S6 fun s7 J7 => ⟨_, _, J7, q6⟩
          | .cont, ⟨_, _, S6, q6⟩ => exact end_ S6 fun s7 J7 => ⟨_, _, J7, q6⟩
          | .ret u, ⟨_, _, _, S6, r6, q6⟩ => exact end_ S6 fun s7 J7 => ⟨_, _, _, J7, r6, q6⟩
    exact go hh w
  · match f, hsp with
    | .next, ⟨σ', H', J', q⟩ => exact wpAny_execs_nil ⟨σ', H', J'.ofTry ok, q⟩
    | .brk, ⟨σ', H', J', q⟩ => exact ⟨σ', H', J'.ofTry ok, q⟩
    | .cont, ⟨σ', H', J', q⟩ => exact ⟨σ', H', J'.ofTry ok, q⟩
    | .ret u, ⟨v, σ', H', J', r, q⟩ => exact ⟨v, σ', H', J'.ofTry ok, r, q⟩
end
/-- e.f of a pinned error -/
def Pin (X : Cx) (a : Addr) (cls : Value) (d : Option Addr) : Prop := ∃ oe, (a, oe) ∈ X.pn ∧ Zc cls d oe ∧ ∃ vs, oe.data = .fields vs
def tPf (X : Cx) (n : Str) (te : TE) : TE := fun σ H Q => te σ H fun x H1 => ∃ (a C dd : Addr) (fs : List (Str × V)) (v : V), x = .ref a ∧ Pin X a (.ref C) (some dd) ∧ XfC X.K C ∧ PySem.W.findIn X.K (.ref C) n = some none ∧ H1 dd = some (.xd fs) ∧ fs.lookup n = some v ∧ Q v H1
theorem pe_pf {X : Cx} {e : Expr} {te : TE} {pos : Pos} {n : Str} (he : PE X e te) (hb : attributeBase e n X.env (eval e X.env) = eval e X.env := by rfl) : PE X (.Attribute e n pos) (tPf X n te) := by
  constructor
  intro pins s σ H Q I h
  refine attr_of hb (thn (he.run pins s σ H _ I h) fun u s1 hh => ?_)
  obtain ⟨x, H1, I1, rx, a, C, dd, fs, v, rfl, ⟨oe, hp, hz, vs, hd⟩, T, hno, ea, l, q⟩ := hh
  obtain rfl : u = Value.ref a := rx
  obtain ⟨ha, _⟩ := I1.pin (a, oe) (List.mem_append_left _ hp)
  obtain ⟨mA, hns, hr⟩ := (show ObjOk X.prog X.w H1 s1.heap dd (.xd fs) from I1.hok dd _ ea)
  obtain ⟨od, ho, hl⟩ := lookIn_ns hns
  have hrn := hr n
  rw [l] at hrn
  obtain ⟨u, hu, ru⟩ := RelO.some_of (v := v) (o := mA n) hrn
  have J : PySem.W.InstAt s1.heap a oe C (some od) := ⟨ha, hz.1, by unfold PySem.W.notCls; rw [hd] <;> rfl, by rw [hz.2]; exact ho⟩
  exact HandSPX.exc_get I1.kIn J T.ga T.gg T.exC (PySem.W.findObj_own T.hdC hno rfl (by rw [hl, hu])) (handed_of ru) ⟨v, H1, I1.tok _, ru, q⟩
end W2

namespace W2
open PySem PySem.Spec PyProof.Rows L2
theorem Rg.units {A : Around} (h : Rg A) : A.units + 64 < cLine := by have := h.un; omega
/-! ### a def that raises nothing -/
abbrev FnG := FnX
section
variable {P : Program} {w : World} {K : PySem.W.Frag} {mg : Str → Option Value} {base : Heap}
theorem fnG_of {x qual : Str} {st : Stmt} {f : Addr} {fd : FuncData} {N ps : List Str} {k : Nat} {sp : Sp} (F : Fun K x qual st f fd) (S : FnScope N ps (defScope st)) (len : ∀ vs H Q E, sp vs H Q E → vs.length = ps.length)
    (body : ∀ (c : Value) (A : Around) (o : List Env) (s : Shared) (H : Hp) (vs : List V) (Q : VK) (E : XK), Rm k (A.deeper (envOfC qual (defScope st) s.heap.objs.size f c)) → sp vs H Q E →
      ∃ t, PSs (cxOf (L2.CX P w) P w K mg base N qual (defScope st) f c A o s H E).nox (defBody st) t ∧ t { nx := fun _ H' => Q .non H', rt := Q } (start N vs) H) : FnG P w K mg base (k + 1) f fd ps sp :=
  fnX_of F S len fun c A o s H vs Q E hr h => let ⟨t, a, b⟩ := body c A o s H vs Q E hr h; ⟨t, a.nox, b⟩
end
section
variable {X : Cx} {k : Nat} {f : Addr} {fd : FuncData} {ps : List Str} {sp : Sp} {x : Str} {p pos : Pos} {e : Expr} {es : List Expr} {t : TA}
theorem run_G {pins : List (Addr × Obj)} {σ : L2.St} {H : Hp} {s : Shared} {Q : VK} {us : List Value} {vs : List V} (F : FnG X.prog X.w X.K X.mg X.base k f fd ps sp) (hr : Rm k X.A) (hb : Binds X.K fd ps []) (I : Inv X pins σ H s) (r : Vals vs us) (h : sp vs H Q E0) :
    wpAny (model X.prog X.w) X.A (call (.ref f) us) (EP X pins σ Q) X.xe s := run_Xc F hr takes_none5 hb I r h
theorem pe_G (F : FnG X.prog X.w X.K X.mg X.base k f fd ps sp) (hr : Rm k X.A) (hg : Gl X x) (hm : X.mg x = some (.ref f)) (hk : PySem.W.keepIn X.K (.ref f) = true) (hb : Binds X.K fd ps []) (ha : PA X (e :: es) t)
    (hdb : (x == ("__debug__" : Str)) = false := by decide) (he : starEach (e :: es) X.env = (false, eval e X.env) :: starEach es X.env := by rfl) (hpl : (backTo pos (starEach es X.env)).any (·.1) = false := by rfl) :
    PE X (.Call (.Name x p) (e :: es) [] pos) (fun σ H Q => t σ H fun vs H1 => sp vs H1 Q E0) := pe_X F hr takes_none5 hg hm hk hb ha hdb he hpl
end
end W2

namespace W2
open PySem PySem.Spec PyProof.Rows L2
/-! ### try: the error that a clause has caught is a thing that stays -/
def EO (a : Addr) (oe : Obj) : HO := .frz oe (.ext fun h => h.get? a = some oe)
theorem eO_ok {P : Program} {w : World} {H : Hp} {h : Heap} {a : Addr} {oe : Obj} (e : h.get? a = some oe) : ObjOk P w H h a (EO a oe) := ⟨e, e, ⟨oe, e⟩, fun _ _ q k => k _ q⟩
section
variable {X : Cx} {pins : List (Addr × Obj)} {σ : L2.St} {H : Hp} {s sI s' : Shared} {B : Heap}
theorem Inv.suiteF (I : L2.Inv X pins σ H s) (a : Addr) : L2.Inv (X.suite a (X.pn ++ pins)) [] σ H s :=
  ⟨I.ok.suite _ _, I.os, I.bare, I.base, I.loc, I.cell, I.free, I.freeC, fun p hp => I.pin p (by rw [List.append_nil] at hp; exact hp), I.hok, I.len⟩
theorem Inv.unsuiteF {a : Addr} {pn' : List (Addr × Obj)} (I : L2.Inv (X.suite a (X.pn ++ pins)) pn' σ H s) (ok : X.Ok) : L2.Inv X pins σ H s :=
  ⟨ok, I.os, I.bare, I.base, I.loc, I.cell, I.free, I.freeC, fun p hp => I.pin p (List.mem_append_left _ hp), I.hok, I.len⟩
theorem Inv.landF {a : Addr} {oe : Obj} {h4 : Heap} (J : L2.Inv X pins σ H sI) (nb : ∀ b o, sI.heap.get? b = some o → b ∉ frs X.stack → B.get? b = some o) (st : B.StaysIn h4) (hB : B.get? a = none) (up : sI.heap.UpToSlots h4) (os : s'.os = sI.os) (ag : AllBare s'.gens)
    (nfr : a ∉ frs X.stack) (na : H a = none) (he : h4.get? a = some oe) : L2.Inv X pins σ (upd H a (EO a oe)) { s' with heap := h4 } := by
  obtain ⟨G, g1, g2⟩ := restrict h4 fun b => decide (b ≠ a)
  have gk : ∀ b, b ≠ a → G.get? b = h4.get? b := fun b hb => g1 b (decide_eq_true hb)
  have ga : G.get? a = none := g2 a (by simp)
  have nI : ∀ b o, sI.heap.get? b = some o → b ≠ a := fun b o e q => by
    subst q
    rw [nb b o e nfr] at hB
    cases hB
  have JG := J.landed (s' := { s' with heap := G }) nb (fun b o e => by
    have hb : b ≠ a := fun q => by rw [q, hB] at e; cases e
    show G.get? b = some o
    rw [gk b hb]; exact st b o e) (fun b o e d => by
    obtain ⟨sl, q⟩ := up b o e d
    exact ⟨sl, by show G.get? b = _; rw [gk b (nI b o e)]; exact q⟩) os ag
  exact JG.laidN (h' := h4) (t' := s'.toks) (fun b u e => by
    have e' : G.get? b = some u := e
    have hb : b ≠ a := fun q => by rw [q, ga] at e'; cases e'
    rw [← gk b hb]; exact e') ga na (eO_ok he)
end
abbrev TsF := Value → Option Addr → TS
structure ClF where
  c : Value
  i : Option Nat
  ts : TsF
/-- what is wanted behind a suite: the clause's name is gone -/
def dropF (D : Ends) : Option Nat → Ends
  | none => D
  | some i => { nx := fun σ H => D.nx (σ.set i none) H, rt := D.rt, bk := fun σ H => D.bk (σ.set i none) H, ct := fun σ H => D.ct (σ.set i none) H }
def setF (σ : L2.St) (a : Addr) : Option Nat → L2.St
  | none => σ
  | some i => σ.set i (some (.ref a))
def wClF (K : PySem.W.Frag) (Wout : WX) (D : Ends) : List ClF → WX
  | [] => Wout
  | l :: r => fun cls d σ H => ∃ b, PySem.W.exmOne K cls l.c = some b ∧ (b = true → ∀ a oe, H a = none → Zc cls d oe → (∃ vs, oe.data = .fields vs) → l.ts cls d (dropF D l.i) (setF σ a l.i) (upd H a (EO a oe))) ∧ (b = false → wClF K Wout D r cls d σ H)
inductive ClsOkF (X : Cx) : List ExceptHandler → List ClF → Prop
  | nil : ClsOkF X [] []
  | cons {x : Str} {c : Value} {ts : TsF} {b₀ : Stmt} {suite : List Stmt} {np pos' : Pos} {hds : List ExceptHandler} {l : List ClF} (hc : Names X x c)
      (hsu : ∀ (a : Addr) (cls : Value) (d : Option Addr) (pn : List (Addr × Obj)), PSs (X.suite a pn) (b₀ :: suite) (ts cls d)) (r : ClsOkF X hds l) :
      ClsOkF X (.ExceptHandler (some (.Name x np)) none (b₀ :: suite) pos' :: hds) (⟨c, none, ts⟩ :: l)
  | as {x n : Str} {i : Nat} {c : Value} {ts : TsF} {b₀ : Stmt} {suite : List Stmt} {np pos' : Pos} {hds : List ExceptHandler} {l : List ClF} (hc : Names X x c) (hi : X.N[i]? = some n) (hln : X.env.kindOf n = some .local)
      (hsu : ∀ (a : Addr) (cls : Value) (d : Option Addr) (pn : List (Addr × Obj)), PSs (X.suite a pn) (b₀ :: suite) (ts cls d)) (r : ClsOkF X hds l) :
      ClsOkF X (.ExceptHandler (some (.Name x np)) (some n) (b₀ :: suite) pos' :: hds) (⟨c, some i, ts⟩ :: l)
section
variable {X : Cx} {body : List Stmt} {h₀ : ExceptHandler} {hds : List ExceptHandler} {l : List ClF} {pos : Pos} {tb : WX → TS} {Wout : WX}
theorem ps_tryF (hs : X.stack = X.env :: X.outer) (hf : X.env.frame = some X.env.locals) (hN : X.N.Nodup) (tk : Takes X Wout)
    (hb : ∀ (W : WX) (pn : List (Addr × Obj)) (xe : Value → Shared → Prop), Takes (X.tr pn xe) W → PassesOwn (model X.prog X.w) X.A X.env xe → PSs (X.tr pn xe) body (tb W)) (hh : ClsOkF X (h₀ :: hds) l) :
    PS X (.Try body (h₀ :: hds) [] [] pos) (fun D σ H => tb (wClF X.K Wout D l) D σ H) := by
  constructor
  intro pins s σ H D I h
  have ok := I.ok
  have hfr : X.A.frames = some (X.env :: X.outer) := by rw [ok.frames, hs]
  refine wpAny_Try_except (wpAny_mono ((hb (wClF X.K Wout D l) (X.pn ++ pins) (fun e s₁ => wpAny (model X.prog X.w) X.A (noteFrame e X.env) (fun _ s₂ => wpAny (model X.prog X.w) X.A (setFlight e none)
    (fun _ s₃ => wpAny (model X.prog X.w) X.A (handleBy e X.env (h₀ :: hds)) (SP X pins D) X.xe s₃) X.xe s₂) X.xe s₁) (fun u s' xx => ?_) PassesOwn.looking).run [] s σ H D (I.toTry _) h) (fun f s1 hsp => ?_) (fun e s1 he => he))
  · obtain ⟨a, B, sI, pins', σ', H', cls, d, rfl, J', nb, up, sky, na, os, ag, w⟩ := xx
    have J : L2.Inv X pins σ' H' sI := J'.ofTry ok
    have sky' : Sky B (X.env :: X.outer) a (Zc cls d) X.env.locals s'.heap := hs ▸ sky
    show wpAny (model X.prog X.w) X.A (noteFrame (.ref a) X.env) _ _ _
    refine Sky.land Zc.steady hfr hf sky' fun h3 fl3 up3 => ?_
    have J3 : L2.Inv X pins σ' H' { s' with heap := h3 } := J.landed nb fl3.1 (up.trans up3) os ag
    obtain ⟨oe3, vs3, he3, hz3, hd3⟩ := fl3.there
    have nfr : a ∉ frs (X.env :: X.outer) := fun hm => by
      obtain ⟨_, o', e', hnf⟩ := fl3.2.2.1.mem hm
      rw [he3] at e'
      cases e'
      exact hnf _ hd3
    have nL : a ≠ X.env.locals := fun z => nfr (List.mem_filterMap.mpr ⟨X.env, List.mem_cons_self, by rw [hf, z]⟩)
    have nF : a ∉ X.fs := fun hm => by
      obtain ⟨e, he, q⟩ := List.mem_filterMap.mp hm
      exact nfr (List.mem_filterMap.mpr ⟨e, List.mem_cons_of_mem _ he, q⟩)
    have S3 := Inv.suiteF J3 a
    have LT : PySem.W.Looks (model X.prog X.w) h3 (typeOf (.ref a)) cls := fun A Q E s k q => wpAny_typeOf_ref (k _ _ he3) (by rw [hz3.1]; exact q)
    have test : ∀ {x : Str} {c : Value} {np : Pos} {Q : Value → Shared → Prop} {E : Value → Shared → Prop}, Names X x c → Q c { s' with heap := h3 } → wpAny (model X.prog X.w) (X.A.mark (some (.ref a))) (eval (.Name x np) X.env) Q E { s' with heap := h3 } := by
      intro x c np Q E hc q
      obtain ⟨hg, hdbg, hm | ⟨hm, hv, hnn⟩⟩ := hc
      · exact ld_glob (X := X.suite a (X.pn ++ pins)) S3 hg hm q hdbg
      · exact ld_blt (X := X.suite a (X.pn ++ pins)) S3 hg hm hv q hnn hdbg
    have go : ∀ {hds' : List ExceptHandler} {l' : List ClF}, ClsOkF X hds' l' → wClF X.K Wout D l' cls d σ' H' → wpAny (model X.prog X.w) X.A (handleBy (.ref a) X.env hds') (SP X pins D) X.xe { s' with heap := h3 } := by
      intro hds' l' hk
      induction hk with
      | nil =>
        intro w
        refine wpAny_handleBy_nil ?_
        obtain ⟨_, _, _, oe, vs, T, _, _, he, _, hd, h1, _⟩ := id fl3
        have fin : wpAny (model X.prog X.w) X.A (setFlight (.ref a) X.env.frame) (fun _ s4 => wpAny (model X.prog X.w) X.A (throw (.ref a) : Sem Flow) (SP X pins D) X.xe s4) X.xe { s' with heap := h3 } := by
          rw [hf]
          refine HandSPX.setFlight_upZ fl3 fun h4 hh4 up4 => wpAny_throw (tk _ _ ⟨a, B, sI, pins, σ', H', cls, d, rfl, J, nb, (up.trans up3).trans up4, .inr (.inr (by rw [hs]; exact hh4)), na, os, ag, w⟩)
        unfold PySem.passOn
        refine wpAny_bind (wpAny_field he hd h1 ?_)
        rw [if_neg (show ¬ ((Value.ref T == Value.none) = true) from by simp)]
        first | exact wpAny_bind (wpAny_pure (wpAny_bind fin)) | exact wpAny_bind fin
      | @cons x c ts b₀ suite np pos' hds2 l2 hc hsu r ih =>
        rintro ⟨b, hb1, hyes, hno⟩
        refine wpAny_handleBy_cons (codeAny_handlers_test ?_) (by intro q; cases q)
        refine test hc ((PySem.W.exm_one (M := model X.prog X.w) J3.kIn LT hb1).here ?_)
        cases b with
        | false => exact ih (hno rfl)
        | true =>
          refine codeAny_handlers_suite (HandSPX.lands_againZ fl3 fun h4 fl4 up4 => ?_)
          obtain ⟨oe4, vs4, he4, hz4, hd4⟩ := fl4.there
          have J4 : L2.Inv X pins σ' (upd H' a (EO a oe4)) { s' with heap := h4 } := Inv.landF J nb fl4.1 fl4.2.1 ((up.trans up3).trans up4) os ag (hs ▸ nfr) na he4
          refine wpAny_mono ((hsu a cls d (X.pn ++ pins)).run [] _ _ _ _ (Inv.suiteF J4 a) (hyes rfl a oe4 na hz4 ⟨_, hd4⟩)) (fun f s6 hsp => ?_) (fun _ _ z => False.elim z)
          match f, hsp with
          | .next, ⟨_, _, S6, q6⟩ => exact ⟨_, _, Inv.unsuiteF S6 ok, q6⟩
          | .brk, ⟨_, _, S6, q6⟩ => exact ⟨_, _, Inv.unsuiteF S6 ok, q6⟩
          | .cont, ⟨_, _, S6, q6⟩ => exact ⟨_, _, Inv.unsuiteF S6 ok, q6⟩
          | .ret u, ⟨_, _, _, S6, r6, q6⟩ => exact ⟨_, _, _, Inv.unsuiteF S6 ok, r6, q6⟩
      | @as x n i c ts b₀ suite np pos' hds2 l2 hc hi hln hsu r ih =>
        rintro ⟨b, hb1, hyes, hno⟩
        refine wpAny_handleBy_cons (codeAny_handlers_test ?_) (by intro q; cases q)
        refine test hc ((PySem.W.exm_one (M := model X.prog X.w) J3.kIn LT hb1).here ?_)
        cases b with
        | false => exact ih (hno rfl)
        | true =>
          refine codeAny_handlers_suite_as (HandSPX.lands_againZ fl3 fun h4 fl4 up4 => ?_)
          obtain ⟨oe4, vs4, he4, hz4, hd4⟩ := fl4.there
          have J4 : L2.Inv X pins σ' (upd H' a (EO a oe4)) { s' with heap := h4 } := Inv.landF J nb fl4.1 fl4.2.1 ((up.trans up3).trans up4) os ag (hs ▸ nfr) na he4
          refine store_ok (X := X.suite a (X.pn ++ pins)) (v := .ref a) (Inv.suiteF J4 a) hN hi (.inl hln) rfl (fun s5 S5 => ?_) (.inr hln)
          refine wpAny_mono ((hsu a cls d (X.pn ++ pins)).run [] s5 _ _ _ S5 (hyes rfl a oe4 na hz4 ⟨_, hd4⟩)) (fun f s6 hsp => ?_) (fun _ _ z => False.elim z)
          have end_ : ∀ {σ6 : L2.St} {H6 : Hp} {Q : Shared → Prop}, L2.Inv (X.suite a (X.pn ++ pins)) [] σ6 H6 s6 → (∀ s7, L2.Inv X pins (σ6.set i none) H6 s7 → Q s7) →
              wpAny (model X.prog X.w) X.A (do bindName X.env n .none; unbindBehindTheSuite X.env n pos') (fun _ s7 => Q s7) X.xe s6 := fun S6 hq => gone_ok (Inv.unsuiteF S6 ok) hN hi hln hq
          match f, hsp with
          | .next, ⟨_, _, S6, q6⟩ => exact end_ S6 fun s7 J7 => ⟨_, _, J7, q6⟩
          | .brk, ⟨_, _, S6, q6⟩ => exact end_ S6 fun s7 J7 => ⟨_, _, J7, q6⟩
          | .cont, ⟨_, _, S6, q6⟩ => exact end_ S6 fun s7 J7 => ⟨_, _, J7, q6⟩
          | .ret u, ⟨_, _, _, S6, r6, q6⟩ => exact end_ S6 fun s7 J7 => ⟨_, _, _, J7, r6, q6⟩
    exact go hh w
  · match f, hsp with
    | .next, ⟨σ', H', J', q⟩ => exact wpAny_execs_nil ⟨σ', H', J'.ofTry ok, q⟩
    | .brk, ⟨σ', H', J', q⟩ => exact ⟨σ', H', J'.ofTry ok, q⟩
    | .cont, ⟨σ', H', J', q⟩ => exact ⟨σ', H', J'.ofTry ok, q⟩
    | .ret u, ⟨v, σ', H', J', r, q⟩ => exact ⟨v, σ', H', J'.ofTry ok, r, q⟩
end
end W2

namespace M
open PySem PySem.Spec L2 W2

/-! ### values as data; `ref j`: the j-th thing of the store; `err`: an error with its fields -/
inductive D where
  | non | bl (b : Bool) | int (i : Int) | str (x : Str)
  | lst (xs : List D) | tup (xs : List D) | dct (kvs : List (Key × D))
  | ref (j : Nat) | fn (x : Str) | ty (n : String) | seq (xs : List D) | cls (x : Str) | err (cn : Str) (fs : List (Str × D))
/-- a thing that may change -/
inductive Ob where
  | lst (xs : List D) | dct (kvs : List (Key × D)) | ins (cn : Str) (fs : List (Str × D))
abbrev Sto := List Ob
abbrev En := List (Option D)
abbrev Fs := List (Str × D)
structure Cfg where
  π : Nat → Addr
  S : Sto
  T : Addr → Prop
  H : Hp
def Cfg.Rg (c : Cfg) (a : Addr) : Prop := ∃ j, j < c.S.length ∧ c.π j = a
def Cfg.B (c : Cfg) (a : Addr) : Prop := c.Rg a ∨ c.T a
def Hn : Hp := fun _ => none
/-- an error that stays: made here, or named by an except clause -/
def ErrAt (H : Hp) (a C : Addr) (od : Option Addr) : Prop := H a = some (exo a C od) ∨ ∃ oe u, H a = some (.frz oe u) ∧ Zc (.ref C) od oe ∧ ∃ w, oe.data = .fields w
def ErrD (c : Cfg) (od : Option Addr) (vs : List (Str × V)) : Prop := match od with
  | none => vs = []
  | some dd => ¬ c.B dd ∧ (c.H dd = some (exd dd vs) ∨ c.H dd = some (.xd vs))
section
variable (K : PySem.W.Frag) (mg : Str → Option Value)
def Sl (c : Cfg) (a : Addr) (xs : List V) : Prop := (¬ c.B a ∧ Rd c.H a (.lst xs)) ∨ SqL K Hn a xs
def Ll (c : Cfg) (a : Addr) (xs : List V) : Prop := ¬ c.B a ∧ Rd c.H a (.lst xs)
def Tl (c : Cfg) (a : Addr) (xs : List V) : Prop := (¬ c.B a ∧ Rd c.H a (.tup xs)) ∨ SqT K Hn a xs
mutual
inductive Den (c : Cfg) : V → D → Prop
  | non : Den c .non .non
  | bl (b : Bool) : Den c (.bl b) (.bl b)
  | int (i : Int) : Den c (.int i) (.int i)
  | str (x : Str) : Den c (.str x) (.str x)
  | lst {a : Addr} {xs : List V} {ds : List D} : Ll c a xs → DenA c xs ds → Den c (.ref a) (.lst ds)
  | seq {a : Addr} {xs : List V} {ds : List D} : Sl K c a xs → DenA c xs ds → Den c (.ref a) (.seq ds)
  | tup {a : Addr} {xs : List V} {ds : List D} : Tl K c a xs → DenA c xs ds → Den c (.ref a) (.tup ds)
  | dct {a : Addr} {xs : List (Key × V)} {ds : List (Key × D)} : ¬ c.B a → c.H a = some (.dK xs) → DenK c xs ds → Den c (.ref a) (.dct ds)
  | ref {j : Nat} : j < c.S.length → Den c (.ref (c.π j)) (.ref j)
  | fn {x : Str} {f : Addr} : mg x = some (.ref f) → Den c (.ref f) (.fn x)
  | ty (n : String) : Den c (.ty n) (.ty n)
  | cls {x : Str} {f : Addr} : mg x = some (.ref f) → Den c (.ref f) (.cls x)
  | err {a C : Addr} {od : Option Addr} {vs : List (Str × V)} {cn : Str} {fs : List (Str × D)} : ¬ c.B a → mg cn = some (.ref C) → ErrAt c.H a C od → ErrD c od vs → DenF c vs fs → Den c (.ref a) (.err cn fs)
inductive DenA (c : Cfg) : List V → List D → Prop
  | nil : DenA c [] []
  | cons {v : V} {vs : List V} {d : D} {ds : List D} : Den c v d → DenA c vs ds → DenA c (v :: vs) (d :: ds)
inductive DenK (c : Cfg) : List (Key × V) → List (Key × D) → Prop
  | nil : DenK c [] []
  | cons {k : Key} {v : V} {vs : List (Key × V)} {d : D} {ds : List (Key × D)} : Den c v d → DenK c vs ds → DenK c ((k, v) :: vs) ((k, d) :: ds)
inductive DenF (c : Cfg) : List (Str × V) → List (Str × D) → Prop
  | nil : DenF c [] []
  | cons {k : Str} {v : V} {vs : List (Str × V)} {d : D} {ds : List (Str × D)} : Den c v d → DenF c vs ds → DenF c ((k, v) :: vs) ((k, d) :: ds)
end
end
/-- growth -/
structure Le (c c' : Cfg) : Prop where
  len : c.S.length ≤ c'.S.length
  pi : ∀ j, j < c.S.length → c'.π j = c.π j
  keep : ∀ a o, ¬ c.Rg a → c.H a = some o → c'.H a = some o ∧ ¬ c'.Rg a
  T : c'.T = c.T
theorem Le.refl (c : Cfg) : Le c c := ⟨Nat.le_refl _, fun _ _ => rfl, fun _ _ n h => ⟨h, n⟩, rfl⟩
theorem Le.trans {a b c : Cfg} (x : Le a b) (y : Le b c) : Le a c where
  len := Nat.le_trans x.len y.len
  pi := fun j h => (y.pi j (Nat.lt_of_lt_of_le h x.len)).trans (x.pi j h)
  keep := fun p o n h => let ⟨h1, n1⟩ := x.keep p o n h; y.keep p o n1 h1
  T := y.T.trans x.T
structure Lw (c c' : Cfg) : Prop where
  len : c.S.length ≤ c'.S.length
  pi : ∀ j, j < c.S.length → c'.π j = c.π j
  nB : ∀ a o, ¬ c.B a → c.H a = some o → c'.H a = some o ∧ ¬ c'.B a
theorem Lw.refl (c : Cfg) : Lw c c := ⟨Nat.le_refl _, fun _ _ => rfl, fun _ _ n h => ⟨h, n⟩⟩
theorem Lw.trans {a b c : Cfg} (x : Lw a b) (y : Lw b c) : Lw a c where
  len := Nat.le_trans x.len y.len
  pi := fun j h => (y.pi j (Nat.lt_of_lt_of_le h x.len)).trans (x.pi j h)
  nB := fun p o n h => let ⟨h1, n1⟩ := x.nB p o n h; y.nB p o n1 h1
theorem Le.lw {c c' : Cfg} (e : Le c c') : Lw c c' := ⟨e.len, e.pi, fun a o n h => by
  obtain ⟨h1, n1⟩ := e.keep a o (fun q => n (.inl q)) h
  exact ⟨h1, fun q => q.elim n1 fun q => n (.inr (by rw [← e.T]; exact q))⟩⟩
section
variable {K : PySem.W.Frag} {mg : Str → Option Value} {c c' : Cfg}
theorem Sl.get {a : Addr} {xs : List V} (h : Sl K c a xs) : SqL K c.H a xs := h.elim (fun h => .inl h.2) fun h => h.elim (fun h => h.elim (fun z => nomatch z) fun ⟨_, z⟩ => nomatch z) .inr
theorem Ll.get {a : Addr} {xs : List V} (h : Ll c a xs) : SqL K c.H a xs := .inl h.2
theorem Tl.get {a : Addr} {xs : List V} (h : Tl K c a xs) : SqT K c.H a xs := h.elim (fun h => .inl h.2) fun h => h.elim (fun h => h.elim (fun z => nomatch z) fun ⟨_, z⟩ => nomatch z) .inr
theorem Lw.rd {a : Addr} {o : HO} (e : Lw c c') (n : ¬ c.B a) (h : Rd c.H a o) : ¬ c'.B a ∧ Rd c'.H a o := by
  rcases h with h | ⟨ob, h⟩
  · obtain ⟨h1, h2⟩ := e.nB _ _ n h
    exact ⟨h2, .inl h1⟩
  · obtain ⟨h1, h2⟩ := e.nB _ _ n h
    exact ⟨h2, .inr ⟨ob, h1⟩⟩
theorem Sl.mw {a : Addr} {xs : List V} (e : Lw c c') (h : Sl K c a xs) : Sl K c' a xs := h.elim (fun h => .inl (e.rd h.1 h.2)) .inr
theorem Ll.mw {a : Addr} {xs : List V} (e : Lw c c') (h : Ll c a xs) : Ll c' a xs := e.rd h.1 h.2
theorem Tl.mw {a : Addr} {xs : List V} (e : Lw c c') (h : Tl K c a xs) : Tl K c' a xs := h.elim (fun h => .inl (e.rd h.1 h.2)) .inr
theorem Lw.err {a C : Addr} {od : Option Addr} (e : Lw c c') (n : ¬ c.B a) (h : ErrAt c.H a C od) : ¬ c'.B a ∧ ErrAt c'.H a C od := by
  rcases h with h | ⟨oe, u, h, z⟩
  · obtain ⟨h1, h2⟩ := e.nB _ _ n h
    exact ⟨h2, .inl h1⟩
  · obtain ⟨h1, h2⟩ := e.nB _ _ n h
    exact ⟨h2, .inr ⟨oe, u, h1, z⟩⟩
theorem Lw.errD {od : Option Addr} {vs : List (Str × V)} (e : Lw c c') (h : ErrD c od vs) : ErrD c' od vs := by
  cases od with
  | none => exact h
  | some dd =>
    obtain ⟨n, h⟩ := h
    rcases h with h | h
    · obtain ⟨h1, h2⟩ := e.nB _ _ n h
      exact ⟨h2, .inl h1⟩
    · obtain ⟨h1, h2⟩ := e.nB _ _ n h
      exact ⟨h2, .inr h1⟩
mutual
theorem Den.mw (e : Lw c c') : ∀ {d : D} {v : V}, Den K mg c v d → Den K mg c' v d
  | .non, _, h => by cases h; exact .non
  | .bl b, _, h => by cases h; exact .bl b
  | .int i, _, h => by cases h; exact .int i
  | .str x, _, h => by cases h; exact .str x
  | .lst ds, _, h => by
    cases h with
    | lst s t => exact .lst (s.mw e) (DenA.mw e t)
  | .seq ds, _, h => by
    cases h with
    | seq s t => exact .seq (s.mw e) (DenA.mw e t)
  | .tup ds, _, h => by
    cases h with
    | tup s t => exact .tup (s.mw e) (DenA.mw e t)
  | .dct ds, _, h => by
    cases h with
    | dct n s t => exact .dct (e.nB _ _ n s).2 (e.nB _ _ n s).1 (DenK.mw e t)
  | .ref j, _, h => by
    cases h with
    | ref l => rw [← e.pi j l]; exact .ref (Nat.lt_of_lt_of_le l e.len)
  | .fn x, _, h => by
    cases h with
    | fn m => exact .fn m
  | .ty n, _, h => by cases h; exact .ty n
  | .cls x, _, h => by
    cases h with
    | cls m => exact .cls m
  | .err cn fs, _, h => by
    cases h with
    | err n m e1 e2 q => exact .err (e.err n e1).1 m (e.err n e1).2 (e.errD e2) (DenF.mw e q)
theorem DenA.mw (e : Lw c c') : ∀ {ds : List D} {vs : List V}, DenA K mg c vs ds → DenA K mg c' vs ds
  | [], _, h => by cases h; exact .nil
  | d :: ds, _, h => by
    cases h with
    | cons a b => exact .cons (Den.mw e a) (DenA.mw e b)
theorem DenK.mw (e : Lw c c') : ∀ {ds : List (Key × D)} {vs : List (Key × V)}, DenK K mg c vs ds → DenK K mg c' vs ds
  | [], _, h => by cases h; exact .nil
  | (_, d) :: ds, _, h => by
    cases h with
    | cons a b => exact .cons (Den.mw e a) (DenK.mw e b)
theorem DenF.mw (e : Lw c c') : ∀ {ds : List (Str × D)} {vs : List (Str × V)}, DenF K mg c vs ds → DenF K mg c' vs ds
  | [], _, h => by cases h; exact .nil
  | (_, d) :: ds, _, h => by
    cases h with
    | cons a b => exact .cons (Den.mw e a) (DenF.mw e b)
end
theorem Den.mono (e : Le c c') {d : D} {v : V} (h : Den K mg c v d) : Den K mg c' v d := h.mw e.lw
theorem DenA.mono (e : Le c c') {ds : List D} {vs : List V} (h : DenA K mg c vs ds) : DenA K mg c' vs ds := h.mw e.lw
theorem DenK.mono (e : Le c c') {ds : List (Key × D)} {vs : List (Key × V)} (h : DenK K mg c vs ds) : DenK K mg c' vs ds := h.mw e.lw
theorem DenF.mono (e : Le c c') {ds : Fs} {vs : List (Str × V)} (h : DenF K mg c vs ds) : DenF K mg c' vs ds := h.mw e.lw
theorem DenA.length : ∀ {ds : List D} {vs : List V}, DenA K mg c vs ds → vs.length = ds.length
  | [], _, h => by cases h; rfl
  | d :: ds, _, h => by
    cases h with
    | cons a b => simp [DenA.length b]
theorem DenK.length : ∀ {ds : List (Key × D)} {vs : List (Key × V)}, DenK K mg c vs ds → vs.length = ds.length
  | [], _, h => by cases h; rfl
  | (_, d) :: ds, _, h => by
    cases h with
    | cons a b => simp [DenK.length b]
theorem DenA.app : ∀ {ds es : List D} {vs ws : List V}, DenA K mg c vs ds → DenA K mg c ws es → DenA K mg c (vs ++ ws) (ds ++ es)
  | [], _, _, _, h, q => by cases h; exact q
  | d :: ds, _, _, _, h, q => by
    cases h with
    | cons a b => exact .cons a (DenA.app b q)
theorem DenA.take (n : Nat) : ∀ {ds : List D} {vs : List V}, DenA K mg c vs ds → DenA K mg c (vs.take n) (ds.take n) := by
  induction n with
  | zero => intro ds vs _; simp only [List.take_zero]; exact .nil
  | succ n ih =>
    intro ds vs h
    cases h with
    | nil => exact .nil
    | cons a b => exact .cons a (ih b)
theorem DenA.drop (n : Nat) : ∀ {ds : List D} {vs : List V}, DenA K mg c vs ds → DenA K mg c (vs.drop n) (ds.drop n) := by
  induction n with
  | zero => intro ds vs h; simpa only [List.drop_zero] using h
  | succ n ih =>
    intro ds vs h
    cases h with
    | nil => exact .nil
    | cons a b => exact ih b
theorem DenA.get : ∀ {ds : List D} {vs : List V} {i : Nat} {d : D}, DenA K mg c vs ds → ds[i]? = some d → ∃ v, vs[i]? = some v ∧ Den K mg c v d
  | [], _, _, _, h, e => by cases h; simp at e
  | d :: ds, _, 0, _, h, e => by
    cases h with
    | cons a b => simp at e; subst e; exact ⟨_, rfl, a⟩
  | d :: ds, _, i + 1, _, h, e => by
    cases h with
    | cons a b =>
      obtain ⟨x, h1, h2⟩ := DenA.get (i := i) b (by simpa using e)
      exact ⟨x, by simpa using h1, h2⟩
theorem DenA.set {v : V} {d : D} (h : Den K mg c v d) : ∀ {ds : List D} {vs : List V} (i : Nat), DenA K mg c vs ds → DenA K mg c (vs.set i v) (ds.set i d)
  | [], _, _, q => by cases q; exact .nil
  | _ :: _, _, 0, q => by
    cases q with
    | cons a b => exact .cons h b
  | _ :: _, _, i + 1, q => by
    cases q with
    | cons a b => exact .cons a (DenA.set h i b)
def lkF (fs : Fs) (n : Str) : Option D := fs.lookup n
theorem DenF.get : ∀ {fs : List (Str × D)} {vs : List (Str × V)} {n : Str}, DenF K mg c vs fs → match fs.lookup n with
    | some d => ∃ v, vs.lookup n = some v ∧ Den K mg c v d
    | none => vs.lookup n = none
  | [], _, n, h => by cases h; rfl
  | (k, d) :: fs, _, n, h => by
    cases h with
    | @cons _ v vs _ _ a b =>
      by_cases e : n = k
      · subst e
        simp only [List.lookup, beq_self_eq_true]
        exact ⟨v, rfl, a⟩
      · have e2 : (n == k) = false := by simpa using e
        simp only [List.lookup, e2]
        exact DenF.get b

/-! ### a sound configuration -/
def ObR (K : PySem.W.Frag) (mg : Str → Option Value) (c : Cfg) (p : Addr) : Ob → Prop
  | .lst xs => ∃ vs, c.H p = some (.lst vs) ∧ DenA K mg c vs xs
  | .dct kvs => ∃ vs, c.H p = some (.dK vs) ∧ DenK K mg c vs kvs
  | .ins cn fs => ∃ C dx vs, mg cn = some (.ref C) ∧ c.H p = some (.ins C dx vs) ∧ c.H dx = some (.own p) ∧ DenF K mg c vs fs
structure Ok (K : PySem.W.Frag) (mg : Str → Option Value) (c : Cfg) : Prop where
  at_ : ∀ j o, c.S[j]? = some o → ObR K mg c (c.π j) o
  inj : ∀ i j, i < c.S.length → j < c.S.length → c.π i = c.π j → i = j
  nT : ∀ a, c.T a → ¬ c.Rg a ∧ ∃ xs, c.H a = some (.lst xs)
end
theorem lt_of_get {α : Type} {l : List α} {j : Nat} {x : α} (h : l[j]? = some x) : j < l.length := (List.getElem?_eq_some_iff.mp h).1
def isMu : HO → Bool
  | .lst _ => true
  | .dK _ => true
  | .ins _ _ _ => true
  | _ => false
section
variable {K : PySem.W.Frag} {mg : Str → Option Value} {c c' : Cfg}
theorem rg_mu (k : Ok K mg c) {a : Addr} (h : c.Rg a) : ∃ o, c.H a = some o ∧ isMu o = true := by
  obtain ⟨j, l, rfl⟩ := h
  have q := k.at_ j _ (List.getElem?_eq_getElem l)
  revert q
  cases c.S[j] with
  | lst xs => rintro ⟨vs, h, _⟩; exact ⟨_, h, rfl⟩
  | dct xs => rintro ⟨vs, h, _⟩; exact ⟨_, h, rfl⟩
  | ins cn fs => rintro ⟨C, dx, vs, _, h, _⟩; exact ⟨_, h, rfl⟩
theorem ok_some (k : Ok K mg c) {a : Addr} (h : c.Rg a) : c.H a ≠ none := by
  obtain ⟨o, e, _⟩ := rg_mu k h
  rw [e]; exact fun z => nomatch z
theorem not_rg (k : Ok K mg c) {a : Addr} {o : HO} (h : c.H a = some o) (n : isMu o = false) : ¬ c.Rg a := fun q => by
  obtain ⟨u, e, m⟩ := rg_mu k q
  rw [h] at e
  cases e
  rw [n] at m
  cases m
theorem Ok.nB (k : Ok K mg c) {p : Addr} (h : c.H p = none) : ¬ c.B p := fun q => q.elim (fun q => ok_some k q h) fun q => by
  obtain ⟨_, xs, e⟩ := k.nT p q
  rw [h] at e; cases e
theorem Ok.nBo (k : Ok K mg c) {p : Addr} {o : HO} (h : c.H p = some o) (n : isMu o = false) : ¬ c.B p := fun q => q.elim (not_rg k h n) fun q => by
  obtain ⟨_, xs, e⟩ := k.nT p q
  rw [h] at e; cases e; cases n
/-- a thing stays what it is where its own place is kept -/
theorem ob_mono (k : Ok K mg c) (e : Le c c') {p p' : Addr} {o : Ob} (hp : p' = p) (h : c'.H p = c.H p) (q : ObR K mg c p o) : ObR K mg c' p' o := by
  subst hp
  cases o with
  | lst xs =>
    obtain ⟨vs, h1, h2⟩ := q
    exact ⟨vs, h.trans h1, h2.mono e⟩
  | dct xs =>
    obtain ⟨vs, h1, h2⟩ := q
    exact ⟨vs, h.trans h1, h2.mono e⟩
  | ins cn fs =>
    obtain ⟨C, dx, vs, h0, h1, h3, h2⟩ := q
    exact ⟨C, dx, vs, h0, h.trans h1, (e.keep dx _ (not_rg k h3 rfl) h3).1, h2.mono e⟩
/-- a new thing that stays -/
def Cfg.lay (c : Cfg) (p : Addr) (o : HO) : Cfg := { c with H := upd c.H p o }
theorem lay_le {p : Addr} {o : HO} (h : c.H p = none) : Le c (c.lay p o) :=
  ⟨Nat.le_refl _, fun _ _ => rfl, fun a u n e => ⟨by show upd c.H p o a = _; rw [upd_ne (ne_of_none e h)]; exact e, n⟩, rfl⟩
theorem lay_ok (k : Ok K mg c) {p : Addr} {o : HO} (h : c.H p = none) : Ok K mg (c.lay p o) := by
  have pe : ∀ a u, c.H a = some u → (c.lay p o).H a = some u := fun a u e => (upd_ne (ne_of_none e h)).trans e
  refine ⟨fun j ob e => ?_, k.inj, fun a t => ⟨(k.nT a t).1, ?_⟩⟩
  · obtain ⟨u, e1, _⟩ := rg_mu k ⟨j, lt_of_get e, rfl⟩
    exact ob_mono k (lay_le h) rfl ((pe _ _ e1).trans e1.symm) (k.at_ j ob e)
  · obtain ⟨_, xs, e⟩ := k.nT a t
    exact ⟨xs, pe _ _ e⟩
/-- a new thing of the store: H' is as H but at fresh places -/
def Cfg.new (c : Cfg) (p : Addr) (ob : Ob) (H' : Hp) : Cfg := { c with π := fun j => if j = c.S.length then p else c.π j, S := c.S ++ [ob], H := H' }
theorem new_le {p : Addr} {ob : Ob} {H' : Hp} (h : c.H p = none) (hH : ∀ a u, c.H a = some u → H' a = some u) : Le c (c.new p ob H') := by
  refine ⟨by show _ ≤ (c.S ++ [_]).length; simp, fun j l => if_neg (by omega), fun a u n e => ⟨hH a u e, ?_⟩, rfl⟩
  rintro ⟨j, l, q⟩
  have l' : j < c.S.length + 1 := by simpa [Cfg.new] using l
  by_cases z : j = c.S.length
  · rw [show (c.new p ob H').π j = p from if_pos z] at q
    rw [q, e] at h; cases h
  · rw [show (c.new p ob H').π j = c.π j from if_neg z] at q
    exact n ⟨j, by omega, q⟩
theorem new_ok (k : Ok K mg c) {p : Addr} {ob : Ob} {H' : Hp} (h : c.H p = none) (hH : ∀ a u, c.H a = some u → H' a = some u) (d : ObR K mg (c.new p ob H') p ob) : Ok K mg (c.new p ob H') := by
  have le := new_le (ob := ob) h hH
  have old : ∀ i, i < c.S.length → c.π i ≠ p := fun i l q => ok_some k ⟨i, l, rfl⟩ (by rw [q]; exact h)
  refine ⟨fun j o e => ?_, fun i j hi hj q => ?_, fun a t => ⟨fun r => ?_, ?_⟩⟩
  · have e' : (c.S ++ [ob])[j]? = some o := e
    by_cases z : j < c.S.length
    · rw [List.getElem?_append_left z] at e'
      obtain ⟨u, e1, _⟩ := rg_mu k ⟨j, z, rfl⟩
      exact ob_mono k le (le.pi j z) ((hH _ _ e1).trans e1.symm) (k.at_ j o e')
    · have l := lt_of_get e'
      have z' : j = c.S.length := by simp at l; omega
      subst z'
      rw [List.getElem?_append_right (Nat.le_refl _)] at e'
      simp at e'
      subst e'
      rw [show (c.new p ob H').π c.S.length = p from if_pos rfl]
      exact d
  · have hi' : i < c.S.length + 1 := by simpa [Cfg.new] using hi
    have hj' : j < c.S.length + 1 := by simpa [Cfg.new] using hj
    by_cases z : i = c.S.length
    · by_cases z' : j = c.S.length
      · omega
      · rw [show (c.new p ob H').π i = p from if_pos z, show (c.new p ob H').π j = c.π j from if_neg z'] at q
        exact absurd q.symm (old j (by omega))
    · by_cases z' : j = c.S.length
      · rw [show (c.new p ob H').π i = c.π i from if_neg z, show (c.new p ob H').π j = p from if_pos z'] at q
        exact absurd q (old i (by omega))
      · rw [show (c.new p ob H').π i = c.π i from if_neg z, show (c.new p ob H').π j = c.π j from if_neg z'] at q
        exact k.inj i j (by omega) (by omega) q
  · obtain ⟨n, xs, e⟩ := k.nT a t
    exact (le.keep a _ n e).2 r
  · obtain ⟨_, xs, e⟩ := k.nT a t
    exact ⟨xs, hH _ _ e⟩
/-- a thing of the store changes -/
def Cfg.put (c : Cfg) (j : Nat) (o : HO) (ob : Ob) : Cfg := { c with S := c.S.set j ob, H := upd c.H (c.π j) o }
theorem put_le {j : Nat} (hj : j < c.S.length) {o : HO} {ob : Ob} : Le c (c.put j o ob) := by
  refine ⟨by simp [Cfg.put], fun _ _ => rfl, fun a u n e => ⟨?_, fun ⟨i, l, q⟩ => n ⟨i, by simpa [Cfg.put] using l, q⟩⟩, rfl⟩
  show upd c.H (c.π j) _ a = _
  rw [upd_ne fun q => n ⟨j, hj, q.symm⟩]; exact e
theorem put_ok (k : Ok K mg c) {j : Nat} (hj : j < c.S.length) {o : HO} {ob : Ob} (d : ObR K mg (c.put j o ob) (c.π j) ob) : Ok K mg (c.put j o ob) := by
  have le := put_le (c := c) hj (o := o) (ob := ob)
  refine ⟨fun i u e => ?_, fun a b ha hb q => k.inj a b (by simpa [Cfg.put] using ha) (by simpa [Cfg.put] using hb) q, fun a t => ⟨fun r => ?_, ?_⟩⟩
  · have e' : (c.S.set j ob)[i]? = some u := e
    by_cases z : i = j
    · subst z
      rw [List.getElem?_set_self hj] at e'
      cases e'
      exact d
    · rw [List.getElem?_set_ne (Ne.symm z)] at e'
      exact ob_mono k le rfl (upd_ne fun q => z (k.inj i j (lt_of_get e') hj q)) (k.at_ i u e')
  · obtain ⟨n, xs, e⟩ := k.nT a t
    exact (le.keep a _ n e).2 r
  · obtain ⟨n, xs, e⟩ := k.nT a t
    exact ⟨xs, (le.keep a _ n e).1⟩
end

/-! ### the names' values -/
structure EnD (K : PySem.W.Frag) (mg : Str → Option Value) (c : Cfg) (σ : L2.St) (ρ : En) : Prop where
  len : σ.length = ρ.length
  get : ∀ (i : Nat) (d : D), ρ[i]? = some (some d) → ∃ v, σ[i]? = some (some v) ∧ Den K mg c v d
section
variable {K : PySem.W.Frag} {mg : Str → Option Value} {c c' : Cfg} {σ : L2.St} {ρ : En}
theorem EnD.mw (e : Lw c c') (h : EnD K mg c σ ρ) : EnD K mg c' σ ρ := ⟨h.len, fun i d q => let ⟨v, h1, h2⟩ := h.get i d q; ⟨v, h1, h2.mw e⟩⟩
theorem EnD.mono (e : Le c c') (h : EnD K mg c σ ρ) : EnD K mg c' σ ρ := h.mw e.lw
theorem EnD.set {i : Nat} {v : V} {d : D} (h : EnD K mg c σ ρ) (q : Den K mg c v d) : EnD K mg c (σ.set i (some v)) (ρ.set i (some d)) := by
  refine ⟨by simp [h.len], fun j u e => ?_⟩
  by_cases z : i = j
  · subst z
    have l : i < ρ.length := by have := lt_of_get e; simpa using this
    rw [List.getElem?_set_self l] at e
    cases e
    exact ⟨v, List.getElem?_set_self (by rw [h.len]; exact l), q⟩
  · rw [List.getElem?_set_ne z] at e
    obtain ⟨w, h1, h2⟩ := h.get j u e
    exact ⟨w, by rw [List.getElem?_set_ne z]; exact h1, h2⟩
theorem EnD.clear {i : Nat} (h : EnD K mg c σ ρ) : EnD K mg c (σ.set i none) (ρ.set i none) := by
  refine ⟨by simp [h.len], fun j u e => ?_⟩
  by_cases z : i = j
  · subst z
    have l : i < ρ.length := by have := lt_of_get e; simpa using this
    rw [List.getElem?_set_self l] at e
    cases e
  · rw [List.getElem?_set_ne z] at e
    obtain ⟨w, h1, h2⟩ := h.get j u e
    exact ⟨w, by rw [List.getElem?_set_ne z]; exact h1, h2⟩
def wipeE (ρ : En) : List Nat → En
  | [] => ρ
  | v :: vs => (wipeE ρ vs).set v none
theorem EnD.wipe (h : EnD K mg c σ ρ) : ∀ vs : List Nat, EnD K mg c (L2.wipe σ vs) (wipeE ρ vs)
  | [] => h
  | _ :: vs => (EnD.wipe h vs).clear
end
end M

namespace M
open PySem PySem.Spec L2 W2

abbrev EvF := En → Sto → Option (D × Sto)
abbrev EtF := En → Sto → Option (Bool × Sto)
abbrev EaF := En → Sto → Option (List D × Sto)
inductive Out where
  | nx (ρ : En) | rt (d : D) | bk (ρ : En) | ct (ρ : En)
abbrev StF := En → Sto → Option (Out × Sto)

section
variable (K : PySem.W.Frag) (mg : Str → Option Value)
/-- what is wanted behind a value that was reckoned -/
def Post (c : Cfg) (S' : Sto) (d : D) (Q : VK) : Prop := ∀ v c', Le c c' → Ok K mg c' → c'.S = S' → Den K mg c' v d → Q v c'.H
structure At (c : Cfg) (ρ : En) (σ : L2.St) (H : Hp) : Prop where
  h : c.H = H
  ok : Ok K mg c
  en : EnD K mg c σ ρ
def tM (f : EvF) : TE := fun σ H Q => ∃ c ρ d S', At K mg c ρ σ H ∧ f ρ c.S = some (d, S') ∧ Post K mg c S' d Q
def tT (f : EtF) : TT := fun σ H Q => ∃ c ρ d S', At K mg c ρ σ H ∧ f ρ c.S = some (d, S') ∧ ∀ c', Le c c' → Ok K mg c' → c'.S = S' → Q d c'.H
def tAs (f : EaF) : TA := fun σ H Q => ∃ c ρ ds S', At K mg c ρ σ H ∧ f ρ c.S = some (ds, S') ∧ ∀ vs c', Le c c' → Ok K mg c' → c'.S = S' → DenA K mg c' vs ds → Q vs c'.H
def OutTo (Dd : Ends) (c' : Cfg) : Out → Prop
  | .nx ρ' => ∀ σ', EnD K mg c' σ' ρ' → Dd.nx σ' c'.H
  | .rt d => ∀ v, Den K mg c' v d → Dd.rt v c'.H
  | .bk ρ' => ∀ σ', EnD K mg c' σ' ρ' → Dd.bk σ' c'.H
  | .ct ρ' => ∀ σ', EnD K mg c' σ' ρ' → Dd.ct σ' c'.H
def tS (g : StF) : TS := fun Dd σ H => ∃ c ρ o S', At K mg c ρ σ H ∧ g ρ c.S = some (o, S') ∧ ∀ c', Le c c' → Ok K mg c' → c'.S = S' → OutTo K mg Dd c' o
/-- an operation on values -/
def r2 (op : D → D → Option D) : R2 := fun x y H Q => ∃ c a b z, c.H = H ∧ Ok K mg c ∧ Den K mg c x a ∧ Den K mg c y b ∧ op a b = some z ∧ Post K mg c c.S z Q
end
section
variable {K : PySem.W.Frag} {mg : Str → Option Value} {c c' : Cfg} {ρ : En} {σ : L2.St} {H : Hp} {S' : Sto} {d : D} {Q : VK}
theorem At.of (k : Ok K mg c) (e : EnD K mg c σ ρ) : At K mg c ρ σ c.H := ⟨rfl, k, e⟩
theorem Post.mono (p : Post K mg c S' d Q) (l : Le c c') : Post K mg c' S' d Q := fun v c2 l2 k e q => p v c2 (l.trans l2) k e q
theorem Post.here {v : V} (p : Post K mg c c.S d Q) (k : Ok K mg c) (q : Den K mg c v d) : Q v c.H := p v c (Le.refl c) k rfl q
end

section
variable {X : Cx}
theorem pe_imp {e : Expr} {t t' : TE} (h : PE X e t) (w : ∀ σ H Q, t' σ H Q → t σ H Q) : PE X e t' :=
  ⟨fun pins s σ H Q I q => h.run pins s σ H Q I (w σ H Q q)⟩
theorem pt_imp {e : Expr} {t t' : TT} (h : PT X e t) (w : ∀ σ H Q, t' σ H Q → t σ H Q) : PT X e t' :=
  ⟨fun pins s σ H Q I q => h.run pins s σ H Q I (w σ H Q q)⟩
theorem pw_imp {e : Expr} {t t' : TT} (h : PW X e t) (w : ∀ σ H Q, t' σ H Q → t σ H Q) : PW X e t' :=
  ⟨fun wh pins s σ H Q I q => h.run wh pins s σ H Q I (w σ H Q q)⟩
theorem pa_imp {es : List Expr} {t t' : TA} (h : PA X es t) (w : ∀ σ H Q, t' σ H Q → t σ H Q) : PA X es t' :=
  ⟨fun pos pins s σ H Q I q => h.run pos pins s σ H Q I (w σ H Q q)⟩
theorem ps_imp {st : Stmt} {t t' : TS} (h : PS X st t) (w : ∀ D σ H, t' D σ H → t D σ H) : PS X st t' :=
  ⟨fun pins s σ H D I q => h.run pins s σ H D I (w D σ H q)⟩
theorem pss_imp {st : List Stmt} {t t' : TS} (h : PSs X st t) (w : ∀ D σ H, t' D σ H → t D σ H) : PSs X st t' :=
  ⟨fun pins s σ H D I q => h.run pins s σ H D I (w D σ H q)⟩
end

/-! ### expressions -/
def mVar (i : Nat) : EvF := fun ρ S => (ρ[i]?).bind fun o => o.map fun d => (d, S)
def mC (d : D) : EvF := fun _ S => some (d, S)
def mBin (op : D → D → Option D) (f g : EvF) : EvF := fun ρ S => (f ρ S).bind fun x => (g ρ x.2).bind fun y => (op x.1 y.1).map fun z => (z, y.2)
def mChain (op op' : D → D → Option D) (f g h : EvF) : EvF := fun ρ S => (f ρ S).bind fun x => (g ρ x.2).bind fun y => (op x.1 y.1).bind fun z =>
  match z with
  | .bl true => (h ρ y.2).bind fun w => (op' y.1 w.1).map fun z => (z, w.2)
  | .bl false => some (.bl false, y.2)
  | _ => none
def mAnd (f g : EvF) : EvF := fun ρ S => (f ρ S).bind fun x => match x.1 with
  | .bl true => g ρ x.2
  | .bl false => some (.bl false, x.2)
  | _ => none
def mOr (f g : EvF) : EvF := fun ρ S => (f ρ S).bind fun x => match x.1 with
  | .bl true => some (.bl true, x.2)
  | .bl false => g ρ x.2
  | _ => none
def mNot (f : EvF) : EvF := fun ρ S => (f ρ S).bind fun x => match x.1 with
  | .bl b => some (.bl (!b), x.2)
  | _ => none
def mIf (t : EtF) (f g : EvF) : EvF := fun ρ S => (t ρ S).bind fun b => if b.1 = true then f ρ b.2 else g ρ b.2
def mNil : EaF := fun _ S => some ([], S)
def mCons (f : EvF) (g : EaF) : EaF := fun ρ S => (f ρ S).bind fun x => (g ρ x.2).map fun y => (x.1 :: y.1, y.2)
def mTup (g : EaF) : EvF := fun ρ S => (g ρ S).bind fun x => if x.1.length ≤ 100000 then some (.tup x.1, x.2) else none
def mLst (g : EaF) : EvF := fun ρ S => (g ρ S).bind fun x => if x.1.length ≤ 100000 then some (.lst x.1, x.2) else none
/-- a list that will change -/
def mNew (g : EaF) : EvF := fun ρ S => (g ρ S).bind fun x => if x.1.length ≤ 100000 then some (.ref x.2.length, x.2 ++ [.lst x.1]) else none
/-- tests -/
def mTv (f : EvF) : EtF := fun ρ S => (f ρ S).bind fun x => match x.1 with
  | .bl b => some (b, x.2)
  | _ => none
def mTand (f g : EtF) : EtF := fun ρ S => (f ρ S).bind fun x => if x.1 = true then g ρ x.2 else some (false, x.2)
def mTor (f g : EtF) : EtF := fun ρ S => (f ρ S).bind fun x => if x.1 = true then some (true, x.2) else g ρ x.2
def mTnot (f : EtF) : EtF := fun ρ S => (f ρ S).map fun x => (!x.1, x.2)

theorem bd {α β : Type} {o : Option α} {f : α → Option β} {b : β} (h : o.bind f = some b) : ∃ a, o = some a ∧ f a = some b := Option.bind_eq_some_iff.mp h
theorem mp {α β : Type} {o : Option α} {f : α → β} {b : β} (h : o.map f = some b) : ∃ a, o = some a ∧ f a = b := Option.map_eq_some_iff.mp h
theorem sz5 {n : Nat} (h : n ≤ 100000) : n ≤ sizeLine := Nat.le_trans h (by decide)

section
variable {X : Cx} {pos : Pos} {a b e : Expr} {f g h : EvF} {t u : EtF} {fa : EaF}
abbrev ME (X : Cx) (e : Expr) (f : EvF) : Prop := PE X e (tM X.K X.mg f)
abbrev MT (X : Cx) (e : Expr) (f : EtF) : Prop := PT X e (tT X.K X.mg f)
abbrev MA (X : Cx) (es : List Expr) (f : EaF) : Prop := PA X es (tAs X.K X.mg f)
abbrev OpD (X : Cx) (fn : Value → Value → Sem Value) (op : D → D → Option D) : Prop := OpR X fn (r2 X.K X.mg op)

theorem me_var (i : Nat) {x : Str} {pos : Pos} (hN : X.N[i]? = some x := by rfl)
    (hv : Vis X.env.scope x := by first | exact Or.inl rfl | exact Or.inr (Or.inl rfl) | exact Or.inr (Or.inr rfl))
    (hd : (x == ("__debug__" : Str)) = false := by decide) (hcd : (x == ("__classdict__" : Str)) = false := by decide) : ME X (.Name x pos) (mVar i) :=
  pe_imp (pe_var hN hv hd hcd) <| by
    rintro σ H Q ⟨c, ρ, d, S', ⟨rfl, k, en⟩, q, p⟩
    obtain ⟨o, h1, h2⟩ := bd q
    obtain ⟨d', rfl, h3⟩ := mp h2
    cases h3
    obtain ⟨v, e1, e2⟩ := en.get i _ h1
    exact ⟨v, e1, p.here k e2⟩
theorem me_c {v : V} {d : D} (h : PE X e (tC v)) (r : ∀ c, Den X.K X.mg c v d) : ME X e (mC d) :=
  pe_imp h <| by
    rintro σ H Q ⟨c, ρ, d, S', ⟨rfl, k, en⟩, q, p⟩
    cases q
    exact p.here k (r c)
theorem me_int {i : Int} {j : Nat} : ME X (.Constant (.int i) j pos) (mC (.int i)) := me_c pe_int fun _ => .int i
theorem me_bl {i : Bool} {j : Nat} : ME X (.Constant (.bool i) j pos) (mC (.bl i)) := me_c pe_bl fun _ => .bl i
theorem me_non {j : Nat} : ME X (.Constant .none j pos) (mC .non) := me_c pe_non fun _ => .non
theorem me_str {x : Str} {j : Nat} : ME X (.Constant (.str x) j pos) (mC (.str x)) := me_c pe_str fun _ => .str x
theorem me_glob {x : Str} {v : V} {u : Value} {d : D} (hg : Gl X x) (hm : X.mg x = some u) (r : RelV v u) (q : ∀ c, Den X.K X.mg c v d) (hd : (x == ("__debug__" : Str)) = false := by decide) : ME X (.Name x pos) (mC d) :=
  me_c (pe_glob hg hm r hd) q
theorem op_go {op : D → D → Option D} {σ : L2.St} {H : Hp} {Q : VK} (q : tM X.K X.mg (mBin op f g) σ H Q) : tOp (r2 X.K X.mg op) (tM X.K X.mg f) (tM X.K X.mg g) σ H Q := by
  obtain ⟨c, ρ, d, S', ⟨rfl, k, en⟩, q, p⟩ := q
  obtain ⟨x, h1, q⟩ := bd q
  obtain ⟨y, h2, q⟩ := bd q
  obtain ⟨z, h3, q⟩ := mp q
  cases q
  refine ⟨c, ρ, x.1, x.2, .of k en, h1, fun v c1 l1 k1 e1 D1 => ?_⟩
  refine ⟨c1, ρ, y.1, y.2, .of k1 (en.mono l1), by rw [e1]; exact h2, fun w c2 l2 k2 e2 D2 => ?_⟩
  exact ⟨c2, x.1, y.1, d, rfl, k2, D1.mono l2, D2, h3, by rw [e2]; exact p.mono (l1.trans l2)⟩
theorem me_bin {o : Operator} {op : D → D → Option D} (ho : OpD X (binaryOp o) op) (ha : ME X a f) (hb : ME X b g) : ME X (.BinOp a o b pos) (mBin op f g) :=
  pe_imp (pe_op ho ha hb) fun _ _ _ => op_go
theorem me_cmp {o : CmpOp} {op : D → D → Option D} (ho : OpD X (compareOp o) op) (ha : ME X a f) (hb : ME X b g) (hm : behindInMarks o b = false) : ME X (.Compare a [o] [b] pos) (mBin op f g) :=
  pe_imp (pe_cmpR ho ha hb hm) fun _ _ _ => op_go
theorem mt_of {te : TE} {e : Expr} (h : PT X e (tTest te)) (w : ∀ σ H Q, tM X.K X.mg f σ H Q → te σ H Q) : MT X e (mTv f) :=
  pt_imp h <| by
    rintro σ H Q ⟨c, ρ, d, S', ⟨rfl, k, en⟩, q, p⟩
    obtain ⟨x, h1, q⟩ := bd q
    obtain ⟨x, S1⟩ := x
    cases x <;> try (cases q)
    exact w _ _ _ ⟨c, ρ, _, _, .of k en, h1, fun v c1 l1 k1 e1 D1 => by
      cases D1
      exact ⟨_, rfl, p c1 l1 k1 e1⟩⟩
theorem mt_cmp {o : CmpOp} {op : D → D → Option D} (ho : OpD X (compareOp o) op) (ha : ME X a f) (hb : ME X b g) (hm : behindInMarks o b = false) : MT X (.Compare a [o] [b] pos) (mTv (mBin op f g)) :=
  mt_of (pt_cmpR ho ha hb hm) fun _ _ _ => op_go
theorem mt_val (h : ME X e f) (he : ∀ whole, isTrue e X.env whole = (do let v ← whole; standAt e.pos; holding [v] (truthy v)) := by intro _; rfl) : MT X e (mTv f) :=
  mt_of (pt_val h he) fun _ _ _ q => q
theorem me_chain {o o' : CmpOp} {op op' : D → D → Option D} {b' : Expr} {g' : EvF} (ho : OpD X (compareOp o) op) (ho' : OpD X (compareOp o') op') (ha : ME X a f) (hb : ME X b g) (hc : ME X b' g')
    (hm : lastMarks [o, o'] [b, b'] = false := by with_unfolding_all rfl) : ME X (.Compare a [o, o'] [b, b'] pos) (mChain op op' f g g') :=
  pe_imp (pe_chain ho ho' ha hb hc hm) <| by
    rintro σ H Q ⟨c, ρ, d, S', ⟨rfl, k, en⟩, q, p⟩
    obtain ⟨x, h1, q⟩ := bd q
    obtain ⟨y, h2, q⟩ := bd q
    obtain ⟨z, h3, q⟩ := bd q
    refine ⟨c, ρ, x.1, x.2, .of k en, h1, fun v c1 l1 k1 e1 D1 => ?_⟩
    refine ⟨c1, ρ, y.1, y.2, .of k1 (en.mono l1), by rw [e1]; exact h2, fun w c2 l2 k2 e2 D2 => ?_⟩
    refine ⟨c2, x.1, y.1, z, rfl, k2, D1.mono l2, D2, h3, fun vz c3 l3 k3 e3 D3 => ?_⟩
    cases z <;> try (cases q)
    cases D3
    rename_i bz
    refine ⟨bz, rfl, ?_⟩
    cases bz with
    | false =>
      cases q
      exact p _ c3 ((l1.trans l2).trans l3) k3 (e3.trans e2) (.bl false)
    | true =>
      obtain ⟨w', h4, q⟩ := bd q
      obtain ⟨z', h5, q⟩ := mp q
      cases q
      refine ⟨c3, ρ, w'.1, w'.2, .of k3 (en.mono ((l1.trans l2).trans l3)), by rw [e3, e2]; exact h4, fun vw c4 l4 k4 e4 D4 => ?_⟩
      exact ⟨c4, y.1, w'.1, d, rfl, k4, D2.mono (l3.trans l4), D4, h5, by rw [e4]; exact p.mono (((l1.trans l2).trans l3).trans l4)⟩
theorem me_one {op : BoolOp} (h : ME X a f) : ME X (.BoolOp op [a] pos) f := pe_one h
theorem me_and {rest : List Expr} (ha : ME X a f) (hb : ME X (.BoolOp .And (b :: rest) pos) g) : ME X (.BoolOp .And (a :: b :: rest) pos) (mAnd f g) :=
  pe_imp (pe_and ha hb) <| by
    rintro σ H Q ⟨c, ρ, d, S', ⟨rfl, k, en⟩, q, p⟩
    obtain ⟨⟨x, S1⟩, h1, q⟩ := bd q
    refine ⟨c, ρ, x, S1, .of k en, h1, fun v c1 l1 k1 e1 D1 => ?_⟩
    cases x <;> try (cases q)
    rename_i bx
    cases D1
    refine ⟨bx, rfl, ?_⟩
    cases bx with
    | true => exact ⟨c1, ρ, d, S', .of k1 (en.mono l1), by rw [e1]; exact q, p.mono l1⟩
    | false =>
      cases q
      exact p _ c1 l1 k1 e1 (.bl false)
theorem me_or {rest : List Expr} (ha : ME X a f) (hb : ME X (.BoolOp .Or (b :: rest) pos) g) : ME X (.BoolOp .Or (a :: b :: rest) pos) (mOr f g) :=
  pe_imp (pe_or ha hb) <| by
    rintro σ H Q ⟨c, ρ, d, S', ⟨rfl, k, en⟩, q, p⟩
    obtain ⟨⟨x, S1⟩, h1, q⟩ := bd q
    refine ⟨c, ρ, x, S1, .of k en, h1, fun v c1 l1 k1 e1 D1 => ?_⟩
    cases x <;> try (cases q)
    rename_i bx
    cases D1
    refine ⟨bx, rfl, ?_⟩
    cases bx with
    | false => exact ⟨c1, ρ, d, S', .of k1 (en.mono l1), by rw [e1]; exact q, p.mono l1⟩
    | true =>
      cases q
      exact p _ c1 l1 k1 e1 (.bl true)
theorem me_not (ha : ME X a f) : ME X (.UnaryOp .Not a pos) (mNot f) :=
  pe_imp (pe_not ha) <| by
    rintro σ H Q ⟨c, ρ, d, S', ⟨rfl, k, en⟩, q, p⟩
    obtain ⟨⟨x, S1⟩, h1, q⟩ := bd q
    refine ⟨c, ρ, x, S1, .of k en, h1, fun v c1 l1 k1 e1 D1 => ?_⟩
    cases x <;> try (cases q)
    rename_i bx
    cases D1
    exact ⟨bx, rfl, p _ c1 l1 k1 e1 (.bl _)⟩
theorem me_if {w : Expr} (ht : MT X w t) (ha : ME X a f) (hb : ME X b g) : ME X (.IfExp w a b pos) (mIf t f g) :=
  pe_imp (pe_ifExp ht ha hb) <| by
    rintro σ H Q ⟨c, ρ, d, S', ⟨rfl, k, en⟩, q, p⟩
    obtain ⟨⟨x, S1⟩, h1, q⟩ := bd q
    refine ⟨c, ρ, x, S1, .of k en, h1, fun c1 l1 k1 e1 => ?_⟩
    cases x with
    | true => exact ⟨c1, ρ, d, S', .of k1 (en.mono l1), by rw [e1]; exact q, p.mono l1⟩
    | false => exact ⟨c1, ρ, d, S', .of k1 (en.mono l1), by rw [e1]; exact q, p.mono l1⟩
theorem mt_not (h : MT X a t) : MT X (.UnaryOp .Not a pos) (mTnot t) :=
  pt_imp (pt_not h) <| by
    rintro σ H Q ⟨c, ρ, d, S', ⟨rfl, k, en⟩, q, p⟩
    obtain ⟨x, h1, q⟩ := mp q
    cases q
    exact ⟨c, ρ, x.1, x.2, .of k en, h1, p⟩
abbrev MW (X : Cx) (e : Expr) (f : EtF) : Prop := PW X e (tT X.K X.mg f)
theorem mw_and1 (h : MT X a t) : MW X (.BoolOp .And [a] pos) t := pw_and1 h
theorem mw_or1 (h : MT X a t) : MW X (.BoolOp .Or [a] pos) t := pw_or1 h
theorem mw_and {rest : List Expr} (ha : MT X a t) (hb : MW X (.BoolOp .And (b :: rest) pos) u) : MW X (.BoolOp .And (a :: b :: rest) pos) (mTand t u) :=
  pw_imp (pw_and ha hb) <| by
    rintro σ H Q ⟨c, ρ, d, S', ⟨rfl, k, en⟩, q, p⟩
    obtain ⟨⟨x, S1⟩, h1, q⟩ := bd q
    refine ⟨c, ρ, x, S1, .of k en, h1, fun c1 l1 k1 e1 => ?_⟩
    cases x with
    | true => exact ⟨c1, ρ, d, S', .of k1 (en.mono l1), by rw [e1]; exact q, fun c2 l2 => p c2 (l1.trans l2)⟩
    | false =>
      cases q
      exact p c1 l1 k1 e1
theorem mw_or {rest : List Expr} (ha : MT X a t) (hb : MW X (.BoolOp .Or (b :: rest) pos) u) : MW X (.BoolOp .Or (a :: b :: rest) pos) (mTor t u) :=
  pw_imp (pw_or ha hb) <| by
    rintro σ H Q ⟨c, ρ, d, S', ⟨rfl, k, en⟩, q, p⟩
    obtain ⟨⟨x, S1⟩, h1, q⟩ := bd q
    refine ⟨c, ρ, x, S1, .of k en, h1, fun c1 l1 k1 e1 => ?_⟩
    cases x with
    | false => exact ⟨c1, ρ, d, S', .of k1 (en.mono l1), by rw [e1]; exact q, fun c2 l2 => p c2 (l1.trans l2)⟩
    | true =>
      cases q
      exact p c1 l1 k1 e1
theorem mt_w (h : MW X e t) : MT X e t := h.pt
theorem ma_nil : MA X [] mNil :=
  pa_imp pa_nil <| by
    rintro σ H Q ⟨c, ρ, d, S', ⟨rfl, k, en⟩, q, p⟩
    cases q
    exact p [] c (.refl c) k rfl .nil
theorem ma_cons {es : List Expr} (ha : ME X e f) (hr : MA X es fa) (hs : starEach (e :: es) X.env = (false, eval e X.env) :: starEach es X.env := by rfl) : MA X (e :: es) (mCons f fa) :=
  pa_imp (pa_cons ha hr hs) <| by
    rintro σ H Q ⟨c, ρ, d, S', ⟨rfl, k, en⟩, q, p⟩
    obtain ⟨⟨x, S1⟩, h1, q⟩ := bd q
    obtain ⟨y, h2, q⟩ := mp q
    cases q
    refine ⟨c, ρ, x, S1, .of k en, h1, fun v c1 l1 k1 e1 D1 => ?_⟩
    refine ⟨c1, ρ, y.1, y.2, .of k1 (en.mono l1), by rw [e1]; exact h2, fun vs c2 l2 k2 e2 D2 => ?_⟩
    exact p _ c2 (l1.trans l2) k2 e2 (.cons (D1.mono l2) D2)
theorem den_tup {c : Cfg} {K : PySem.W.Frag} {mg : Str → Option Value} {p : Addr} {vs : List V} {ds : List D} (k : Ok K mg c) (h : c.H p = none) (q : DenA K mg c vs ds) : Den K mg (c.lay p (.tup vs)) (.ref p) (.tup ds) :=
  .tup (.inl ⟨k.nB h, .inl upd_same⟩) (q.mono (lay_le h))
theorem den_lst {c : Cfg} {K : PySem.W.Frag} {mg : Str → Option Value} {p : Addr} {vs : List V} {ds : List D} (k : Ok K mg c) (h : c.H p = none) (q : DenA K mg c vs ds) : Den K mg (c.lay p (.lst vs)) (.ref p) (.lst ds) :=
  .lst ⟨k.nB h, .inl upd_same⟩ (q.mono (lay_le h))
theorem post_tup {K : PySem.W.Frag} {mg : Str → Option Value} {c : Cfg} {ds : List D} {vs : List V} {Q : VK} (P : Post K mg c c.S (.tup ds) Q) (k : Ok K mg c) (q : DenA K mg c vs ds) : ∀ p, c.H p = none → Q (.ref p) (upd c.H p (.tup vs)) :=
  fun p h => P _ (c.lay p (.tup vs)) (lay_le h) (lay_ok k h) rfl (den_tup k h q)
theorem post_lst {K : PySem.W.Frag} {mg : Str → Option Value} {c : Cfg} {ds : List D} {vs : List V} {Q : VK} (P : Post K mg c c.S (.lst ds) Q) (k : Ok K mg c) (q : DenA K mg c vs ds) : ∀ p, c.H p = none → Q (.ref p) (upd c.H p (.lst vs)) :=
  fun p h => P _ (c.lay p (.lst vs)) (lay_le h) (lay_ok k h) rfl (den_lst k h q)
theorem me_tup {es : List Expr} (h : MA X es fa) : ME X (.Tuple es n pos) (mTup fa) :=
  pe_imp (pe_tup h) <| by
    rintro σ H Q ⟨c, ρ, d, S', ⟨rfl, k, en⟩, q, p⟩
    obtain ⟨⟨x, S1⟩, h1, q⟩ := bd q
    by_cases z : x.length ≤ 100000
    · rw [if_pos z] at q
      cases q
      refine ⟨c, ρ, x, S1, .of k en, h1, fun vs c1 l1 k1 e1 D1 => ⟨by rw [D1.length]; exact sz5 z, ?_⟩⟩
      exact post_tup (by rw [e1]; exact p.mono l1) k1 D1
    · rw [if_neg z] at q
      cases q
theorem me_lst {es : List Expr} (h : MA X es fa) : ME X (.List es pos) (mLst fa) :=
  pe_imp (pe_lst h) <| by
    rintro σ H Q ⟨c, ρ, d, S', ⟨rfl, k, en⟩, q, p⟩
    obtain ⟨⟨x, S1⟩, h1, q⟩ := bd q
    by_cases z : x.length ≤ 100000
    · rw [if_pos z] at q
      cases q
      refine ⟨c, ρ, x, S1, .of k en, h1, fun vs c1 l1 k1 e1 D1 => ⟨by rw [D1.length]; exact sz5 z, ?_⟩⟩
      exact post_lst (by rw [e1]; exact p.mono l1) k1 D1
    · rw [if_neg z] at q
      cases q
/-- a new thing of the store -/
theorem post_new {K : PySem.W.Frag} {mg : Str → Option Value} {c : Cfg} {ob : Ob} {p : Addr} {H' : Hp} {Q : VK} (P : Post K mg c (c.S ++ [ob]) (.ref c.S.length) Q) (k : Ok K mg c) (h : c.H p = none) (hH : ∀ a u, c.H a = some u → H' a = some u)
    (d : ObR K mg (c.new p ob H') p ob) : Q (.ref p) H' := by
  have e2 : (c.new p ob H').π c.S.length = p := if_pos rfl
  have w := Den.ref (K := K) (mg := mg) (c := c.new p ob H') (j := c.S.length) (by show _ < (c.S ++ [_]).length; simp)
  rw [e2] at w
  exact P (.ref p) (c.new p ob H') (new_le h hH) (new_ok k h hH d) rfl w
theorem upd_keep {H : Hp} {p : Addr} {o : HO} (h : H p = none) : ∀ a u, H a = some u → upd H p o a = some u := fun a u e => (upd_ne (ne_of_none e h)).trans e
theorem me_new {es : List Expr} (h : MA X es fa) : ME X (.List es pos) (mNew fa) :=
  pe_imp (pe_lst h) <| by
    rintro σ H Q ⟨c, ρ, d, S', ⟨rfl, k, en⟩, q, p⟩
    obtain ⟨⟨x, S1⟩, h1, q⟩ := bd q
    by_cases z : x.length ≤ 100000
    · rw [if_pos z] at q
      cases q
      refine ⟨c, ρ, x, S1, .of k en, h1, fun vs c1 l1 k1 e1 D1 => ⟨by rw [D1.length]; exact sz5 z, fun a ha => ?_⟩⟩
      subst e1
      exact post_new (ob := .lst x) (p.mono l1) k1 ha (upd_keep ha) ⟨vs, upd_same, D1.mono (new_le ha (upd_keep ha))⟩
    · rw [if_neg z] at q
      cases q
end
end M

namespace M
open PySem PySem.Spec L2 W2

/-! ### statements -/
def mRet (f : EvF) : StF := fun ρ S => (f ρ S).map fun x => (.rt x.1, x.2)
def mRetN : StF := fun _ S => some (.rt .non, S)
def mSkip : StF := fun ρ S => some (.nx ρ, S)
def mBrk : StF := fun ρ S => some (.bk ρ, S)
def mCnt : StF := fun ρ S => some (.ct ρ, S)
def mDrop (f : EvF) : StF := fun ρ S => (f ρ S).map fun x => (.nx ρ, x.2)
/-- a target: where a value goes -/
abbrev TgF := En → D → Option En
def gN (i : Nat) : TgF := fun ρ d => some (ρ.set i (some d))
def setAll : List Nat → List D → En → Option En
  | [], [], ρ => some ρ
  | i :: is, d :: ds, ρ => setAll is ds (ρ.set i (some d))
  | _, _, _ => none
def gT (is : List Nat) : TgF := fun ρ d => match d with
  | .tup ds => setAll is ds ρ
  | _ => none
def mAsg (f : EvF) (g : TgF) : StF := fun ρ S => (f ρ S).bind fun x => (g ρ x.1).map fun ρ' => (.nx ρ', x.2)
def mPar (is : List Nat) (f : EaF) : StF := fun ρ S => (f ρ S).bind fun x => (setAll is x.1 ρ).map fun ρ' => (.nx ρ', x.2)
def mIfS (t : EtF) (g h : StF) : StF := fun ρ S => (t ρ S).bind fun b => if b.1 = true then g ρ b.2 else h ρ b.2
def mSeq (g h : StF) : StF := fun ρ S => (g ρ S).bind fun x => match x.1 with
  | .nx ρ' => h ρ' x.2
  | o => some (o, x.2)
def stSet (S : Sto) (j : Nat) (i : Int) (d : D) : Option Sto := match S[j]? with
  | some (.lst xs) => (ixN xs.length i).map fun n => S.set j (.lst (xs.set n d))
  | _ => none
/-- o[i] = e, o a thing of the store -/
def mSetI (f o i : EvF) : StF := fun ρ S => (f ρ S).bind fun x => (o ρ x.2).bind fun y => (i ρ y.2).bind fun z => match y.1, z.1 with
  | .ref j, .int n => (stSet z.2 j n x.1).map fun S' => (.nx ρ, S')
  | _, _ => none

abbrev MS (X : Cx) (st : Stmt) (g : StF) : Prop := PS X st (tS X.K X.mg g)
abbrev MSs (X : Cx) (st : List Stmt) (g : StF) : Prop := PSs X st (tS X.K X.mg g)
def tG (K : PySem.W.Frag) (mg : Str → Option Value) (g : TgF) : TG := fun v σ H Q => ∃ c ρ d ρ', At K mg c ρ σ H ∧ Den K mg c v d ∧ g ρ d = some ρ' ∧ ∀ σ', EnD K mg c σ' ρ' → Q σ' H
abbrev MG (X : Cx) (e : Expr) (g : TgF) : Prop := PG X e (tG X.K X.mg g)
theorem pg_imp {X : Cx} {e : Expr} {t t' : TG} (h : PG X e t) (w : ∀ v σ H Q, t' v σ H Q → t v σ H Q) : PG X e t' :=
  ⟨fun pins s σ H v u Q I r q => h.run pins s σ H v u Q I r (w v σ H Q q)⟩
def gsA (is : List Nat) : TGs := fun vs σ H Q => vs.length = is.length ∧ Q ((is.zip vs).foldl (fun σ p => σ.set p.1 (some p.2)) σ) H
theorem pgs_imp {X : Cx} {e : List Expr} {t t' : TGs} (h : PGs X e t) (w : ∀ v σ H Q, t' v σ H Q → t v σ H Q) : PGs X e t' :=
  ⟨fun pins s σ H v u Q I r q => h.run pins s σ H v u Q I r (w v σ H Q q)⟩
theorem gs_nil {X : Cx} : PGs X [] (gsA []) := pgs_imp pgs_nil <| by
  rintro v σ H Q ⟨h, q⟩
  cases v with
  | nil => exact ⟨rfl, q⟩
  | cons a b => cases h
theorem gs_cons {X : Cx} {es : List Expr} {i : Nat} {is : List Nat} (hs : PGs X es (gCons (gName i) (gsA is))) : PGs X es (gsA (i :: is)) := pgs_imp hs <| by
  rintro v σ H Q ⟨h, q⟩
  cases v with
  | nil => cases h
  | cons a b => exact ⟨a, b, rfl, Nat.succ.inj h, q⟩
theorem setAll_en {K : PySem.W.Frag} {mg : Str → Option Value} {c : Cfg} : ∀ {is : List Nat} {ds : List D} {vs : List V} {ρ ρ' : En} {σ : L2.St}, EnD K mg c σ ρ → DenA K mg c vs ds → setAll is ds ρ = some ρ' →
    EnD K mg c ((is.zip vs).foldl (fun σ p => σ.set p.1 (some p.2)) σ) ρ'
  | [], [], _, _, _, _, en, d, h => by cases d; cases h; exact en
  | i :: is, x :: ds, _, _, _, _, en, d, h => by
    cases d with
    | cons a b => exact setAll_en (is := is) (ds := ds) (en.set (i := i) a) b h
  | [], _ :: _, _, _, _, _, _, _, h => by cases h
  | _ :: _, [], _, _, _, _, _, _, h => by cases h
theorem setAll_len : ∀ {is : List Nat} {ds : List D} {ρ ρ' : En}, setAll is ds ρ = some ρ' → ds.length = is.length
  | [], [], _, _, h => rfl
  | i :: is, x :: ds, _, _, h => by simp [setAll_len (is := is) (ds := ds) h]
  | [], _ :: _, _, _, h => by cases h
  | _ :: _, [], _, _, h => by cases h

section
variable {X : Cx} {pos : Pos} {a b e : Expr} {f : EvF} {t : EtF} {fa : EaF} {g h : StF} {tg : TgF} {st : Stmt} {rest sts : List Stmt}
theorem ms_ret (he : ME X e f) : MS X (.Return (some e) pos) (mRet f) := ps_imp (ps_ret he) <| by
  rintro Dd σ H ⟨c, ρ, o, S', ⟨rfl, k, en⟩, q, p⟩
  obtain ⟨x, h1, q⟩ := mp q
  cases q
  exact ⟨c, ρ, x.1, x.2, .of k en, h1, fun v c1 l1 k1 e1 D1 => p c1 l1 k1 e1 v D1⟩
theorem ms_retN : MS X (.Return none pos) mRetN := ps_imp ps_retN <| by
  rintro Dd σ H ⟨c, ρ, o, S', ⟨rfl, k, en⟩, q, p⟩
  cases q
  exact p c (.refl c) k rfl _ .non
theorem ms_pass : MS X (.Pass pos) mSkip := ps_imp ps_pass <| by
  rintro Dd σ H ⟨c, ρ, o, S', ⟨rfl, k, en⟩, q, p⟩
  cases q
  exact p c (.refl c) k rfl _ en
theorem ms_brk : MS X (.Break pos) mBrk := ps_imp ps_break <| by
  rintro Dd σ H ⟨c, ρ, o, S', ⟨rfl, k, en⟩, q, p⟩
  cases q
  exact p c (.refl c) k rfl _ en
theorem ms_cnt : MS X (.Continue pos) mCnt := ps_imp ps_continue <| by
  rintro Dd σ H ⟨c, ρ, o, S', ⟨rfl, k, en⟩, q, p⟩
  cases q
  exact p c (.refl c) k rfl _ en
theorem ms_drop (hs : PS X st (tDrop (tM X.K X.mg f))) : MS X st (mDrop f) := ps_imp hs <| by
  rintro Dd σ H ⟨c, ρ, o, S', ⟨rfl, k, en⟩, q, p⟩
  obtain ⟨x, h1, q⟩ := mp q
  cases q
  exact ⟨c, ρ, x.1, x.2, .of k en, h1, fun v c1 l1 k1 e1 D1 => p c1 l1 k1 e1 _ (en.mono l1)⟩
theorem mg_name {i : Nat} {x : Str} (hN : X.N.Nodup) (hi : X.N[i]? = some x) (hx : Loc X.env.scope x) (hf : X.fn x = true ∨ X.env.scope.names.lookup x = some .local := by first | exact .inl rfl | exact .inr rfl | assumption) :
    MG X (.Name x pos) (gN i) := pg_imp (pg_name hN hi hx hf) <| by
  rintro v σ H Q ⟨c, ρ, d, ρ', ⟨rfl, k, en⟩, D1, q, p⟩
  cases q
  exact p _ (en.set D1)
theorem mg_tup {es : List Expr} {n : Nat} {is : List Nat} (hc : X.calm = true) (hs : PGs X es (gsA is)) (hl : PG X (.Tuple es n pos) (gTup X.K is.length (gsA is))) : MG X (.Tuple es n pos) (gT is) := pg_imp hl <| by
  rintro v σ H Q ⟨c, ρ, d, ρ', ⟨rfl, k, en⟩, D1, q, p⟩
  cases d <;> try (cases q)
  cases D1 with
  | tup s t =>
    have q' : setAll is _ ρ = some ρ' := q
    have l := setAll_len q'
    exact ⟨_, _, rfl, s.get, t.length.trans l, t.length.trans l, p _ (setAll_en en t q')⟩
theorem ms_asg (hs : PS X st (tAsg (tM X.K X.mg f) (tG X.K X.mg tg))) : MS X st (mAsg f tg) := ps_imp hs <| by
  rintro Dd σ H ⟨c, ρ, o, S', ⟨rfl, k, en⟩, q, p⟩
  obtain ⟨x, h1, q⟩ := bd q
  obtain ⟨ρ', h2, q⟩ := mp q
  cases q
  refine ⟨c, ρ, x.1, x.2, .of k en, h1, fun v c1 l1 k1 e1 D1 => ?_⟩
  exact ⟨c1, ρ, x.1, ρ', .of k1 (en.mono l1), D1, h2, fun σ' en' => p c1 l1 k1 e1 σ' en'⟩
theorem ms_if {c : Expr} (ht : MT X c t) (h1 : MSs X rest g) (h2 : MSs X sts h) : MS X (.If c rest sts pos) (mIfS t g h) := ps_imp (ps_if ht h1 h2) <| by
  rintro Dd σ H ⟨c, ρ, o, S', ⟨rfl, k, en⟩, q, p⟩
  obtain ⟨⟨x, S1⟩, h1, q⟩ := bd q
  refine ⟨c, ρ, x, S1, .of k en, h1, fun c1 l1 k1 e1 => ?_⟩
  cases x with
  | true => exact ⟨c1, ρ, o, S', .of k1 (en.mono l1), by rw [e1]; exact q, fun c2 l2 => p c2 (l1.trans l2)⟩
  | false => exact ⟨c1, ρ, o, S', .of k1 (en.mono l1), by rw [e1]; exact q, fun c2 l2 => p c2 (l1.trans l2)⟩
theorem mss_nil : MSs X [] mSkip := pss_imp pss_nil <| by
  rintro Dd σ H ⟨c, ρ, o, S', ⟨rfl, k, en⟩, q, p⟩
  cases q
  exact p c (.refl c) k rfl _ en
theorem mss_one (h : MS X st g) : MSs X [st] g := pss_one h
theorem mss_cons (h1 : MS X st g) (h2 : MSs X rest h) : MSs X (st :: rest) (mSeq g h) := pss_imp (pss_cons h1 h2) <| by
  rintro Dd σ H ⟨c, ρ, o, S', ⟨rfl, k, en⟩, q, p⟩
  obtain ⟨⟨x, S1⟩, h1, q⟩ := bd q
  refine ⟨c, ρ, x, S1, .of k en, h1, fun c1 l1 k1 e1 => ?_⟩
  cases x with
  | nx ρ' =>
    intro σ' en'
    exact ⟨c1, ρ', o, S', .of k1 en', by rw [e1]; exact q, fun c2 l2 => p c2 (l1.trans l2)⟩
  | rt d => cases q; exact p c1 l1 k1 e1
  | bk ρ' => cases q; exact p c1 l1 k1 e1
  | ct ρ' => cases q; exact p c1 l1 k1 e1
theorem ms_par {i j : Nat} (hs : PS X st (tPar i j (tAs X.K X.mg fa))) : MS X st (mPar [i, j] fa) := ps_imp hs <| by
  rintro Dd σ H ⟨c, ρ, o, S', ⟨rfl, k, en⟩, q, p⟩
  obtain ⟨x, h1, q⟩ := bd q
  obtain ⟨ρ', h2, q⟩ := mp q
  cases q
  refine ⟨c, ρ, x.1, x.2, .of k en, h1, fun vs c1 l1 k1 e1 D1 => ?_⟩
  have l := D1.length.trans (setAll_len h2)
  match vs, l, D1 with
  | [u, v], _, D1 => exact ⟨u, v, rfl, p c1 l1 k1 e1 _ (setAll_en (en.mono l1) D1 h2)⟩
theorem ms_par3 {i j l : Nat} (hs : PS X st (tPar3 i j l (tAs X.K X.mg fa))) : MS X st (mPar [i, j, l] fa) := ps_imp hs <| by
  rintro Dd σ H ⟨c, ρ, o, S', ⟨rfl, k, en⟩, q, p⟩
  obtain ⟨x, h1, q⟩ := bd q
  obtain ⟨ρ', h2, q⟩ := mp q
  cases q
  refine ⟨c, ρ, x.1, x.2, .of k en, h1, fun vs c1 l1 k1 e1 D1 => ?_⟩
  have l := D1.length.trans (setAll_len h2)
  match vs, l, D1 with
  | [u, v, w], _, D1 => exact ⟨u, v, w, rfl, p c1 l1 k1 e1 _ (setAll_en (en.mono l1) D1 h2)⟩
theorem ms_setI {fo fi : EvF} (hs : PS X st (tAsg (tM X.K X.mg f) (gSub (tM X.K X.mg fo) (tM X.K X.mg fi) rSetL))) : MS X st (mSetI f fo fi) := ps_imp hs <| by
  rintro Dd σ H ⟨c, ρ, o, S', ⟨rfl, k, en⟩, q, p⟩
  obtain ⟨⟨x, S1⟩, h1, q⟩ := bd q
  obtain ⟨⟨y, S2⟩, h2, q⟩ := bd q
  obtain ⟨⟨z, S3⟩, h3, q⟩ := bd q
  refine ⟨c, ρ, x, S1, .of k en, h1, fun v c1 l1 k1 e1 D1 => ?_⟩
  refine ⟨c1, ρ, y, S2, .of k1 (en.mono l1), by rw [e1]; exact h2, fun w c2 l2 k2 e2 D2 => ?_⟩
  refine ⟨c2, ρ, z, S3, .of k2 (en.mono (l1.trans l2)), by rw [e2]; exact h3, fun u c3 l3 k3 e3 D3 => ?_⟩
  obtain ⟨j, rfl⟩ : ∃ j, y = .ref j := by
    cases y with
    | ref j => exact ⟨j, rfl⟩
    | _ => cases q
  obtain ⟨n, rfl⟩ : ∃ n, z = .int n := by
    cases z with
    | int n => exact ⟨n, rfl⟩
    | _ => cases q
  have q' : (stSet S3 j n x).map (fun S' => (Out.nx ρ, S')) = some (o, S') := q
  obtain ⟨S4, h4, q'⟩ := mp q'
  cases q'
  unfold stSet at h4
  cases hS : S3[j]? with
  | none => rw [hS] at h4; cases h4
  | some ob =>
    cases ob with
    | dct _ => rw [hS] at h4; cases h4
    | ins _ _ => rw [hS] at h4; cases h4
    | lst xs =>
      rw [hS] at h4
      obtain ⟨m, h5, h6⟩ := mp h4
      have hS' : c3.S[j]? = some (.lst xs) := by rw [e3]; exact hS
      obtain ⟨vs, hv, dv⟩ := k3.at_ j _ hS'
      have D2' := D2.mono l3
      cases D2' with
      | ref hj =>
        cases D3
        refine ⟨c3.π j, vs, n, m, rfl, rfl, hv, by rw [dv.length]; exact h5, ?_⟩
        have dx := dv.set (D1.mono (l2.trans l3)) m
        refine p (c3.put j (.lst (vs.set m v)) (.lst (xs.set m x))) (((l1.trans l2).trans l3).trans (put_le hj)) (put_ok k3 hj ⟨_, upd_same, dx.mono (put_le hj)⟩) ?_ σ (en.mono (((l1.trans l2).trans l3).trans (put_le hj)))
        show c3.S.set j _ = _
        rw [e3]; exact h6
end
end M

namespace M
open PySem PySem.Spec L2 W2 RZ

/-! ### defs -/
abbrev Fn := List D → Sto → Option (D × Sto)
/-- a def with n names whose body is g -/
def mDef (n : Nat) (g : StF) : Fn := fun ds S => (g (ds.map some ++ List.replicate (n - ds.length) none) S).bind fun x => match x.1 with
  | .rt d => some (d, x.2)
  | .nx _ => some (.non, x.2)
  | _ => none
def spM (K : PySem.W.Frag) (mg : Str → Option Value) (np : Nat) (F : Fn) : Sp := fun vs H Q _ => vs.length = np ∧ ∃ c ds d S', c.H = H ∧ Ok K mg c ∧ DenA K mg c vs ds ∧ F ds c.S = some (d, S') ∧ Post K mg c S' d Q
theorem start_en {K : PySem.W.Frag} {mg : Str → Option Value} {c : Cfg} {N : List Str} {vs : List V} {ds : List D} (h : DenA K mg c vs ds) : EnD K mg c (L2.start N vs) (ds.map some ++ List.replicate (N.length - ds.length) none) := by
  have l := h.length
  refine ⟨by unfold L2.start; simp [l], fun i d q => ?_⟩
  unfold L2.start
  by_cases z : i < ds.length
  · rw [List.getElem?_append_left (by simpa using z), List.getElem?_map] at q
    cases e : ds[i]? with
    | none => rw [e] at q; cases q
    | some u =>
      rw [e] at q
      cases q
      obtain ⟨v, h1, h2⟩ := h.get e
      refine ⟨v, ?_, h2⟩
      rw [List.getElem?_append_left (by simpa [l] using z), List.getElem?_map, h1]
      rfl
  · rw [List.getElem?_append_right (by simpa using z), List.getElem?_replicate] at q
    split at q <;> cases q
structure Cal (P : Program) (w : World) (K : PySem.W.Frag) (mg : Str → Option Value) (base : Heap) (k : Nat) (x : Str) (np : Nat) (F : Fn) : Prop where
  ex : ∃ (f : Addr) (fd : FuncData) (ps : List Str), mg x = some (.ref f) ∧ PySem.W.keepIn K (.ref f) = true ∧ Binds K fd ps [] ∧ FnG P w K mg base k f fd ps (spM K mg np F) ∧ ps.length = np
theorem Cal.mono {P : Program} {w : World} {K : PySem.W.Frag} {mg : Str → Option Value} {base : Heap} {k j : Nat} {x : Str} {np : Nat} {F : Fn} (h : Cal P w K mg base k x np F) (l : k ≤ j) : Cal P w K mg base j x np F := by
  obtain ⟨f, fd, ps, a, b, c, d, e⟩ := h.ex
  exact ⟨f, fd, ps, a, b, c, ⟨d.len, fun A o s H ar us vs Q E hr => d.run A o s H ar us vs Q E (hr.mono l)⟩, e⟩
theorem def_ok {P : Program} {w : World} {K : PySem.W.Frag} {mg : Str → Option Value} {base : Heap} {x qual : Str} {st : Stmt} {f : Addr} {fd : FuncData} {N ps : List Str} {k : Nat} {g : StF} (F : Fun K x qual st f fd) (S : FnScope N ps (defScope st))
    (body : ∀ (c : Value) (A : Around) (o : List Env) (s : Shared) (H : Hp) (E : XK), Rm k (A.deeper (PyProof.Rows.envOfC qual (defScope st) s.heap.objs.size f c)) → MSs (cxOf (L2.CX P w) P w K mg base N qual (defScope st) f c A o s H E).nox (defBody st) g) :
    FnG P w K mg base (k + 1) f fd ps (spM K mg ps.length (mDef N.length g)) := by
  refine fnG_of F S (fun vs H Q E h => h.1) fun c A o s H vs Q E hr h => ⟨_, body c A o s H E hr, ?_⟩
  obtain ⟨hl, cf, ds, d, S', rfl, k, D1, q, p⟩ := h
  obtain ⟨⟨x, S1⟩, h1, q⟩ := bd q
  refine ⟨cf, _, x, S1, .of k (start_en D1), h1, fun c1 l1 k1 e1 => ?_⟩
  cases x with
  | nx ρ' =>
    cases q
    exact fun σ' en' => p _ c1 l1 k1 e1 .non
  | rt d' =>
    cases q
    exact fun v D2 => p v c1 l1 k1 e1 D2
  | bk ρ' => cases q
  | ct ρ' => cases q
def mCall (F : Fn) (fa : EaF) : EvF := fun ρ S => (fa ρ S).bind fun x => F x.1 x.2
section
variable {X : Cx} {pos p : Pos} {e : Expr} {es : List Expr} {f : EvF} {fa : EaF} {k np : Nat} {x : Str} {F : Fn}
theorem arg_len {K : PySem.W.Frag} {mg : Str → Option Value} {c : Cfg} : ∀ {ds : List D} {vs : List V}, DenA K mg c vs ds → vs.length = ds.length := fun h => h.length
theorem me_call (C : Cal X.prog X.w X.K X.mg X.base k x np F) (hr : Rm k X.A) (hg : Gl X x) (ha : MA X (e :: es) fa) (hn : ∀ ρ S ds S', fa ρ S = some (ds, S') → ds.length = np)
    (hdb : (x == ("__debug__" : Str)) = false := by decide) (he : starEach (e :: es) X.env = (false, eval e X.env) :: starEach es X.env := by rfl) (hpl : (backTo pos (starEach es X.env)).any (·.1) = false := by rfl) :
    ME X (.Call (.Name x p) (e :: es) [] pos) (mCall F fa) := by
  obtain ⟨f, fd, ps, hm, hk, hb, G, hl⟩ := C.ex
  refine pe_imp (pe_G G hr hg hm hk hb ha hdb he hpl) ?_
  rintro σ H Q ⟨c, ρ, d, S', ⟨rfl, k, en⟩, q, p⟩
  obtain ⟨⟨ds, S1⟩, h1, q⟩ := bd q
  refine ⟨c, ρ, ds, S1, .of k en, h1, fun vs c1 l1 k1 e1 D1 => ?_⟩
  exact ⟨by rw [D1.length]; exact hn _ _ _ _ h1, c1, ds, d, S', rfl, k1, D1, by rw [e1]; exact q, p.mono l1⟩
end
theorem mcons_len {f : EvF} {g : EaF} {n : Nat} (h : ∀ ρ S ds S', g ρ S = some (ds, S') → ds.length = n) : ∀ ρ S ds S', mCons f g ρ S = some (ds, S') → ds.length = n + 1 := by
  intro ρ S ds S' q
  obtain ⟨x, h1, q⟩ := bd q
  obtain ⟨y, h2, q⟩ := mp q
  cases q
  simp [h _ _ _ _ h2]
theorem mnil_len : ∀ ρ S ds S', mNil ρ S = some (ds, S') → ds.length = 0 := by
  intro ρ S ds S' q
  cases q
  rfl

/-! ### what is walked -/
/-- the iterator gives the things ds, wherever one stands behind c -/
def Enum (K : PySem.W.Frag) (mg : Str → Option Value) (c : Cfg) (J : It) (ds : List D) : Prop := ∀ i c1, Lw c c1 → Ok K mg c1 →
  (∀ d, ds[i]? = some d → J.go i c1.H ∧ ∀ x H', J.yld i c1.H x H' → ∃ c2, c2.H = H' ∧ Le c1 c2 ∧ Ok K mg c2 ∧ c2.S = c1.S ∧ Den K mg c2 x d) ∧ (ds.length ≤ i → J.stop i c1.H)
abbrev SrF := En → Sto → Option (List D × Sto)
def tI (K : PySem.W.Frag) (mg : Str → Option Value) (f : SrF) : TI := fun σ H R => ∃ c ρ ds S', At K mg c ρ σ H ∧ f ρ c.S = some (ds, S') ∧ ∀ J c1, Le c c1 → Ok K mg c1 → c1.S = S' → Enum K mg c1 J ds → R J c1.H
abbrev MI (X : Cx) (tg it : Expr) (f : SrF) : Prop := PI X tg it (tI X.K X.mg f)
theorem pi_imp {X : Cx} {a e : Expr} {t t' : TI} (h : PI X a e t) (w : ∀ σ H R, t' σ H R → t σ H R) : PI X a e t' :=
  ⟨fun pins s σ H R I q => h.run pins s σ H R I (w σ H R q)⟩
/-- a list that stays, a tuple -/
def sL (f : EvF) : SrF := fun ρ S => (f ρ S).bind fun x => match x.1 with
  | .lst ds => some (ds, x.2)
  | _ => none
def sT (f : EvF) : SrF := fun ρ S => (f ρ S).bind fun x => match x.1 with
  | .tup ds => some (ds, x.2)
  | _ => none
def upto (n : Nat) : List D := (List.range n).map fun (i : Nat) => D.int (i : Int)
def sR (f : EaF) : SrF := fun ρ S => (f ρ S).bind fun x => match x.1 with
  | [.int n] => if n ≤ 1000000 ∧ -1000000 ≤ n then some (upto n.toNat, x.2) else none
  | _ => none
def sS (f : EvF) : SrF := fun ρ S => (f ρ S).bind fun x => match x.1 with
  | .str z => some (z.cps.toList.map fun c => .str ⟨#[c]⟩, x.2)
  | _ => none
def sZ (f : EaF) : SrF := fun ρ S => (f ρ S).bind fun x => match x.1 with
  | [.tup as, .tup bs] => some (List.zipWith (fun a b => .tup [a, b]) as bs, x.2)
  | _ => none
theorem one_int {α : Type} {g : Int → Option α} {d : α} (x : List D) (k : Unit) (q : (match x with | [.int n] => g n | _ => none) = some d) : ∃ n, x = [.int n] := by
  split at q
  · exact ⟨_, rfl⟩
  · cases q
theorem two_tup {α : Type} {g : List D → List D → Option α} {d : α} (x : List D) (k : Unit) (q : (match x with | [.tup as, .tup bs] => g as bs | _ => none) = some d) : ∃ as bs, x = [.tup as, .tup bs] := by
  split at q
  · exact ⟨_, _, rfl⟩
  · cases q
section
variable {X : Cx} {tg it : Expr} {f : EvF} {fa : EaF}
theorem DenA.getd {K : PySem.W.Frag} {mg : Str → Option Value} {c : Cfg} : ∀ {ds : List D} {vs : List V} {i : Nat} {v : V}, DenA K mg c vs ds → vs[i]? = some v → ∃ d, ds[i]? = some d ∧ Den K mg c v d
  | [], _, _, _, h, e => by cases h; simp at e
  | d :: ds, _, 0, _, h, e => by
    cases h with
    | cons a b => simp at e; subst e; exact ⟨_, rfl, a⟩
  | d :: ds, _, i + 1, _, h, e => by
    cases h with
    | cons a b =>
      obtain ⟨x, h1, h2⟩ := DenA.getd (i := i) b (by simpa using e)
      exact ⟨x, by simpa using h1, h2⟩
theorem enum_l {K : PySem.W.Frag} {mg : Str → Option Value} {c : Cfg} {a : Addr} {vs : List V} {ds : List D} (s : Sl K c a vs) (t : DenA K mg c vs ds) : Enum K mg c (Itl K a) ds := by
  intro i c1 l k
  have s1 := (s.mw l).get
  refine ⟨fun d e => ?_, fun h => ⟨vs, s1, by rw [t.length]; exact h⟩⟩
  obtain ⟨v, h1, h2⟩ := t.get e
  refine ⟨⟨vs, v, s1, h1⟩, ?_⟩
  rintro x H' ⟨rfl, q⟩
  have := q vs s1
  rw [h1] at this
  cases this
  exact ⟨c1, rfl, .refl _, k, rfl, h2.mw l⟩
theorem enum_t {K : PySem.W.Frag} {mg : Str → Option Value} {c : Cfg} {a : Addr} {vs : List V} {ds : List D} (s : Tl K c a vs) (t : DenA K mg c vs ds) : Enum K mg c (Itt K a) ds := by
  intro i c1 l k
  have s1 := (s.mw l).get
  refine ⟨fun d e => ?_, fun h => ⟨vs, s1, by rw [t.length]; exact h⟩⟩
  obtain ⟨v, h1, h2⟩ := t.get e
  refine ⟨⟨vs, v, s1, h1⟩, ?_⟩
  rintro x H' ⟨rfl, q⟩
  have := q vs s1
  rw [h1] at this
  cases this
  exact ⟨c1, rfl, .refl _, k, rfl, h2.mw l⟩
theorem mi_list (h : PI X tg it (iList X.K (tM X.K X.mg f))) : MI X tg it (sL f) := pi_imp h <| by
  rintro σ H R ⟨c, ρ, ds, S', ⟨rfl, k, en⟩, q, p⟩
  obtain ⟨⟨x, S1⟩, h1, q⟩ := bd q
  cases x <;> try (cases q)
  refine ⟨c, ρ, _, _, .of k en, h1, fun v c1 l1 k1 e1 D1 => ?_⟩
  cases D1 with
  | lst s t => exact ⟨_, rfl, ⟨_, s.get⟩, p _ c1 l1 k1 e1 (enum_l (.inl s) t)⟩
theorem mi_tup (h : PI X tg it (iTup X.K (tM X.K X.mg f))) : MI X tg it (sT f) := pi_imp h <| by
  rintro σ H R ⟨c, ρ, ds, S', ⟨rfl, k, en⟩, q, p⟩
  obtain ⟨⟨x, S1⟩, h1, q⟩ := bd q
  cases x <;> try (cases q)
  refine ⟨c, ρ, _, _, .of k en, h1, fun v c1 l1 k1 e1 D1 => ?_⟩
  cases D1 with
  | tup s t => exact ⟨_, rfl, ⟨_, s.get⟩, p _ c1 l1 k1 e1 (enum_t s t)⟩
theorem mi_range (h : PI X tg it (iRng1 (tAs X.K X.mg fa))) : MI X tg it (sR fa) := pi_imp h <| by
  rintro σ H R ⟨c, ρ, ds, S', ⟨rfl, k, en⟩, q, p⟩
  obtain ⟨⟨x, S1⟩, h1, q⟩ := bd q
  obtain ⟨n, rfl⟩ : ∃ n, x = [.int n] := one_int x () q
  have q' : (if n ≤ 1000000 ∧ -1000000 ≤ n then some (upto n.toNat, S1) else none) = some (ds, S') := q
  by_cases z : n ≤ 1000000 ∧ -1000000 ≤ n
  · rw [if_pos z] at q'
    cases q'
    refine ⟨c, ρ, _, _, .of k en, h1, fun vs c1 l1 k1 e1 D1 => ?_⟩
    cases D1 with
    | cons a b =>
      cases b
      cases a
      refine ⟨n, rfl, by omega, by omega, p _ c1 l1 k1 e1 fun i c2 l2 k2 => ⟨fun d e => ?_, fun hl => ?_⟩⟩
      · unfold upto at e
        rw [List.getElem?_map] at e
        obtain ⟨j, e1, e2⟩ := Option.map_eq_some_iff.mp e
        have l := lt_of_get e1
        rw [List.getElem?_range (by simpa using l)] at e1
        cases e1
        subst e2
        refine ⟨by show i < n.toNat; simpa using l, ?_⟩
        rintro x H' ⟨rfl, rfl⟩
        exact ⟨c2, rfl, .refl _, k2, rfl, by rw [Int.zero_add]; exact .int _⟩
      · show n.toNat ≤ i
        have : (upto n.toNat).length = n.toNat := by simp [upto]
        omega
  · rw [if_neg z] at q'
    cases q'
theorem mi_str (h : PI X tg it (iStr (tM X.K X.mg f))) : MI X tg it (sS f) := pi_imp h <| by
  rintro σ H R ⟨c, ρ, ds, S', ⟨rfl, k, en⟩, q, p⟩
  obtain ⟨⟨x, S1⟩, h1, q⟩ := bd q
  cases x <;> try (cases q)
  rename_i z
  refine ⟨c, ρ, _, _, .of k en, h1, fun v c1 l1 k1 e1 D1 => ?_⟩
  cases D1
  refine ⟨z, rfl, p _ c1 l1 k1 e1 fun i c2 l2 k2 => ⟨fun d e => ?_, fun hl => ?_⟩⟩
  · rw [List.getElem?_map] at e
    obtain ⟨j, e1, e2⟩ := Option.map_eq_some_iff.mp e
    subst e2
    rw [Array.getElem?_toList] at e1
    refine ⟨(Array.getElem?_eq_some_iff.mp e1).1, ?_⟩
    rintro x H' ⟨rfl, y, e3, rfl⟩
    rw [e1] at e3
    cases e3
    exact ⟨c2, rfl, .refl _, k2, rfl, .str _⟩
  · show z.cps.size ≤ i
    simpa using hl
theorem zip_get {α β γ : Type} {g : α → β → γ} {as : List α} {bs : List β} {i : Nat} {d : γ} (h : (List.zipWith g as bs)[i]? = some d) : ∃ a b, as[i]? = some a ∧ bs[i]? = some b ∧ d = g a b := by
  rw [List.getElem?_zipWith] at h
  cases e1 : as[i]? with
  | none => rw [e1] at h; cases h
  | some a =>
    cases e2 : bs[i]? with
    | none => rw [e1, e2] at h; cases h
    | some b => rw [e1, e2] at h; cases h; exact ⟨a, b, rfl, rfl, rfl⟩
theorem mi_zip (h : PI X tg it (iZipA X.K (tAs X.K X.mg fa))) : MI X tg it (sZ fa) := pi_imp h <| by
  rintro σ H R ⟨c, ρ, ds, S', ⟨rfl, k, en⟩, q, p⟩
  obtain ⟨⟨x, S1⟩, h1, q⟩ := bd q
  obtain ⟨as, bs, rfl⟩ : ∃ as bs, x = [.tup as, .tup bs] := two_tup x () q
  have q' : some (List.zipWith (fun a b => D.tup [a, b]) as bs, S1) = some (ds, S') := q
  cases q'
  refine ⟨c, ρ, _, _, .of k en, h1, fun vs c1 l1 k1 e1 D1 => ?_⟩
  cases D1 with
  | cons da D1 =>
    cases D1 with
    | cons db D1 =>
      cases D1
      cases da with
      | tup sa ta =>
        cases db with
        | tup sb tb =>
          refine ⟨_, _, _, _, rfl, .inr ⟨sa.get, sb.get, p _ c1 l1 k1 e1 fun i c2 l2 k2 => ?_⟩⟩
          have sa2 := (sa.mw l2).get
          have sb2 := (sb.mw l2).get
          refine ⟨fun d e => ?_, fun hl => ⟨_, _, sa2, sb2, ?_⟩⟩
          · obtain ⟨a, b, g1, g2, rfl⟩ := zip_get e
            obtain ⟨va, h1, ha⟩ := ta.get g1
            obtain ⟨vb, h2, hb⟩ := tb.get g2
            refine ⟨⟨_, _, va, vb, sa2, sb2, h1, h2⟩, ?_⟩
            rintro x H' ⟨T, x, y, rfl, hT, rfl, q1, q2⟩
            have r1 := q1 _ sa2
            have r2 := q2 _ sb2
            rw [h1] at r1
            rw [h2] at r2
            cases r1
            cases r2
            exact ⟨c2.lay T (.tup [va, vb]), rfl, lay_le hT, lay_ok k2 hT, rfl, den_tup k2 hT (.cons (ha.mw l2) (.cons (hb.mw l2) .nil))⟩
          · rw [ta.length, tb.length]
            have := List.length_zipWith (f := fun a b : D => D.tup [a, b]) (l₁ := as) (l₂ := bs)
            rw [this] at hl
            omega
end

/-! ### for -/
def loop (tg : TgF) (g : StF) : List D → StF
  | [], ρ, S => some (.nx ρ, S)
  | d :: ds, ρ, S => (tg ρ d).bind fun ρ1 => (g ρ1 S).bind fun x => match x.1 with
    | .nx ρ' => loop tg g ds ρ' x.2
    | .ct ρ' => loop tg g ds ρ' x.2
    | .bk ρ' => some (.nx ρ', x.2)
    | .rt d => some (.rt d, x.2)
def mFor (sr : SrF) (tg : TgF) (g : StF) : StF := fun ρ S => (sr ρ S).bind fun x => loop tg g x.1 ρ x.2
section
variable {X : Cx} {st : Stmt} {sr : SrF} {tg : TgF} {g : StF}
theorem ms_for (h : PS X st (tFor (tI X.K X.mg sr) (tG X.K X.mg tg) (tS X.K X.mg g))) : MS X st (mFor sr tg g) := ps_imp h <| by
  rintro Dd σ H ⟨c, ρ, o, S', ⟨rfl, k, en⟩, q, p⟩
  obtain ⟨⟨ds, S1⟩, h1, q⟩ := bd q
  refine ⟨c, ρ, ds, S1, .of k en, h1, fun J c1 l1 k1 e1 En => ?_⟩
  let W : Nat → L2.St → Hp → Prop := fun i σ H => ∃ c2 ρ2, At X.K X.mg c2 ρ2 σ H ∧ Le c1 c2 ∧ i ≤ ds.length ∧ loop tg g (ds.drop i) ρ2 c2.S = some (o, S')
  refine ⟨fun i m σ H => m = ds.length - i ∧ W i σ H, ⟨_, rfl, c1, ρ, .of k1 (en.mono l1), .refl _, Nat.zero_le _, by rw [e1]; exact q⟩, ?_⟩
  rintro i m σ' H' ⟨rfl, c2, ρ2, ⟨rfl, k2, en2⟩, l2, hi, q2⟩
  obtain ⟨Eg, Es⟩ := En i c2 l2.lw k2
  by_cases z : i < ds.length
  · right
    have e : ds[i]? = some ds[i] := List.getElem?_eq_getElem z
    obtain ⟨hg, hy⟩ := Eg _ e
    rw [List.drop_eq_getElem_cons z] at q2
    obtain ⟨ρ3, g1, q2⟩ := bd q2
    obtain ⟨⟨x, S3⟩, g2, q2⟩ := bd q2
    refine ⟨hg, W (i + 1), fun σ3 H3 w => ⟨ds.length - (i + 1), by omega, rfl, w⟩, fun v H3 y => ?_⟩
    obtain ⟨c3, rfl, l3, k3, e3, D3⟩ := hy v H3 y
    refine ⟨c3, ρ2, _, ρ3, .of k3 (en2.mono l3), D3, g1, fun σ4 en4 => ?_⟩
    refine ⟨c3, ρ3, x, S3, .of k3 en4, by rw [e3]; exact g2, fun c4 l4 k4 e4 => ?_⟩
    cases x with
    | nx ρ' => exact fun σ5 en5 => ⟨c4, ρ', .of k4 en5, l2.trans (l3.trans l4), z, by rw [e4]; exact q2⟩
    | ct ρ' => exact fun σ5 en5 => ⟨c4, ρ', .of k4 en5, l2.trans (l3.trans l4), z, by rw [e4]; exact q2⟩
    | bk ρ' =>
      cases q2
      exact p c4 (l1.trans (l2.trans (l3.trans l4))) k4 e4
    | rt d =>
      cases q2
      exact p c4 (l1.trans (l2.trans (l3.trans l4))) k4 e4
  · left
    have hl : ds.length ≤ i := by omega
    refine ⟨Es hl, ?_⟩
    rw [List.drop_eq_nil_of_le hl] at q2
    cases q2
    exact p c2 (l1.trans l2) k2 rfl σ' en2
end

/-! ### list comprehensions, one name -/
theorem ob_mw {K : PySem.W.Frag} {mg : Str → Option Value} {c c' : Cfg} (k : Ok K mg c) (e : Lw c c') {p : Addr} {o : Ob} (h : c'.H p = c.H p) (q : ObR K mg c p o) : ObR K mg c' p o := by
  cases o with
  | lst xs =>
    obtain ⟨vs, h1, h2⟩ := q
    exact ⟨vs, h.trans h1, h2.mw e⟩
  | dct xs =>
    obtain ⟨vs, h1, h2⟩ := q
    exact ⟨vs, h.trans h1, h2.mw e⟩
  | ins cn fs =>
    obtain ⟨C, dx, vs, h0, h1, h3, h2⟩ := q
    exact ⟨C, dx, vs, h0, h.trans h1, (e.nB dx _ (k.nBo h3 rfl) h3).1, h2.mw e⟩

def mapL (te : EvF) (tt : EtF) (j : Nat) (ρ : En) : List D → Sto → Option (List D × Sto)
  | [], S => some ([], S)
  | d :: ds, S => (tt (ρ.set j (some d)) S).bind fun b => if b.1 = true then
      (te (ρ.set j (some d)) b.2).bind fun y => (mapL te tt j ρ ds y.2).map fun r => (y.1 :: r.1, r.2)
    else mapL te tt j ρ ds b.2
def mLc (sr : SrF) (j : Nat) (tt : EtF) (te : EvF) : EvF := fun ρ S => (sr ρ S).bind fun x => (mapL te tt j (ρ.set j none) x.1 x.2).bind fun r => if r.1.length ≤ 100000 then some (.lst r.1, r.2) else none
def mYes : EtF := fun _ S => some (true, S)
theorem yes_go {K : PySem.W.Frag} {mg : Str → Option Value} {σ : L2.St} {H : Hp} {Q : Bool → Hp → Prop} (h : tT K mg mYes σ H Q) : tYes σ H Q := by
  obtain ⟨c, ρ, d, S', ⟨rfl, k, en⟩, q, p⟩ := h
  cases q
  exact p c (.refl c) k rfl
section
variable {X : Cx} {e : Expr} {sr : SrF} {tt : EtF} {te : EvF} {j : Nat}
theorem wipe_one (σ : L2.St) (j : Nat) (x : V) : wipe ((wipe σ [j]).set j (some x)) [j] = wipe σ [j] := by
  show (((σ.set j none).set j (some x)).set j none) = σ.set j none
  rw [List.set_set, List.set_set]
theorem lc_go {σ : L2.St} {H : Hp} {Q : VK} (h : tM X.K X.mg (mLc sr j tt te) σ H Q) : tLc (tI X.K X.mg sr) (gName j) (tT X.K X.mg tt) (tM X.K X.mg te) [j] σ H Q := by
  obtain ⟨c, ρ, d, S', ⟨rfl, k, en⟩, q, p⟩ := h
  obtain ⟨⟨ds, S1⟩, h1, q⟩ := bd q
  obtain ⟨⟨rs, S2⟩, h2, q⟩ := bd q
  have hz : rs.length ≤ 100000 := by
    by_cases z : rs.length ≤ 100000
    · exact z
    · rw [if_neg z] at q; cases q
  rw [if_pos hz] at q
  cases q
  refine ⟨c, ρ, ds, S1, .of k en, h1, fun J c1 l1 k1 e1 En Dl hD => ?_⟩
  let ρ0 := ρ.set j none
  -- the configuration while the list grows: Dl is shut out
  let W : Nat → Hp → Prop := fun i H => ∃ (c2 : Cfg) (acc : List V) (as bs : List D), c2.H = H ∧ Ok X.K X.mg c2 ∧ Lw c1 c2 ∧ (∀ a o, ¬ c1.Rg a → c1.H a = some o → c2.H a = some o ∧ ¬ c2.Rg a) ∧ c2.T = (fun a => c1.T a ∨ a = Dl) ∧
    c2.H Dl = some (.lst acc) ∧ DenA X.K X.mg c2 acc as ∧ i ≤ ds.length ∧ mapL te tt j ρ0 (ds.drop i) c2.S = some (bs, S2) ∧ as ++ bs = rs
  have c1n : ¬ c1.Rg Dl := fun q => ok_some k1 q hD
  refine ⟨fun i m H => m = ds.length - i ∧ W i H, ⟨_, rfl, { c1 with H := upd c1.H Dl (.lst []), T := fun a => c1.T a ∨ a = Dl }, [], [], rs, rfl, ?_, ?_, ?_, rfl, upd_same, .nil, Nat.zero_le _, by rw [← e1] at h2; exact h2, rfl⟩, ?_⟩
  · have lw : Lw c1 { c1 with H := upd c1.H Dl (.lst []), T := fun a => c1.T a ∨ a = Dl } := ⟨Nat.le_refl _, fun _ _ => rfl, fun a o n e => ⟨by show upd c1.H Dl _ a = _; rw [upd_ne (ne_of_none e hD)]; exact e, fun q => q.elim (fun q => n (.inl q)) fun q => q.elim (fun q => n (.inr q)) fun q => ne_of_none e hD q⟩⟩
    refine ⟨fun i xs q => ?_, k1.inj, fun a t => ?_⟩
    · obtain ⟨u, q1, _⟩ := rg_mu k1 ⟨i, lt_of_get q, rfl⟩
      exact ob_mw k1 lw (upd_ne (ne_of_none q1 hD)) (k1.at_ i xs q)
    · rcases t with t | t
      · obtain ⟨n, xs, e⟩ := k1.nT a t
        exact ⟨n, xs, (upd_ne (ne_of_none e hD)).trans e⟩
      · rw [t]
        exact ⟨c1n, [], upd_same⟩
  · exact ⟨Nat.le_refl _, fun _ _ => rfl, fun a o n e => ⟨by show upd c1.H Dl _ a = _; rw [upd_ne (ne_of_none e hD)]; exact e, fun q => q.elim (fun q => n (.inl q)) fun q => q.elim (fun q => n (.inr q)) fun q => ne_of_none e hD q⟩⟩
  · exact fun a o n e => ⟨by show upd c1.H Dl _ a = _; rw [upd_ne (ne_of_none e hD)]; exact e, n⟩
  rintro i m H' ⟨rfl, c2, acc, as, bs, rfl, k2, lw, kp, hT, hDl, Da, hi, q2, hr⟩
  have nD : ¬ c2.Rg Dl := (k2.nT Dl (by rw [hT]; exact .inr rfl)).1
  obtain ⟨Eg, Es⟩ := En i c2 lw k2
  by_cases z : i < ds.length
  · right
    have e : ds[i]? = some ds[i] := List.getElem?_eq_getElem z
    obtain ⟨hg, hy⟩ := Eg _ e
    rw [List.drop_eq_getElem_cons z] at q2
    obtain ⟨⟨b, S3⟩, g1, q2⟩ := bd q2
    refine ⟨hg, W (i + 1), fun H3 w => ⟨ds.length - (i + 1), by omega, rfl, w⟩, fun v H3 y => ?_⟩
    obtain ⟨c3, rfl, l3, k3, e3, D3⟩ := hy v H3 y
    refine ⟨wipe_one σ j v, ?_⟩
    have en0 : EnD X.K X.mg c2 (wipe σ [j]) ρ0 := (EnD.mw ((l1.lw).trans lw) en).wipe [j]
    have en3 : EnD X.K X.mg c3 ((wipe σ [j]).set j (some v)) (ρ0.set j (some ds[i])) := (en0.mono l3).set D3
    refine ⟨c3, _, b, S3, .of k3 en3, by rw [e3]; exact g1, fun c4 l4 k4 e4 => ?_⟩
    have l24 : Le c2 c4 := l3.trans l4
    cases b with
    | false =>
      have q2 : mapL te tt j ρ0 (ds.drop (i + 1)) S3 = some (bs, S2) := q2
      refine ⟨c4, acc, as, bs, rfl, k4, lw.trans l24.lw, fun a o n e => ?_, l24.T.trans hT, (l24.keep Dl _ nD hDl).1, Da.mono l24, z, by rw [e4]; exact q2, hr⟩
      obtain ⟨a1, a2⟩ := kp a o n e
      exact l24.keep a o a2 a1
    | true =>
      obtain ⟨⟨y, S4⟩, g2, q2⟩ := bd q2
      obtain ⟨⟨ys, S5⟩, g3, q2⟩ := mp q2
      cases q2
      refine ⟨c4, _, y, S4, .of k4 (en3.mono l4), by rw [e4]; exact g2, fun u c5 l5 k5 e5 D5 => ?_⟩
      have l25 : Le c2 c5 := l24.trans l5
      obtain ⟨hDl5, nD5⟩ := l25.keep Dl _ nD hDl
      have hlen : acc.length < sizeLine := by
        have : as.length ≤ rs.length := by rw [← hr]; simp
        rw [Da.length]
        exact Nat.lt_of_le_of_lt (Nat.le_trans this hz) (by decide)
      refine ⟨acc, hDl5, hlen, ?_⟩
      have lw6 : Lw c5 { c5 with H := upd c5.H Dl (.lst (acc ++ [u])) } := ⟨Nat.le_refl _, fun _ _ => rfl, fun a o n e => ⟨(upd_ne (fun q => n (.inr (by rw [l25.T, hT]; exact .inr q)))).trans e, n⟩⟩
      refine ⟨{ c5 with H := upd c5.H Dl (.lst (acc ++ [u])) }, acc ++ [u], as ++ [y], ys, rfl, ?_, (lw.trans l25.lw).trans lw6, fun a o n e => ?_, l25.T.trans hT, upd_same, ((Da.mono l25).mw lw6).app (.cons (D5.mw lw6) .nil), z, by show mapL te tt j ρ0 _ c5.S = _; rw [e5]; exact g3, by rw [List.append_assoc]; exact hr⟩
      · refine ⟨fun i xs q => ?_, k5.inj, fun a t => ⟨(k5.nT a t).1, ?_⟩⟩
        · exact ob_mw k5 lw6 (upd_ne (fun q' => nD5 ⟨i, lt_of_get q, q'⟩)) (k5.at_ i xs q)
        · by_cases z : a = Dl
          · rw [z]; exact ⟨_, upd_same⟩
          · obtain ⟨_, xs, e⟩ := k5.nT a t
            exact ⟨xs, (upd_ne z).trans e⟩
      · have ne : a ≠ Dl := fun q => by rw [q, hD] at e; cases e
        obtain ⟨a1, a2⟩ := kp a o n e
        obtain ⟨b1, b2⟩ := l25.keep a o a2 a1
        exact ⟨(upd_ne ne).trans b1, b2⟩
  · left
    have hl : ds.length ≤ i := by omega
    refine ⟨Es hl, ?_⟩
    rw [List.drop_eq_nil_of_le hl] at q2
    cases q2
    rw [List.append_nil] at hr
    subst hr
    -- Dl is let in again
    have lw7 : Lw c2 { c2 with T := c1.T } := ⟨Nat.le_refl _, fun _ _ => rfl, fun a o n e => ⟨e, fun q => q.elim (fun q => n (.inl q)) fun q => n (.inr (by rw [hT]; exact .inl q))⟩⟩
    have nT1 : ¬ c1.T Dl := fun t => by
      obtain ⟨_, xs, e⟩ := k1.nT Dl t
      rw [hD] at e; cases e
    refine p _ { c2 with T := c1.T } ?_ ?_ rfl (.lst ⟨fun q => q.elim nD nT1, .inl hDl⟩ (Da.mw lw7))
    · exact ⟨Nat.le_trans l1.len lw.len, fun j h => (lw.pi j (Nat.lt_of_lt_of_le h l1.len)).trans (l1.pi j h), fun a o n e => let ⟨x1, x2⟩ := l1.keep a o n e; kp a o x2 x1, l1.T⟩
    · refine ⟨fun i xs q => ob_mw k2 lw7 rfl (k2.at_ i xs q), k2.inj, fun a t => k2.nT a (by rw [hT]; exact .inl t)⟩
theorem me_lc (h : PE X e (tLc (tI X.K X.mg sr) (gName j) (tT X.K X.mg tt) (tM X.K X.mg te) [j])) : ME X e (mLc sr j tt te) := pe_imp h fun _ _ _ => lc_go
theorem ms_setLc {st : Stmt} {i : Nat} (h : PS X st (tAsg (tLc (tI X.K X.mg sr) (gName j) (tT X.K X.mg tt) (tM X.K X.mg te) [j]) (gName i))) : MS X st (mAsg (mLc sr j tt te) (gN i)) := ps_imp h <| by
  rintro Dd σ H ⟨c, ρ, o, S', ⟨rfl, k, en⟩, q, p⟩
  obtain ⟨x, h1, q1⟩ := bd q
  obtain ⟨ρ', h2, q2⟩ := mp q1
  cases q2
  cases h2
  exact lc_go ⟨c, ρ, x.1, x.2, .of k en, h1, fun v c1 l1 k1 e1 D1 => p c1 l1 k1 e1 _ ((en.mono l1).set D1)⟩
theorem mts_nil : PTs X [] (tT X.K X.mg mYes) := ⟨fun pins s σ H Q I h => (pts_nil (X := X)).run pins s σ H Q I (yes_go h)⟩
end
end M

namespace M
open PySem PySem.Spec L2 W2 RZ

/-! ### operations -/
def addD : D → D → Option D
  | .int a, .int b => some (.int (a + b))
  | .str a, .str b => if a.length + b.length ≤ 1000000 then some (.str (a ++ b)) else none
  | .tup a, .tup b => if a.length + b.length ≤ 100000 then some (.tup (a ++ b)) else none
  | .lst a, .lst b => if a.length + b.length ≤ 100000 then some (.lst (a ++ b)) else none
  | _, _ => none
def subD : D → D → Option D
  | .int a, .int b => some (.int (a - b))
  | _, _ => none
def smul (x : Str) (n : Nat) : Str := ⟨(List.replicate n x.cps).foldl (· ++ ·) #[]⟩
theorem foldl_app_size (x : Array Nat) : ∀ (l : List (Array Nat)) (a : Array Nat), (∀ y ∈ l, y = x) → (l.foldl (· ++ ·) a).size = a.size + l.length * x.size
  | [], a, _ => by simp
  | y :: l, a, h => by
    have e : y = x := h y List.mem_cons_self
    have ih := foldl_app_size x l (a ++ y) fun z hz => h z (List.mem_cons_of_mem _ hz)
    rw [List.foldl_cons, ih, Array.size_append, e, List.length_cons, Nat.add_mul]
    omega
theorem smul_len (x : Str) (n : Nat) : (smul x n).length = n * x.length := by
  show ((List.replicate n x.cps).foldl (· ++ ·) #[]).size = _
  rw [foldl_app_size x.cps _ _ fun y hy => (List.mem_replicate.mp hy).2]
  simp [Str.length]
def mulD : D → D → Option D
  | .int a, .int b => if a.natAbs < 2 ^ 63 ∨ b.natAbs < 2 ^ 63 then some (.int (a * b)) else none
  | .str a, .int b => if 1 ≤ b ∧ b ≤ 1000000 ∧ a.length * b.toNat ≤ 1000000 then some (.str (if b = 1 ∨ a.length = 0 then a else smul a b.toNat)) else if b ≤ 0 ∧ -1000000 ≤ b then some (.str Str.empty) else none
  | _, _ => none
def modD : D → D → Option D
  | .int a, .int b => if 0 < b then some (.int (a % b)) else none
  | _, _ => none
def fdvD : D → D → Option D
  | .int a, .int b => if 0 < b ∧ b < 1073741824 then some (.int (a / b)) else none
  | _, _ => none
def powD : D → D → Option D
  | .int a, .int b => if 0 ≤ b ∧ b ≤ 1000000 ∧ a.natAbs < 2 ^ 64 then some (.int (a ^ b.toNat)) else none
  | _, _ => none
def ltD : D → D → Option D
  | .int a, .int b => some (.bl (decide (a < b)))
  | .str a, .str b => some (.bl (decide (a.cps.toList < b.cps.toList)))
  | _, _ => none
def leD : D → D → Option D
  | .int a, .int b => some (.bl (decide (a ≤ b)))
  | _, _ => none
def gtD : D → D → Option D
  | .int a, .int b => some (.bl (decide (b < a)))
  | .str a, .str b => some (.bl (decide (b.cps.toList < a.cps.toList)))
  | _, _ => none
def geD : D → D → Option D
  | .int a, .int b => some (.bl (decide (b ≤ a)))
  | _, _ => none
def isD : D → D → Option D
  | .bl a, .bl b => some (.bl (decide (a = b)))
  | .non, .non => some (.bl true)
  | .ref _, .non => some (.bl false)
  | .fn _, .non => some (.bl false)
  | .ty _, .non => some (.bl false)
  | .bl _, .non => some (.bl false)
  | .int _, .non => some (.bl false)
  | .str _, .non => some (.bl false)
  | .lst _, .non => some (.bl false)
  | .tup _, .non => some (.bl false)
  | .dct _, .non => some (.bl false)
  | .seq _, .non => some (.bl false)
  | .cls _, .non => some (.bl false)
  | .err _ _, .non => some (.bl false)
  | _, _ => none
def isntD (a b : D) : Option D := match isD a b with
  | some (.bl x) => some (.bl (!x))
  | _ => none
/-- one sign in a text -/
def inD : D → D → Option D
  | .str a, .str b => if a.cps.size = 1 then some (.bl (decide (a.cps.getD 0 0 ∈ b.cps.toList))) else none
  | _, _ => none
def ninD (a b : D) : Option D := match inD a b with
  | some (.bl x) => some (.bl (!x))
  | _ => none
/-! to the library's data, without dicts -/
mutual
def toP : D → Option PyData
  | .non => some .none
  | .bl b => some (.bool b)
  | .int i => some (.int i)
  | .str x => some (.str x)
  | .lst ds => (toPA ds).map .list
  | .tup ds => (toPA ds).map .tuple
  | .dct _ => none
  | .ref _ => none
  | .fn _ => none
  | .ty _ => none
  | .seq _ => none
  | .cls _ => none
  | .err _ _ => none
def toPA : List D → Option (List PyData)
  | [] => some []
  | d :: ds => (toP d).bind fun x => (toPA ds).map fun r => x :: r
end
def eqD0 (a b : D) : Option D := match toP a, toP b with
  | some x, some y => if SeqAt.shaped x = true ∧ SeqAt.shaped y = true then some (.bl (PyData.eqv x y)) else none
  | _, _ => none
def eqD (a b : D) : Option D := match a, b with
  | .str x, .str y => some (.bl (decide (x = y)))
  | .int x, .int y => some (.bl (decide (x = y)))
  | a, b => eqD0 a b
def neD (a b : D) : Option D := match eqD a b with
  | some (.bl x) => some (.bl (!x))
  | _ => none

section
variable {X : Cx}
mutual
theorem den_dp {K : PySem.W.Frag} {mg : Str → Option Value} {c : Cfg} : ∀ {d : D} {v : V} {x : PyData}, Den K mg c v d → toP d = some x → Dp K c.H v x
  | .non, _, _, h, e => by cases h; cases e; exact .non
  | .bl b, _, _, h, e => by cases h; cases e; exact .bl b
  | .int b, _, _, h, e => by cases h; cases e; exact .int b
  | .str b, _, _, h, e => by cases h; cases e; exact .str b
  | .lst ds, _, _, h, e => by
    cases h with
    | lst s t =>
      rw [toP] at e
      obtain ⟨xs, e1, rfl⟩ := mp e
      exact .lst s.get (den_dpA t e1)
  | .tup ds, _, _, h, e => by
    cases h with
    | tup s t =>
      rw [toP] at e
      obtain ⟨xs, e1, rfl⟩ := mp e
      exact .tup s.get (den_dpA t e1)
  | .dct _, _, _, _, e => by rw [toP] at e; cases e
  | .ref _, _, _, _, e => by rw [toP] at e; cases e
  | .fn _, _, _, _, e => by rw [toP] at e; cases e
  | .ty _, _, _, _, e => by rw [toP] at e; cases e
  | .seq _, _, _, _, e => by rw [toP] at e; cases e
  | .cls _, _, _, _, e => by rw [toP] at e; cases e
  | .err _ _, _, _, _, e => by rw [toP] at e; cases e
theorem den_dpA {K : PySem.W.Frag} {mg : Str → Option Value} {c : Cfg} : ∀ {ds : List D} {vs : List V} {xs : List PyData}, DenA K mg c vs ds → toPA ds = some xs → DpAll K c.H vs xs
  | [], _, _, h, e => by cases h; rw [toPA] at e; cases e; exact .nil
  | d :: ds, _, _, h, e => by
    cases h with
    | cons a b =>
      rw [toPA] at e
      obtain ⟨x, e1, e⟩ := bd e
      obtain ⟨xs, e2, rfl⟩ := mp e
      exact .cons (den_dp a e1) (den_dpA b e2)
end
theorem od_add : OpD X (binaryOp .Add) addD := by
  rintro pins s σ H x y v u Q I rx ry ⟨c, a, b, z, rfl, k, Da, Db, e, P⟩
  cases a <;> cases b <;> try (cases e)
  · cases Da; cases Db
    exact op_add pins s σ _ _ _ v u Q I rx ry ⟨_, _, rfl, rfl, P.here k (.int _)⟩
  · rename_i i j
    cases Da; cases Db
    have e' : (if i.length + j.length ≤ 1000000 then some (D.str (i ++ j)) else none) = some z := e
    by_cases l : i.length + j.length ≤ 1000000
    · rw [if_pos l] at e'; cases e'
      exact op_add_str pins s σ _ _ _ v u Q I rx ry ⟨_, _, rfl, rfl, Nat.le_trans l (by decide), P.here k (.str _)⟩
    · rw [if_neg l] at e'; cases e'
  · rename_i i j
    have e' : (if i.length + j.length ≤ 100000 then some (D.lst (i ++ j)) else none) = some z := e
    by_cases l : i.length + j.length ≤ 100000
    · rw [if_pos l] at e'; cases e'
      cases Da with
      | lst s1 t1 =>
        cases Db with
        | lst s2 t2 =>
          obtain ⟨z1, its, n, r, g⟩ := s1.2.ok I.hok
          obtain ⟨z2, its2, n2, r2, g2⟩ := s2.2.ok I.hok
          cases rx
          cases ry
          have q1 := r.length
          have q2 := r2.length
          have q3 := t1.length
          have q4 := t2.length
          refine PySem.P.add_list g g2 ?_ (by rw [List.size_toArray, List.size_toArray, sizeLine_eq]; omega)
          rw [show its.toArray ++ its2.toArray = (its ++ its2).toArray by simp]
          exact ⟨.ref _, _, I.lnew (t' := s.toks) (r.append r2) (by rw [List.length_append, sizeLine_eq]; omega), rfl, post_lst P k (t1.app t2) _ I.fresh⟩
    · rw [if_neg l] at e'; cases e'
  · rename_i i j
    have e' : (if i.length + j.length ≤ 100000 then some (D.tup (i ++ j)) else none) = some z := e
    by_cases l : i.length + j.length ≤ 100000
    · rw [if_pos l] at e'; cases e'
      cases Da with
      | tup s1 t1 =>
        cases Db with
        | tup s2 t2 =>
          refine op_catA pins s σ _ _ _ v u Q I rx ry ⟨_, _, _, _, rfl, rfl, s1.get, s2.get, by rw [t1.length, t2.length]; exact sz5 l, fun q => ?_, fun q1 q2 => ?_, fun q1 q2 => ?_⟩
          · have : i = [] := by have := t1.length; rw [q] at this; exact List.length_eq_zero_iff.mp this.symm
            subst this
            exact P.here k (.tup s2 t2)
          · have : j = [] := by have := t2.length; rw [q2] at this; exact List.length_eq_zero_iff.mp this.symm
            subst this
            rw [List.append_nil] at P
            exact P.here k (.tup s1 t1)
          · exact post_tup P k (t1.app t2)
    · rw [if_neg l] at e'; cases e'
theorem od_sub : OpD X (binaryOp .Sub) subD := by
  rintro pins s σ H x y v u Q I rx ry ⟨c, a, b, z, rfl, k, Da, Db, e, P⟩
  cases a <;> cases b <;> try (cases e)
  cases Da; cases Db
  exact op_sub pins s σ _ _ _ v u Q I rx ry ⟨_, _, rfl, rfl, P.here k (.int _)⟩
theorem od_mod : OpD X (binaryOp .Mod) modD := by
  rintro pins s σ H x y v u Q I rx ry ⟨c, a, b, z, rfl, k, Da, Db, e, P⟩
  cases a <;> cases b <;> try (cases e)
  rename_i i j
  cases Da; cases Db
  have e' : (if 0 < j then some (D.int (i % j)) else none) = some z := e
  by_cases l : 0 < j
  · rw [if_pos l] at e'; cases e'
    exact op_mod pins s σ _ _ _ v u Q I rx ry ⟨_, _, rfl, rfl, l, P.here k (.int _)⟩
  · rw [if_neg l] at e'; cases e'
theorem od_fdv : OpD X (binaryOp .FloorDiv) fdvD := by
  rintro pins s σ H x y v u Q I rx ry ⟨c, a, b, z, rfl, k, Da, Db, e, P⟩
  cases a <;> cases b <;> try (cases e)
  rename_i i j
  cases Da; cases Db
  have e' : (if 0 < j ∧ j < 1073741824 then some (D.int (i / j)) else none) = some z := e
  by_cases l : 0 < j ∧ j < 1073741824
  · rw [if_pos l] at e'; cases e'
    exact op_fdiv pins s σ _ _ _ v u Q I rx ry ⟨_, _, rfl, rfl, l, P.here k (.int _)⟩
  · rw [if_neg l] at e'; cases e'
theorem od_pow : OpD X (binaryOp .Pow) powD := by
  rintro pins s σ H x y v u Q I rx ry ⟨c, a, b, z, rfl, k, Da, Db, e, P⟩
  cases a <;> cases b <;> try (cases e)
  rename_i i j
  cases Da; cases Db
  have e' : (if 0 ≤ j ∧ j ≤ 1000000 ∧ i.natAbs < 2 ^ 64 then some (D.int (i ^ j.toNat)) else none) = some z := e
  by_cases l : 0 ≤ j ∧ j ≤ 1000000 ∧ i.natAbs < 2 ^ 64
  · rw [if_pos l] at e'; cases e'
    exact op_pow pins s σ _ _ _ v u Q I rx ry ⟨_, _, rfl, rfl, l, P.here k (.int _)⟩
  · rw [if_neg l] at e'; cases e'
theorem od_mul : OpD X (binaryOp .Mult) mulD := by
  rintro pins s σ H x y v u Q I rx ry ⟨c, a, b, z, rfl, k, Da, Db, e, P⟩
  cases a <;> cases b <;> try (cases e)
  · rename_i i j
    cases Da; cases Db
    have e' : (if i.natAbs < 2 ^ 63 ∨ j.natAbs < 2 ^ 63 then some (D.int (i * j)) else none) = some z := e
    by_cases l : i.natAbs < 2 ^ 63 ∨ j.natAbs < 2 ^ 63
    · rw [if_pos l] at e'; cases e'
      refine op_mul pins s σ _ _ _ v u Q I rx ry ⟨_, _, rfl, rfl, ?_, P.here k (.int _)⟩
      unfold CMul
      omega
    · rw [if_neg l] at e'; cases e'
  · rename_i a b
    cases Da; cases Db
    obtain ⟨t, rfl⟩ := (show ∃ t, v = Value.str a t from rx)
    obtain ⟨t', rfl⟩ := (show ∃ t, u = Value.int b t from ry)
    have e' : (if 1 ≤ b ∧ b ≤ 1000000 ∧ a.length * b.toNat ≤ 1000000 then some (D.str (if b = 1 ∨ a.length = 0 then a else smul a b.toNat)) else if b ≤ 0 ∧ -1000000 ≤ b then some (D.str Str.empty) else none) = some z := e
    by_cases l : 1 ≤ b ∧ b ≤ 1000000 ∧ a.length * b.toNat ≤ 1000000
    · rw [if_pos l] at e'; cases e'
      have h1 : (decide (b < -(2 ^ 63 : Int)) || decide (b ≥ 2 ^ 63)) = false := by
        rw [decide_eq_false (by omega), decide_eq_false (by omega)]; rfl
      have hb0 : ¬ b < 1 := by omega
      have hbn : ((b.toNat : Nat) : Int) = b := by omega
      refine PySem.P.mul_str h1 (fun _ q => ?_) (fun _ q => ?_) ?_
      · have : (a.length : Int) ≤ (2 ^ 63 - 1) / b := by
          rw [Int.le_ediv_iff_mul_le (by omega)]
          have h2 : ((a.length * b.toNat : Nat) : Int) ≤ 1000000 := by omega
          rw [Int.natCast_mul, hbn] at h2
          omega
        omega
      · have : ¬ a.length * b.toNat > sizeLine := by rw [sizeLine_eq]; omega
        exact decide_eq_false this
      · rw [if_neg hb0]
        by_cases q : b = 1 ∨ a.length = 0
        · have q' : (b == 1 || a.length == 0) = true := by simpa using q
          rw [if_pos q']
          rw [if_pos q] at P
          exact ⟨.str a, c.H, I, ⟨_, rfl⟩, P.here k (.str _)⟩
        · have q' : ¬ (b == 1 || a.length == 0) = true := by simpa using q
          rw [if_neg q']
          rw [if_neg q] at P
          refine ⟨?_, .str _, c.H, I.tok _, ⟨_, rfl⟩, P.here k (.str _)⟩
          show (smul a b.toNat).length ≤ sizeLine
          rw [smul_len, sizeLine_eq]
          have := l.2.2
          rw [Nat.mul_comm] at this
          omega
    · rw [if_neg l] at e'
      by_cases l2 : b ≤ 0 ∧ -1000000 ≤ b
      · rw [if_pos l2] at e'; cases e'
        exact PySem.P.mul_str_none (by omega) (by omega) ⟨.str _, c.H, I.tok _, ⟨_, rfl⟩, P.here k (.str _)⟩
      · rw [if_neg l2] at e'; cases e'
end
end M

namespace M
open PySem PySem.Spec L2 W2 RZ

section
variable {X : Cx}
theorem od_lt : OpD X (compareOp .Lt) ltD := by
  rintro pins s σ H x y v u Q I rx ry ⟨c, a, b, z, rfl, k, Da, Db, e, P⟩
  cases a <;> cases b <;> try (cases e)
  · cases Da; cases Db
    exact op_lt pins s σ _ _ _ v u Q I rx ry ⟨_, _, rfl, rfl, P.here k (.bl _)⟩
  · cases Da; cases Db
    exact op_lt_str pins s σ _ _ _ v u Q I rx ry ⟨_, _, rfl, rfl, P.here k (.bl _)⟩
theorem od_le : OpD X (compareOp .LtE) leD := by
  rintro pins s σ H x y v u Q I rx ry ⟨c, a, b, z, rfl, k, Da, Db, e, P⟩
  cases a <;> cases b <;> try (cases e)
  cases Da; cases Db
  exact op_le pins s σ _ _ _ v u Q I rx ry ⟨_, _, rfl, rfl, P.here k (.bl _)⟩
theorem od_gt : OpD X (compareOp .Gt) gtD := by
  rintro pins s σ H x y v u Q I rx ry ⟨c, a, b, z, rfl, k, Da, Db, e, P⟩
  cases a <;> cases b <;> try (cases e)
  · cases Da; cases Db
    exact op_gt pins s σ _ _ _ v u Q I rx ry ⟨_, _, rfl, rfl, P.here k (.bl _)⟩
  · cases Da; cases Db
    exact op_gt_str pins s σ _ _ _ v u Q I rx ry ⟨_, _, rfl, rfl, P.here k (.bl _)⟩
theorem od_ge : OpD X (compareOp .GtE) geD := by
  rintro pins s σ H x y v u Q I rx ry ⟨c, a, b, z, rfl, k, Da, Db, e, P⟩
  cases a <;> cases b <;> try (cases e)
  cases Da; cases Db
  exact op_ge pins s σ _ _ _ v u Q I rx ry ⟨_, _, rfl, rfl, P.here k (.bl _)⟩
theorem od_is : OpD X (compareOp .Is) isD := by
  rintro pins s σ H x y v u Q I rx ry ⟨c, a, b, z, rfl, k, Da, Db, e, P⟩
  cases a <;> cases b <;> first | (cases e; done) | skip
  all_goals cases Db
  all_goals cases e
  all_goals cases Da
  all_goals first
    | exact op_isBl pins s σ _ _ _ v u Q I rx ry ⟨_, _, rfl, rfl, P.here k (.bl _)⟩
    | exact op_isN pins s σ _ _ _ v u Q I rx ry ⟨rfl, P.here k (.bl _)⟩
theorem od_isnt : OpD X (compareOp .IsNot) isntD := by
  rintro pins s σ H x y v u Q I rx ry ⟨c, a, b, z, rfl, k, Da, Db, e, P⟩
  cases a <;> cases b <;> first | (cases e; done) | skip
  all_goals cases Db
  all_goals cases e
  all_goals cases Da
  all_goals first
    | exact op_notBl pins s σ _ _ _ v u Q I rx ry ⟨_, _, rfl, rfl, P.here k (.bl _)⟩
    | exact op_notN pins s σ _ _ _ v u Q I rx ry ⟨rfl, P.here k (.bl _)⟩
theorem one_sign {a : Str} (h : a.cps.size = 1) : a = ⟨#[a.cps.getD 0 0]⟩ := by
  obtain ⟨⟨l⟩⟩ := a
  match l, h with
  | [x], _ => rfl
theorem od_in : OpD X (compareOp .In) inD := by
  rintro pins s σ H x y v u Q I rx ry ⟨c, a, b, z, rfl, k, Da, Db, e, P⟩
  cases a <;> cases b <;> try (cases e)
  rename_i a b
  cases Da; cases Db
  have e' : (if a.cps.size = 1 then some (D.bl (decide (a.cps.getD 0 0 ∈ b.cps.toList))) else none) = some z := e
  by_cases l : a.cps.size = 1
  · rw [if_pos l] at e'; cases e'
    exact op_in_sign pins s σ _ _ _ v u Q I rx ry ⟨a.cps.getD 0 0, b, by rw [← one_sign l], rfl, P.here k (.bl _)⟩
  · rw [if_neg l] at e'; cases e'
theorem od_nin : OpD X (compareOp .NotIn) ninD := by
  rintro pins s σ H x y v u Q I rx ry ⟨c, a, b, z, rfl, k, Da, Db, e, P⟩
  unfold ninD at e
  cases a <;> cases b <;> try (cases e)
  rename_i a b
  cases Da; cases Db
  have e0 : inD (.str a) (.str b) = if a.cps.size = 1 then some (D.bl (decide (a.cps.getD 0 0 ∈ b.cps.toList))) else none := rfl
  rw [e0] at e
  by_cases l : a.cps.size = 1
  · rw [if_pos l] at e; cases e
    exact op_notIn_sign pins s σ _ _ _ v u Q I rx ry ⟨a.cps.getD 0 0, b, by rw [← one_sign l], rfl, P.here k (.bl _)⟩
  · rw [if_neg l] at e; cases e
theorem od_eq (hr : Rg X.A) : OpD X (compareOp .Eq) eqD := by
  rintro pins s σ H x y v u Q I rx ry ⟨c, a, b, z, rfl, k, Da, Db, e, P⟩
  unfold eqD at e
  split at e
  · cases Da; cases Db; cases e
    rename_i p q
    exact op_eq pins s σ _ _ _ v u Q I rx ry ⟨rfl, by rw [show decide (V.str p = V.str q) = decide (p = q) from decide_eq_decide.mpr ⟨fun h => V.str.inj h, fun h => by rw [h]⟩]; exact P.here k (.bl _)⟩
  · cases Da; cases Db; cases e
    rename_i p q
    exact op_eq pins s σ _ _ _ v u Q I rx ry ⟨rfl, by rw [show decide (V.int p = V.int q) = decide (p = q) from decide_eq_decide.mpr ⟨fun h => V.int.inj h, fun h => by rw [h]⟩]; exact P.here k (.bl _)⟩
  · unfold eqD0 at e
    split at e
    · rename_i p q h1 h2
      by_cases l : SeqAt.shaped p = true ∧ SeqAt.shaped q = true
      · rw [if_pos l] at e; cases e
        exact op_eqD hr.units pins s σ _ _ _ v u Q I rx ry ⟨_, _, den_dp Da h1, den_dp Db h2, l.1, l.2, P.here k (.bl _)⟩
      · rw [if_neg l] at e; cases e
    · cases e
theorem od_ne (hr : Rg X.A) : OpD X (compareOp .NotEq) neD := by
  rintro pins s σ H x y v u Q I rx ry ⟨c, a, b, z, rfl, k, Da, Db, e, P⟩
  unfold neD eqD at e
  split at e
  · rename_i t h0
    split at h0
    · cases Da; cases Db; cases h0; cases e
      rename_i p q
      exact op_ne pins s σ _ _ _ v u Q I rx ry ⟨rfl, by rw [show decide (V.str p = V.str q) = decide (p = q) from decide_eq_decide.mpr ⟨fun h => V.str.inj h, fun h => by rw [h]⟩]; exact P.here k (.bl _)⟩
    · cases Da; cases Db; cases h0; cases e
      rename_i p q
      exact op_ne pins s σ _ _ _ v u Q I rx ry ⟨rfl, by rw [show decide (V.int p = V.int q) = decide (p = q) from decide_eq_decide.mpr ⟨fun h => V.int.inj h, fun h => by rw [h]⟩]; exact P.here k (.bl _)⟩
    · unfold eqD0 at h0
      split at h0
      · rename_i p q h1 h2
        by_cases l : SeqAt.shaped p = true ∧ SeqAt.shaped q = true
        · rw [if_pos l] at h0; cases h0; cases e
          exact op_neD hr.units pins s σ _ _ _ v u Q I rx ry ⟨_, _, den_dp Da h1, den_dp Db h2, l.1, l.2, P.here k (.bl _)⟩
        · rw [if_neg l] at h0; cases h0
      · cases h0
  · cases e
end

/-! ### subscripts, slices -/
def ixD (S : Sto) : D → D → Option D
  | .lst xs, .int i => atI xs i
  | .tup xs, .int i => atI xs i
  | .seq xs, .int i => atI xs i
  | .str x, .int i => if x.length ≤ 1000000 then (atI x.cps.toList i).map fun c => .str ⟨#[c]⟩ else none
  | .ref j, .int i => match S[j]? with
    | some (.lst xs) => atI xs i
    | _ => none
  | _, _ => none
def mIx (f g : EvF) : EvF := fun ρ S => (f ρ S).bind fun x => (g ρ x.2).bind fun y => (ixD y.2 x.1 y.1).map fun z => (z, y.2)
def optI : Option D → Option (Option Int)
  | none => some none
  | some (.int i) => some (some i)
  | _ => none
abbrev EoF := En → Sto → Option (Option Int × Sto)
def mNoP : EoF := fun _ S => some (none, S)
def mP (f : EvF) : EoF := fun ρ S => (f ρ S).bind fun x => match x.1 with
  | .int i => some (some i, x.2)
  | _ => none
def cut {α : Type} (xs : List α) (lo hi : Option Int) : List α := (xs.drop (HT.sIx xs.length 0 lo)).take (HT.sIx xs.length xs.length hi - HT.sIx xs.length 0 lo)
def slD (S : Sto) (d : D) (lo hi : Option Int) : Option D := match d with
  | .lst xs => some (.lst (cut xs lo hi))
  | .seq xs => some (.lst (cut xs lo hi))
  | .tup xs => some (.tup (cut xs lo hi))
  | .str x => if x.length ≤ 1000000 then some (.str (cutS x lo hi)) else none
  | _ => none
def mSl (f : EvF) (l h : EoF) : EvF := fun ρ S => (f ρ S).bind fun x => (l ρ x.2).bind fun y => (h ρ y.2).bind fun z => (slD z.2 x.1 y.1 z.1).map fun w => (w, z.2)
section
variable {X : Cx} {e : Expr} {f g : EvF} {l h : EoF}
theorem atI_len {α β : Type} {xs : List α} {ys : List β} {i : Int} (hl : xs.length = ys.length) {d : β} (e : atI ys i = some d) : ∃ j, ixN ys.length i = some j ∧ ys[j]? = some d ∧ ∀ v, xs[j]? = some v → atI xs i = some v := by
  unfold atI at e
  obtain ⟨j, h1, h2⟩ := bd e
  refine ⟨j, h1, h2, fun v q => ?_⟩
  unfold atI
  rw [hl, h1]
  exact q
theorem den_at {K : PySem.W.Frag} {mg : Str → Option Value} {c : Cfg} {vs : List V} {ds : List D} {i : Int} {d : D} (t : DenA K mg c vs ds) (e : atI ds i = some d) : ∃ v, atI vs i = some v ∧ Den K mg c v d := by
  obtain ⟨j, h1, h2, h3⟩ := atI_len t.length e
  obtain ⟨v, q1, q2⟩ := t.get h2
  exact ⟨v, h3 v q1, q2⟩
theorem me_ix (hx : PE X e (tOp (rIx X.K) (tM X.K X.mg f) (tM X.K X.mg g))) : ME X e (mIx f g) := pe_imp hx <| by
  rintro σ H Q ⟨c, ρ, d, S', ⟨rfl, k, en⟩, q, p⟩
  obtain ⟨x, h1, q1⟩ := bd q
  clear q
  obtain ⟨y, h2, q2⟩ := bd q1
  clear q1
  obtain ⟨z, h3, q3⟩ := mp q2
  clear q2
  cases q3
  refine ⟨c, ρ, x.1, x.2, .of k en, h1, fun v c1 l1 k1 e1 D1 => ?_⟩
  refine ⟨c1, ρ, y.1, y.2, .of k1 (en.mono l1), by rw [e1]; exact h2, fun w c2 l2 k2 e2 D2 => ?_⟩
  have D1' := D1.mono l2
  have P := p.mono (l1.trans l2)
  rw [← e2] at P h3
  obtain ⟨x, S1⟩ := x
  obtain ⟨y, S2⟩ := y
  cases x <;> cases y <;> try (cases h3)
  · rename_i z i
    have h3' : (if z.length ≤ 1000000 then (atI z.cps.toList i).map fun c => D.str ⟨#[c]⟩ else none) = some d := h3
    by_cases lz : z.length ≤ 1000000
    · rw [if_pos lz] at h3'
      obtain ⟨ch, q1, rfl⟩ := mp h3'
      cases D1'; cases D2
      exact .inr (.inr ⟨_, _, _, rfl, rfl, Nat.le_trans lz (by decide), q1, P.here k2 (.str _)⟩)
    · rw [if_neg lz] at h3'; cases h3'
  · cases D2
    cases D1' with
    | lst s t =>
      obtain ⟨v, q1, q2⟩ := den_at t h3
      exact .inl ⟨_, _, _, _, rfl, rfl, s.get, q1, P.here k2 q2⟩
  · cases D2
    cases D1' with
    | tup s t =>
      obtain ⟨v, q1, q2⟩ := den_at t h3
      exact .inr (.inl ⟨_, _, _, _, rfl, rfl, s.get, q1, P.here k2 q2⟩)
  · rename_i j i
    cases D2
    cases D1' with
    | ref hj =>
      have h3' : (match c2.S[j]? with | some (.lst xs) => atI xs i | _ => none) = some d := h3
      split at h3'
      · rename_i xs hS
        obtain ⟨vs, hv, t⟩ := k2.at_ _ _ hS
        obtain ⟨v, q1, q2⟩ := den_at t h3'
        exact .inl ⟨_, _, _, _, rfl, rfl, .inl (.inl hv), q1, P.here k2 q2⟩
      · cases h3'
  · cases D2
    cases D1' with
    | seq s t =>
      obtain ⟨v, q1, q2⟩ := den_at t h3
      exact .inl ⟨_, _, _, _, rfl, rfl, s.get, q1, P.here k2 q2⟩
def tO (K : PySem.W.Frag) (mg : Str → Option Value) (f : EoF) : TO := fun σ H Q => ∃ c ρ o S', At K mg c ρ σ H ∧ f ρ c.S = some (o, S') ∧ ∀ c', Le c c' → Ok K mg c' → c'.S = S' → Q o c'.H
theorem po_imp {X : Cx} {e : Option Expr} {t t' : TO} (h : PO X e t) (w : ∀ σ H Q, t' σ H Q → t σ H Q) : PO X e t' :=
  ⟨fun pins s σ H Q I q => h.run pins s σ H Q I (w σ H Q q)⟩
theorem mo_none : PO X none (tO X.K X.mg mNoP) := po_imp po_none <| by
  rintro σ H Q ⟨c, ρ, d, S', ⟨rfl, k, en⟩, q, p⟩
  cases q
  exact p c (.refl c) k rfl
theorem mo_some (he : ME X e f) : PO X (some e) (tO X.K X.mg (mP f)) := po_imp (po_some he) <| by
  rintro σ H Q ⟨c, ρ, d, S', ⟨rfl, k, en⟩, q, p⟩
  obtain ⟨⟨x, S1⟩, h1, q⟩ := bd q
  refine ⟨c, ρ, x, S1, .of k en, h1, fun v c1 l1 k1 e1 D1 => ?_⟩
  cases x <;> try (cases q)
  cases D1
  exact ⟨_, rfl, p c1 l1 k1 e1⟩
theorem den_cut {K : PySem.W.Frag} {mg : Str → Option Value} {c : Cfg} {vs : List V} {ds : List D} {lo hi : Option Int} (t : DenA K mg c vs ds) : DenA K mg c (cutV vs lo hi) (cut ds lo hi) := by
  unfold cutV cut
  rw [t.length]
  exact (t.drop _).take _
def rSl3 (K : PySem.W.Frag) : V → Option Int → Option Int → Hp → VK → Prop := fun x lo hi H Q => (rSlL K x lo hi H Q ∨ rSlA K x lo hi H Q) ∨ rSlS x lo hi H Q
theorem sl3 : SlR X (rSl3 X.K) := (sl_list.or sl_tupA).or sl_str
theorem cut_all {α : Type} {xs : List α} {lo hi : Option Int} (h : HT.sIx xs.length 0 lo = 0 ∧ HT.sIx xs.length xs.length hi = xs.length) : cut xs lo hi = xs := by
  unfold cut
  rw [h.1, h.2, List.drop_zero, Nat.sub_zero, List.take_length]
theorem me_sl (hx : PE X e (tSl (rSl3 X.K) (tM X.K X.mg f) (tO X.K X.mg l) (tO X.K X.mg h))) : ME X e (mSl f l h) := pe_imp hx <| by
  rintro σ H Q ⟨c, ρ, d, S', ⟨rfl, k, en⟩, q, p⟩
  obtain ⟨⟨x, S1⟩, h1, q1⟩ := bd q
  clear q
  obtain ⟨⟨y, S2⟩, h2, q2⟩ := bd q1
  clear q1
  obtain ⟨⟨z, S3⟩, h3, q3⟩ := bd q2
  clear q2
  obtain ⟨w, h4, q4⟩ := mp q3
  clear q3
  cases q4
  refine ⟨c, ρ, x, S1, .of k en, h1, fun v c1 l1 k1 e1 D1 => ?_⟩
  refine ⟨c1, ρ, y, S2, .of k1 (en.mono l1), by rw [e1]; exact h2, fun c2 l2 k2 e2 => ?_⟩
  refine ⟨c2, ρ, z, S3, .of k2 (en.mono (l1.trans l2)), by rw [e2]; exact h3, fun c3 l3 k3 e3 => ?_⟩
  have DD := D1.mono (l2.trans l3)
  have P := p.mono ((l1.trans l2).trans l3)
  rw [← e3] at P
  cases x <;> try (cases h4)
  · rename_i s
    have h4' : (if s.length ≤ 1000000 then some (D.str (cutS s y z)) else none) = some d := h4
    by_cases ls : s.length ≤ 1000000
    · rw [if_pos ls] at h4'; cases h4'
      cases DD
      exact .inr ⟨_, rfl, Nat.le_trans ls (by decide), P.here k3 (.str _)⟩
    · rw [if_neg ls] at h4'; cases h4'
  · cases DD with
    | lst s t => exact .inl (.inl ⟨_, _, rfl, s.get, post_lst P k3 (den_cut t)⟩)
  · cases DD with
    | tup s t =>
      refine .inl (.inr ⟨_, _, rfl, s.get, fun q => ?_, fun q => post_tup P k3 (den_cut t)⟩)
      rw [t.length] at q
      rw [cut_all q] at P
      exact P.here k3 (.tup s t)
  · cases DD with
    | seq s t => exact .inl (.inl ⟨_, _, rfl, s.get, post_lst P k3 (den_cut t)⟩)
end

/-! ### calls of built-ins -/
abbrev CbF := Sto → List D → Option D
def rD (K : PySem.W.Frag) (mg : Str → Option Value) (op : CbF) : List V → Hp → VK → Prop := fun xs H Q => ∃ c ds z, c.H = H ∧ Ok K mg c ∧ DenA K mg c xs ds ∧ op c.S ds = some z ∧ Post K mg c c.S z Q
abbrev CallD (X : Cx) (f : Value) (op : CbF) : Prop := CallR X f (rD X.K X.mg op)
def mCb (op : CbF) (fa : EaF) : EvF := fun ρ S => (fa ρ S).bind fun x => (op x.2 x.1).map fun z => (z, x.2)
theorem me_cb {X : Cx} {e : Expr} {op : CbF} {fa : EaF} (h : PE X e (tCB (rD X.K X.mg op) (tAs X.K X.mg fa))) : ME X e (mCb op fa) := pe_imp h <| by
  rintro σ H Q ⟨c, ρ, d, S', ⟨rfl, k, en⟩, q, p⟩
  obtain ⟨⟨ds, S1⟩, h1, q⟩ := bd q
  obtain ⟨z, h2, q⟩ := mp q
  cases q
  refine ⟨c, ρ, ds, S1, .of k en, h1, fun vs c1 l1 k1 e1 D1 => ⟨c1, ds, d, rfl, k1, D1, by rw [e1]; exact h2, by rw [e1]; exact p.mono l1⟩⟩
def lenD : CbF := fun S ds => match ds with
  | [.str x] => if x.length ≤ 1000000 then some (.int x.length) else none
  | [.lst xs] => some (.int xs.length)
  | [.tup xs] => some (.int xs.length)
  | [.seq xs] => some (.int xs.length)
  | [.ref j] => match S[j]? with
    | some (.lst xs) => some (.int xs.length)
    | _ => none
  | _ => none
def absD : CbF := fun _ ds => match ds with
  | [.int i] => some (.int (if i < 0 then -i else i))
  | _ => none
def intD : CbF := fun _ ds => match ds with
  | [.int i] => some (.int i)
  | [.bl b] => some (.int (if b then 1 else 0))
  | _ => none
def intsOf : List D → Option (List Int)
  | [] => some []
  | .int i :: r => (intsOf r).map fun x => i :: x
  | _ => none
def sumD : CbF := fun _ ds => match ds with
  | [.lst xs] => (intsOf xs).map fun ns => .int ns.sum
  | _ => none
def max2D : CbF := fun _ ds => match ds with
  | [.int i, .int j] => some (.int (if j > i then j else i))
  | _ => none
def min2D : CbF := fun _ ds => match ds with
  | [.int i, .int j] => some (.int (if j < i then j else i))
  | _ => none
def listD : CbF := fun S ds => match ds with
  | [.lst xs] => some (.lst xs)
  | [.tup xs] => some (.lst xs)
  | [.seq xs] => some (.lst xs)
  | _ => none
def tupD : CbF := fun S ds => match ds with
  | [.lst xs] => some (.tup xs)
  | [.tup xs] => some (.tup xs)
  | _ => none
def isiD (d : D) (n : String) : Option Bool :=
  match d with
  | .fn _ => none
  | .ty _ => none
  | .seq _ => none
  | .cls _ => none
  | .ref _ => none
  | .err _ _ => none
  | d => if n = "int" then some (match d with | .int _ => true | .bl _ => true | _ => false)
    else if n = "bool" then some (match d with | .bl _ => true | _ => false)
    else if n = "str" then some (match d with | .str _ => true | _ => false)
    else if n = "tuple" then some (match d with | .tup _ => true | _ => false)
    else if n = "list" then some (match d with | .lst _ => true | _ => false)
    else if n = "dict" then some (match d with | .dct _ => true | _ => false)
    else none
def isD2 : CbF := fun _ ds => match ds with
  | [d, .ty n] => (isiD d n).map .bl
  | _ => none
/-- the same where a thing of the store may stand -/
def isR2 : CbF := fun S ds => match ds with
  | [.ref j, .ty n] => match S[j]? with
    | some (.lst _) => (isiD (.lst []) n).map .bl
    | some (.dct _) => (isiD (.dct []) n).map .bl
    | _ => none
  | [d, .ty n] => (isiD d n).map .bl
  | _ => none
section
variable {X : Cx}
theorem da1 {K : PySem.W.Frag} {mg : Str → Option Value} {c : Cfg} {xs : List V} {d : D} (h : DenA K mg c xs [d]) : ∃ x, xs = [x] ∧ Den K mg c x d := by
  cases h with
  | cons a b => cases b; exact ⟨_, rfl, a⟩
theorem da2 {K : PySem.W.Frag} {mg : Str → Option Value} {c : Cfg} {xs : List V} {d e : D} (h : DenA K mg c xs [d, e]) : ∃ x y, xs = [x, y] ∧ Den K mg c x d ∧ Den K mg c y e := by
  cases h with
  | cons a b =>
    obtain ⟨y, rfl, q⟩ := da1 b
    exact ⟨_, y, rfl, a, q⟩
theorem cd_len : CallD X (.builtin "len") lenD := by
  rintro pins s σ H xs us Q I r ⟨c, ds, z, rfl, k, D1, e, P⟩
  unfold lenD at e
  split at e
  · rename_i x
    obtain ⟨v, rfl, q⟩ := da1 D1
    cases q
    split at e
    · cases e
      rename_i l
      exact call_len_str pins s σ _ _ us Q I r ⟨_, rfl, Nat.le_trans l (by decide), P.here k (.int _)⟩
    · cases e
  · obtain ⟨v, rfl, q⟩ := da1 D1
    cases e
    cases q with
    | lst s1 t1 => exact call_len_seq pins s σ _ _ us Q I r ⟨_, _, rfl, .inl s1.get, by rw [t1.length]; exact P.here k (.int _)⟩
  · obtain ⟨v, rfl, q⟩ := da1 D1
    cases e
    cases q with
    | tup s1 t1 => exact call_len_seq pins s σ _ _ us Q I r ⟨_, _, rfl, .inr s1.get, by rw [t1.length]; exact P.here k (.int _)⟩
  · obtain ⟨v, rfl, q⟩ := da1 D1
    cases e
    cases q with
    | seq s1 t1 => exact call_len_seq pins s σ _ _ us Q I r ⟨_, _, rfl, .inl s1.get, by rw [t1.length]; exact P.here k (.int _)⟩
  · obtain ⟨v, rfl, q⟩ := da1 D1
    split at e
    · rename_i xs hS
      cases e
      cases q with
      | ref hj =>
        obtain ⟨vs, hv, t⟩ := k.at_ _ _ hS
        exact call_len_seq pins s σ _ _ us Q I r ⟨_, _, rfl, .inl (.inl (.inl hv)), by rw [t.length]; exact P.here k (.int _)⟩
    · cases e
  · cases e
theorem cd_abs : CallD X (.builtin "abs") absD := by
  rintro pins s σ H xs us Q I r ⟨c, ds, z, rfl, k, D1, e, P⟩
  unfold absD at e
  split at e
  · obtain ⟨v, rfl, q⟩ := da1 D1
    cases q
    cases e
    exact call_abs pins s σ _ _ us Q I r ⟨_, rfl, P.here k (.int _)⟩
  · cases e
theorem cd_int : CallD X (.type "int") intD := by
  rintro pins s σ H xs us Q I r ⟨c, ds, z, rfl, k, D1, e, P⟩
  unfold intD at e
  split at e
  · obtain ⟨v, rfl, q⟩ := da1 D1
    cases q
    cases e
    exact call_int1 pins s σ _ _ us Q I r (.inl ⟨_, rfl, P.here k (.int _)⟩)
  · obtain ⟨v, rfl, q⟩ := da1 D1
    cases q
    cases e
    exact call_int1 pins s σ _ _ us Q I r (.inr ⟨_, rfl, P.here k (.int _)⟩)
  · cases e
theorem den_ints {K : PySem.W.Frag} {mg : Str → Option Value} {c : Cfg} : ∀ {ds : List D} {vs : List V} {ns : List Int}, DenA K mg c vs ds → intsOf ds = some ns → vs = ns.map V.int
  | [], _, _, h, e => by cases h; cases e; rfl
  | d :: ds, _, _, h, e => by
    cases d <;> try (cases e)
    obtain ⟨x, h1, rfl⟩ := mp (show (intsOf ds).map _ = _ from e)
    cases h with
    | cons a b =>
      cases a
      rw [den_ints b h1]
      rfl
theorem cd_sum (hc : X.calm = true) : CallD X (.builtin "sum") sumD := by
  rintro pins s σ H xs us Q I r ⟨c, ds, z, rfl, k, D1, e, P⟩
  unfold sumD at e
  split at e
  · obtain ⟨v, rfl, q⟩ := da1 D1
    obtain ⟨ns, h1, rfl⟩ := mp e
    cases q with
    | lst s1 t1 =>
      have h2 := den_ints t1 h1
      subst h2
      exact cr_sum hc pins s σ _ _ us Q I r ⟨_, _, rfl, s1.get, P.here k (.int _)⟩
  · cases e
theorem cd_max2 (hc : X.calm = true) : CallD X (.builtin "max") max2D := by
  rintro pins s σ H xs us Q I r ⟨c, ds, z, rfl, k, D1, e, P⟩
  unfold max2D at e
  split at e
  · obtain ⟨v, w, rfl, q1, q2⟩ := da2 D1
    cases q1; cases q2
    cases e
    exact call_max2 hc pins s σ _ _ us Q I r ⟨_, _, rfl, P.here k (.int _)⟩
  · cases e
theorem cd_min2 (hc : X.calm = true) : CallD X (.builtin "min") min2D := by
  rintro pins s σ H xs us Q I r ⟨c, ds, z, rfl, k, D1, e, P⟩
  unfold min2D at e
  split at e
  · obtain ⟨v, w, rfl, q1, q2⟩ := da2 D1
    cases q1; cases q2
    cases e
    exact call_min2 hc pins s σ _ _ us Q I r ⟨_, _, rfl, P.here k (.int _)⟩
  · cases e
theorem cd_list : CallD X (.type "list") listD := by
  rintro pins s σ H xs us Q I r ⟨c, ds, z, rfl, k, D1, e, P⟩
  unfold listD at e
  split at e
  · obtain ⟨v, rfl, q⟩ := da1 D1
    cases e
    cases q with
    | lst s1 t1 => exact call_list_of pins s σ _ _ us Q I r ⟨_, _, rfl, .inl s1.get, post_lst P k t1⟩
  · obtain ⟨v, rfl, q⟩ := da1 D1
    cases e
    cases q with
    | tup s1 t1 => exact call_list_of pins s σ _ _ us Q I r ⟨_, _, rfl, .inr s1.get, post_lst P k t1⟩
  · obtain ⟨v, rfl, q⟩ := da1 D1
    cases e
    cases q with
    | seq s1 t1 => exact call_list_of pins s σ _ _ us Q I r ⟨_, _, rfl, .inl s1.get, post_lst P k t1⟩
  · cases e
theorem cd_tup : CallD X (.type "tuple") tupD := by
  rintro pins s σ H xs us Q I r ⟨c, ds, z, rfl, k, D1, e, P⟩
  unfold tupD at e
  split at e
  · obtain ⟨v, rfl, q⟩ := da1 D1
    cases e
    cases q with
    | lst s1 t1 => exact call_tuple_of pins s σ _ _ us Q I r ⟨_, _, rfl, .inl ⟨s1.get, post_tup P k t1⟩⟩
  · obtain ⟨v, rfl, q⟩ := da1 D1
    cases e
    cases q with
    | tup s1 t1 => exact call_tuple_of pins s σ _ _ us Q I r ⟨_, _, rfl, .inr ⟨s1.get, P.here k (.tup s1 t1)⟩⟩
  · cases e
theorem tyx_tup {K : PySem.W.Frag} {c : Cfg} {a : Addr} {xs : List V} (h : Tl K c a xs) : TyX K c.H (.ref a) (.type "tuple") := by
  rcases h with ⟨_, h | ⟨o, h⟩⟩ | h
  · exact .base (.tup h)
  · exact .fTuple h
  · rcases h with (h | ⟨o, h⟩) | ⟨o, its, n, h1, h2, _⟩
    · cases h
    · cases h
    · exact .kTuple h1 h2
theorem tyx_lst {K : PySem.W.Frag} {c : Cfg} {a : Addr} {xs : List V} (h : Ll c a xs) : TyX K c.H (.ref a) (.type "list") := by
  rcases h with ⟨_, h | ⟨o, h⟩⟩
  · exact .base (.lst h)
  · exact .base (.frz h)
theorem kit4 (t : String) (n : String) (ht : t = "NoneType" ∨ t = "bool" ∨ t = "int" ∨ t = "str" ∨ t = "list" ∨ t = "tuple" ∨ t = "dict") (hn : n = "int" ∨ n = "bool" ∨ n = "str" ∨ n = "tuple" ∨ n = "list" ∨ n = "dict") :
    kitB t n = some (t == n || (t == "bool" && n == "int")) := by
  rcases ht with rfl | rfl | rfl | rfl | rfl | rfl | rfl <;> rcases hn with rfl | rfl | rfl | rfl | rfl | rfl <;> decide +kernel
theorem den_ty {K : PySem.W.Frag} {mg : Str → Option Value} {c : Cfg} {v : V} {d : D} {n : String} {b : Bool} (k : Ok K mg c) (h : Den K mg c v d) (e : isiD d n = some b) : ∃ t, TyX K c.H v (.type t) ∧ kitB t n = some b := by
  have hn : n = "int" ∨ n = "bool" ∨ n = "str" ∨ n = "tuple" ∨ n = "list" ∨ n = "dict" := by
    unfold isiD at e
    split at e <;> try (cases e)
    repeat' (split at e)
    all_goals first | (cases e; done) | (simp_all; done)
  have go : ∀ t, (t = "NoneType" ∨ t = "bool" ∨ t = "int" ∨ t = "str" ∨ t = "list" ∨ t = "tuple" ∨ t = "dict") → TyX K c.H v (.type t) → b = (t == n || (t == "bool" && n == "int")) → ∃ t, TyX K c.H v (.type t) ∧ kitB t n = some b :=
    fun t ht ty hb => ⟨t, ty, by rw [kit4 t n ht hn, hb]⟩
  cases d with
  | non => cases h; exact go "NoneType" (by simp) (.base .non) (by rcases hn with rfl | rfl | rfl | rfl | rfl | rfl <;> simp [isiD] at e <;> (first | (rw [← e]; decide) | (rw [e]; decide)))
  | bl x => cases h; exact go "bool" (by simp) (.base (.bl x)) (by rcases hn with rfl | rfl | rfl | rfl | rfl | rfl <;> simp [isiD] at e <;> (first | (rw [← e]; decide) | (rw [e]; decide)))
  | int x => cases h; exact go "int" (by simp) (.base (.int x)) (by rcases hn with rfl | rfl | rfl | rfl | rfl | rfl <;> simp [isiD] at e <;> (first | (rw [← e]; decide) | (rw [e]; decide)))
  | str x => cases h; exact go "str" (by simp) (.base (.str x)) (by rcases hn with rfl | rfl | rfl | rfl | rfl | rfl <;> simp [isiD] at e <;> (first | (rw [← e]; decide) | (rw [e]; decide)))
  | lst x =>
    cases h with
    | lst s t => exact go "list" (by simp) (tyx_lst s) (by rcases hn with rfl | rfl | rfl | rfl | rfl | rfl <;> simp [isiD] at e <;> (first | (rw [← e]; decide) | (rw [e]; decide)))
  | tup x =>
    cases h with
    | tup s t => exact go "tuple" (by simp) (tyx_tup s) (by rcases hn with rfl | rfl | rfl | rfl | rfl | rfl <;> simp [isiD] at e <;> (first | (rw [← e]; decide) | (rw [e]; decide)))
  | dct x =>
    cases h with
    | dct n0 s t => exact go "dict" (by simp) (.base (.dK s)) (by rcases hn with rfl | rfl | rfl | rfl | rfl | rfl <;> simp [isiD] at e <;> (first | (rw [← e]; decide) | (rw [e]; decide)))
  | ref j => cases e
  | cls x => cases e
  | err x y => cases e
  | fn x => cases e
  | ty x => cases e
  | seq x => cases e
theorem isi_names {d : D} {n : String} {b : Bool} (e : isiD d n = some b) : n = "int" ∨ n = "bool" ∨ n = "str" ∨ n = "tuple" ∨ n = "list" ∨ n = "dict" := by
  unfold isiD at e
  split at e <;> try (cases e)
  repeat' (split at e)
  all_goals first | (cases e; done) | (simp_all; done)
theorem isi_lst {n : String} {b : Bool} (e : isiD (.lst []) n = some b) : kitB "list" n = some b := by
  have hn := isi_names e
  rw [kit4 "list" n (by simp) hn]
  rcases hn with rfl | rfl | rfl | rfl | rfl | rfl <;> simp [isiD] at e <;> (first | (rw [← e]; decide) | (rw [e]; decide))
theorem isi_dct {n : String} {b : Bool} (e : isiD (.dct []) n = some b) : kitB "dict" n = some b := by
  have hn := isi_names e
  rw [kit4 "dict" n (by simp) hn]
  rcases hn with rfl | rfl | rfl | rfl | rfl | rfl <;> simp [isiD] at e <;> (first | (rw [← e]; decide) | (rw [e]; decide))
theorem cd_isS : CallD X (.builtin "isinstance") isR2 := by
  rintro pins s σ H xs us Q I r ⟨c, ds, z, rfl, k, D1, e, P⟩
  unfold isR2 at e
  split at e
  · obtain ⟨v, w, rfl, q1, q2⟩ := da2 D1
    cases q2
    cases q1 with
    | ref hj =>
      split at e
      · rename_i xs hS
        obtain ⟨b, h1, rfl⟩ := mp e
        obtain ⟨vs, hv, _⟩ := k.at_ _ _ hS
        exact call_isi pins s σ _ _ us Q I r ⟨_, _, _, _, b, rfl, .ty _, .base (.lst hv), kit_ty (isi_lst h1), P.here k (.bl b)⟩
      · rename_i xs hS
        obtain ⟨b, h1, rfl⟩ := mp e
        obtain ⟨vs, hv, _⟩ := k.at_ _ _ hS
        exact call_isi pins s σ _ _ us Q I r ⟨_, _, _, _, b, rfl, .ty _, .base (.dK hv), kit_ty (isi_dct h1), P.here k (.bl b)⟩
      · cases e
  · obtain ⟨v, w, rfl, q1, q2⟩ := da2 D1
    obtain ⟨b, h1, rfl⟩ := mp e
    cases q2
    obtain ⟨t, ty, kb⟩ := den_ty k q1 h1
    exact call_isi pins s σ _ _ us Q I r ⟨_, _, _, _, b, rfl, .ty _, ty, kit_ty kb, P.here k (.bl b)⟩
  · cases e
theorem cd_isi : CallD X (.builtin "isinstance") isD2 := by
  rintro pins s σ H xs us Q I r ⟨c, ds, z, rfl, k, D1, e, P⟩
  unfold isD2 at e
  split at e
  · obtain ⟨v, w, rfl, q1, q2⟩ := da2 D1
    obtain ⟨b, h1, rfl⟩ := mp e
    cases q2
    obtain ⟨t, ty, kb⟩ := den_ty k q1 h1
    exact call_isi pins s σ _ _ us Q I r ⟨_, _, _, _, b, rfl, .ty _, ty, kit_ty kb, P.here k (.bl b)⟩
  · cases e
end
end M

namespace M
open PySem PySem.Spec L2 W2 RZ

def mNeg (f : EvF) : EvF := fun ρ S => (f ρ S).bind fun x => match x.1 with
  | .int i => some (.int (-i), x.2)
  | _ => none
/-- a text's method that judges it -/
def mMs (g : Str → Bool) (f : EvF) : EvF := fun ρ S => (f ρ S).bind fun x => match x.1 with
  | .str a => some (.bl (g a), x.2)
  | _ => none
def strsOf : List D → Option (List Str)
  | [] => some []
  | .str x :: r => (strsOf r).map fun y => x :: y
  | _ => none
def joinD (S : Sto) : D → D → Option D
  | .str a, .lst xs => (strsOf xs).bind fun ys => if (ys.map (·.length)).sum + ys.length * a.length ≤ 1000000 then some (.str (Txt.join a ys)) else none
  | _, _ => none
def mM1 (op : Sto → D → D → Option D) (f g : EvF) : EvF := fun ρ S => (f ρ S).bind fun x => (g ρ x.2).bind fun y => (op y.2 x.1 y.1).map fun z => (z, y.2)
section
variable {X : Cx} {e : Expr} {f g : EvF}
theorem me_neg (h : PE X e (tUn (rU fun i => .int (-i)) (tM X.K X.mg f))) : ME X e (mNeg f) := pe_imp h <| by
  rintro σ H Q ⟨c, ρ, d, S', ⟨rfl, k, en⟩, q, p⟩
  obtain ⟨⟨x, S1⟩, h1, q1⟩ := bd q
  refine ⟨c, ρ, x, S1, .of k en, h1, fun v c1 l1 k1 e1 D1 => ?_⟩
  cases x <;> try (cases q1)
  cases D1
  exact ⟨_, rfl, p _ c1 l1 k1 e1 (.int _)⟩
abbrev rMs (g : Str → Bool) : V → List V → Hp → VK → Prop := fun x xs H Q => ∃ a, x = .str a ∧ xs = [] ∧ True ∧ Q (.bl (g a)) H
theorem me_ms {g : Str → Bool} (h : PE X e (tBM0 X.K "str" (rMs g) (tM X.K X.mg f))) : ME X e (mMs g f) := pe_imp h <| by
  rintro σ H Q ⟨c, ρ, d, S', ⟨rfl, k, en⟩, q, p⟩
  obtain ⟨⟨x, S1⟩, h1, q1⟩ := bd q
  refine ⟨c, ρ, x, S1, .of k en, h1, fun v c1 l1 k1 e1 D1 => ?_⟩
  cases x <;> try (cases q1)
  cases D1
  exact ⟨rfl, _, rfl, rfl, trivial, p _ c1 l1 k1 e1 (.bl _)⟩
abbrev rJoin (K : PySem.W.Frag) : V → List V → Hp → VK → Prop := fun x xs H Q => ∃ a p, ∃ ys : List Str, x = .str a ∧ xs = [.ref p] ∧ (SqL K H p (ys.map V.str) ∨ SqT K H p (ys.map V.str)) ∧
      (ys.map (·.length)).sum + ys.length * a.length ≤ 16777216 ∧ Q (.str (Txt.join a ys)) H
theorem den_strs {K : PySem.W.Frag} {mg : Str → Option Value} {c : Cfg} : ∀ {ds : List D} {vs : List V} {ys : List Str}, DenA K mg c vs ds → strsOf ds = some ys → vs = ys.map V.str
  | [], _, _, h, e => by cases h; cases e; rfl
  | d :: ds, _, _, h, e => by
    cases d <;> try (cases e)
    obtain ⟨x, h1, rfl⟩ := mp (show (strsOf ds).map _ = _ from e)
    cases h with
    | cons a b =>
      cases a
      rw [den_strs b h1]
      rfl
theorem me_join (h : PE X e (tM1 (rJoin X.K) (tM X.K X.mg f) (tM X.K X.mg g))) : ME X e (mM1 joinD f g) := pe_imp h <| by
  rintro σ H Q ⟨c, ρ, d, S', ⟨rfl, k, en⟩, q, p⟩
  obtain ⟨⟨x, S1⟩, h1, q1⟩ := bd q
  obtain ⟨⟨y, S2⟩, h2, q2⟩ := bd q1
  obtain ⟨z, h3, q3⟩ := mp q2
  cases q3
  clear q q1 q2
  refine ⟨c, ρ, x, S1, .of k en, h1, fun v c1 l1 k1 e1 D1 => ?_⟩
  cases x <;> try (cases h3)
  cases y <;> try (cases h3)
  rename_i a xs
  obtain ⟨ys, h4, h5⟩ := bd (show (strsOf xs).bind _ = some d from h3)
  by_cases l : (ys.map (·.length)).sum + ys.length * a.length ≤ 1000000
  · rw [if_pos l] at h5
    cases h5
    cases D1
    refine ⟨⟨_, rfl⟩, c1, ρ, _, S2, .of k1 (en.mono l1), by rw [e1]; exact h2, fun w c2 l2 k2 e2 D2 => ?_⟩
    cases D2 with
    | lst s t =>
      have e3 := den_strs t h4
      subst e3
      exact ⟨_, _, ys, rfl, rfl, .inl s.get, Nat.le_trans l (by decide), p _ c2 (l1.trans l2) k2 e2 (.str _)⟩
  · rw [if_neg l] at h5; cases h5
end

/-! ### dicts -/
def dictD : CbF := fun _ ds => match ds with
  | [.lst []] => some (.dct [])
  | [.lst [.tup [.str k, d]]] => some (.dct [(.inr k, d)])
  | _ => none
def mD0 : EvF := fun _ S => some (.dct [], S)
section
variable {X : Cx} {e : Expr}
theorem post_dct {K : PySem.W.Frag} {mg : Str → Option Value} {c : Cfg} {ds : List (Key × D)} {vs : List (Key × V)} {Q : VK} (P : Post K mg c c.S (.dct ds) Q) (k : Ok K mg c) (q : DenK K mg c vs ds) : ∀ p, c.H p = none → Q (.ref p) (upd c.H p (.dK vs)) :=
  fun p h => P _ (c.lay p (.dK vs)) (lay_le h) (lay_ok k h) rfl (.dct (k.nB h) upd_same (q.mono (lay_le h)))
theorem me_d0 {pos : Pos} : ME X (.Dict [] [] pos) mD0 := pe_imp pe_dnewK <| by
  rintro σ H Q ⟨c, ρ, d, S', ⟨rfl, k, en⟩, q, p⟩
  cases q
  exact post_dct p k .nil
theorem cd_dict (hc : X.calm = true) : CallD X (.type "dict") dictD := by
  rintro pins s σ H xs us Q I r ⟨c, ds, z, rfl, k, D1, e, P⟩
  unfold dictD at e
  split at e
  · obtain ⟨v, rfl, q⟩ := da1 D1
    cases e
    cases q with
    | lst s1 t1 =>
      cases t1
      exact call_dictP hc pins s σ _ _ us Q I r ⟨_, [], [], rfl, s1.get, .nil, post_dct P k .nil⟩
  · obtain ⟨v, rfl, q⟩ := da1 D1
    cases e
    rename_i kk d
    cases q with
    | lst s1 t1 =>
      cases t1 with
      | cons a b =>
        cases b
        cases a with
        | @tup aT _ _ s2 t2 =>
          obtain ⟨x, y, rfl, q1, q2⟩ := da2 t2
          cases q1
          exact call_dictP hc pins s σ _ _ us Q I r ⟨_, [aT], [(.inr kk, y)], rfl, s1.get, .cons s2.get .nil, post_dct P k (.cons q2 .nil)⟩
  · cases e
end

/-! ### repr -/
def keyQ : Key → PyData
  | .inl i => .int i
  | .inr s => .str s
mutual
def toQ : D → Option PyData
  | .non => some .none
  | .bl b => some (.bool b)
  | .int i => some (.int i)
  | .str x => some (.str x)
  | .lst ds => (toQA ds).map .list
  | .tup ds => (toQA ds).map .tuple
  | .dct kvs => (toQK kvs).map .dict
  | .ref _ => none
  | .fn _ => none
  | .ty _ => none
  | .seq _ => none
  | .cls _ => none
  | .err _ _ => none
def toQA : List D → Option (List PyData)
  | [] => some []
  | d :: ds => (toQ d).bind fun x => (toQA ds).map fun r => x :: r
def toQK : List (Key × D) → Option (List (PyData × PyData))
  | [] => some []
  | (k, d) :: ds => (toQ d).bind fun x => (toQK ds).map fun r => (keyQ k, x) :: r
end
def fitB (d : PyData) : Bool := d.showable && d.leavesShort 50 && decide (d.depth ≤ 60) && decide (d.bulk ≤ 100000)
def reprD : CbF := fun _ ds => match ds with
  | [d] => (toQ d).bind fun p => if fitB p = true then some (.str p.shown) else none
  | _ => none
theorem pairs_reads {P : Program} {w : World} {h : Heap} : ∀ {es : List DictEntry} {vs : List (Key × Value)}, Pairs (mixKind P w) es vs →
    ReadsAll h (es.map (·.key)) (vs.map fun p => keyQ p.1) [] ∧ es.map (·.val) = vs.map (·.2)
  | _, _, .nil => ⟨.nil, rfl⟩
  | _, _, .cons (kv := kv) hk hv t => by
    obtain ⟨r, e⟩ := pairs_reads (h := h) t
    refine ⟨?_, by simp only [List.map_cons, hv, e]⟩
    rcases keyIs_shape hk with ⟨i, t, e1, e2⟩ | ⟨i, t, e1, e2⟩
    · rw [List.map_cons, List.map_cons, e2, e1]
      exact ReadsAll.cons (as := []) (Reads.int i t) r
    · rw [List.map_cons, List.map_cons, e2, e1]
      exact ReadsAll.cons (as := []) (Reads.str i t) r
section
variable {X : Cx} {pins : List (Addr × Obj)} {σ : L2.St} {s : Shared} {c : Cfg} {mg : Str → Option Value}
theorem keys_q : ∀ {kvs : List (Key × V)} {ds : List (Key × D)} {vs : List (Key × Value)} {ps : List (PyData × PyData)}, DenK X.K mg c kvs ds → KV kvs vs → toQK ds = some ps →
    vs.map (fun p => keyQ p.1) = ps.map (·.1)
  | [], _, _, _, h, r, e => by cases h; cases r; rw [toQK] at e; cases e; rfl
  | p :: kvs, _, _, _, h, r, e => by
    cases h with
    | cons h1 h2 =>
      cases r with
      | cons r1 r2 =>
        obtain ⟨r1, _⟩ := r1
        rw [toQK] at e
        obtain ⟨x, e1, e⟩ := bd e
        obtain ⟨xs, e2, rfl⟩ := mp e
        rw [List.map_cons, List.map_cons, keys_q h2 r2 e2, ← r1]
theorem sys_no {a : Addr} (I : Inv X pins σ c.H s) (hs : ∃ mm, X.base.Ns sysModules mm) {u : HO} (h : c.H a = some u) {as : List Addr} (k : sysModules ∉ as) : sysModules ∉ a :: as := fun q => by
  rcases List.mem_cons.mp q with e | e
  · obtain ⟨mm, o, es, ep, g, _⟩ := hs
    have := (I.bs _ _ g).2
    rw [e, h] at this
    cases this
  · exact k e
mutual
theorem den_reads (I : Inv X pins σ c.H s) (hs : ∃ mm, X.base.Ns sysModules mm) : ∀ {d : D} {v : V} {u : Value} {p : PyData}, Den X.K mg c v d → RelV v u → toQ d = some p → ∃ as, Reads s.heap u p as ∧ sysModules ∉ as
  | .non, _, _, _, h, r, e => by cases h; cases r; cases e; exact ⟨[], .none, List.not_mem_nil⟩
  | .bl b, _, _, _, h, r, e => by cases h; cases r; cases e; exact ⟨[], .bool b, List.not_mem_nil⟩
  | .int b, _, _, _, h, r, e => by cases h; obtain ⟨t, rfl⟩ := r; cases e; exact ⟨[], .int b t, List.not_mem_nil⟩
  | .str b, _, _, _, h, r, e => by cases h; obtain ⟨t, rfl⟩ := r; cases e; exact ⟨[], .str b t, List.not_mem_nil⟩
  | .lst ds, _, _, _, h, r, e => by
    rw [toQ] at e
    obtain ⟨xs, e1, rfl⟩ := mp e
    cases h with
    | lst s1 t1 =>
      cases r
      obtain ⟨its, rv, ⟨o, z, ho, hc, _, hd⟩, _⟩ := I.list s1.get
      obtain ⟨as, hr, k⟩ := den_readsA I hs t1 rv e1
      refine ⟨_, Reads.list ho hc hd hr, ?_⟩
      rcases s1.2 with s2 | ⟨ob, s2⟩
      · exact sys_no I hs s2 k
      · exact sys_no I hs s2 k
  | .tup ds, _, _, _, h, r, e => by
    rw [toQ] at e
    obtain ⟨xs, e1, rfl⟩ := mp e
    cases h with
    | tup s1 t1 =>
      cases r
      obtain ⟨its, rv, ⟨o, ho, hc, z, hd⟩, _⟩ := I.tuple s1.get
      obtain ⟨as, hr, k⟩ := den_readsA I hs t1 rv e1
      exact ⟨_, Reads.tuple ho hc hd hr, k⟩
  | .dct ds, _, _, _, h, r, e => by
    rw [toQ] at e
    obtain ⟨xs, e1, rfl⟩ := mp e
    cases h with
    | dct n s1 t1 =>
      cases r
      obtain ⟨_, hm, vs, kv, o, es, ep, ho, hx, hd, hes⟩ := dk_of I.hok s1
      obtain ⟨as, hr, k⟩ := den_readsK I hs t1 kv e1
      obtain ⟨_, hp, _⟩ := hes
      obtain ⟨r1, e2⟩ := pairs_reads (h := s.heap) hp
      rw [← e2] at hr
      rw [keys_q t1 kv e1] at r1
      exact ⟨_, Reads.dict ho hx.1 hd r1 hr, sys_no I hs s1 (by simpa using k)⟩
  | .ref _, _, _, _, _, _, e => by rw [toQ] at e; cases e
  | .fn _, _, _, _, _, _, e => by rw [toQ] at e; cases e
  | .ty _, _, _, _, _, _, e => by rw [toQ] at e; cases e
  | .seq _, _, _, _, _, _, e => by rw [toQ] at e; cases e
  | .cls _, _, _, _, _, _, e => by rw [toQ] at e; cases e
  | .err _ _, _, _, _, _, _, e => by rw [toQ] at e; cases e
theorem den_readsA (I : Inv X pins σ c.H s) (hs : ∃ mm, X.base.Ns sysModules mm) : ∀ {ds : List D} {vs : List V} {us : List Value} {ps : List PyData}, DenA X.K mg c vs ds → Vals vs us → toQA ds = some ps → ∃ as, ReadsAll s.heap us ps as ∧ sysModules ∉ as
  | [], _, _, _, h, r, e => by cases h; cases r; rw [toQA] at e; cases e; exact ⟨[], .nil, List.not_mem_nil⟩
  | d :: ds, _, _, _, h, r, e => by
    rw [toQA] at e
    obtain ⟨x, e1, e⟩ := bd e
    obtain ⟨xs, e2, rfl⟩ := mp e
    cases h with
    | cons h1 h2 =>
      cases r with
      | cons r1 r2 =>
        obtain ⟨as, q1, k1⟩ := den_reads I hs h1 r1 e1
        obtain ⟨bs, q2, k2⟩ := den_readsA I hs h2 r2 e2
        exact ⟨_, ReadsAll.cons q1 q2, fun q => (List.mem_append.mp q).elim k1 k2⟩
theorem den_readsK (I : Inv X pins σ c.H s) (hs : ∃ mm, X.base.Ns sysModules mm) : ∀ {ds : List (Key × D)} {vs : List (Key × V)} {us : List (Key × Value)} {ps : List (PyData × PyData)}, DenK X.K mg c vs ds → KV vs us → toQK ds = some ps →
    ∃ as, ReadsAll s.heap (us.map (·.2)) (ps.map (·.2)) as ∧ sysModules ∉ as
  | [], _, _, _, h, r, e => by cases h; cases r; rw [toQK] at e; cases e; exact ⟨[], .nil, List.not_mem_nil⟩
  | (_, d) :: ds, _, _, _, h, r, e => by
    rw [toQK] at e
    obtain ⟨x, e1, e⟩ := bd e
    obtain ⟨xs, e2, rfl⟩ := mp e
    cases h with
    | cons h1 h2 =>
      cases r with
      | cons r1 r2 =>
        obtain ⟨as, q1, k1⟩ := den_reads I hs h1 r1.2 e1
        obtain ⟨bs, q2, k2⟩ := den_readsK I hs h2 r2 e2
        exact ⟨_, ReadsAll.cons q1 q2, fun q => (List.mem_append.mp q).elim k1 k2⟩
end
end
theorem fit_len {d : PyData} (h1 : d.leavesShort 50 = true) (h2 : d.bulk ≤ 100000) : d.shown.length ≤ sizeLine := by
  have a := PyData.shown_le_bulk 50 (by decide) d h1
  have b : (50 + 2) * d.bulk ≤ 52 * 100000 := Nat.mul_le_mul (by decide) h2
  rw [sizeLine_eq]
  omega
theorem cd_repr {X : Cx} (hr : Rg X.A) (hs : ∃ mm, X.base.Ns sysModules mm) : CallD X (.builtin "repr") reprD := by
  rintro pins s σ H xs us Q I r ⟨c, ds, z, rfl, k, D1, e, P⟩
  unfold reprD at e
  split at e
  · obtain ⟨v, rfl, q⟩ := da1 D1
    obtain ⟨p, h1, e⟩ := bd e
    by_cases F : fitB p = true
    · rw [if_pos F] at e
      cases e
      unfold fitB at F
      simp only [Bool.and_eq_true, decide_eq_true_eq] at F
      obtain ⟨⟨⟨f1, f2⟩, f3⟩, f4⟩ := F
      have hz := fit_len f2 f4
      obtain ⟨u, rfl, r1⟩ := vals1 r
      obtain ⟨as, R, ns⟩ := den_reads I hs q r1 h1
      have P' := P.here k (.str _)
      have hu := hr.un
      cases R with
      | none => exact PySem.P.repr_of_none ⟨.str _, c.H, I.tok _, ⟨_, rfl⟩, P'⟩
      | bool b =>
        refine PySem.P.repr_of_bool ⟨.str _, c.H, I.tok _, ⟨_, rfl⟩, ?_⟩
        cases b <;> exact P'
      | int i t => exact PySem.P.repr_of_int (by simpa [PyData.showable] using f1) ⟨.str _, c.H, I.tok _, ⟨_, rfl⟩, P'⟩
      | str x t => exact PySem.P.repr_of_str ⟨.str _, c.H, I.tok _, ⟨_, rfl⟩, P'⟩ hz
      | list g1 g2 g3 g4 => exact repr_of_reads' (Reads.list g1 g2 g3 g4) f1 (fun _ => ns) hr.g (by omega) (fun _ _ e => e) (fun h' t tk k => ⟨.str _, c.H, I.kept k, ⟨_, rfl⟩, P'⟩) hz
      | tuple g1 g2 g3 g4 => exact repr_of_reads' (Reads.tuple g1 g2 g3 g4) f1 (fun _ => ns) hr.g (by omega) (fun _ _ e => e) (fun h' t tk k => ⟨.str _, c.H, I.kept k, ⟨_, rfl⟩, P'⟩) hz
      | dict g1 g2 g3 g4 g5 => exact repr_of_reads' (Reads.dict g1 g2 g3 g4 g5) f1 (fun _ => ns) hr.g (by omega) (fun _ _ e => e) (fun h' t tk k => ⟨.str _, c.H, I.kept k, ⟨_, rfl⟩, P'⟩) hz
    · rw [if_neg F] at e; cases e
  · cases e
end M

namespace W2
open PySem PySem.Spec PyProof.Rows L2

/-! ### the law's own call -/
section
variable {P : Program} {w : World} {K : PySem.W.Frag} {mg mb : Str → Option Value} {k : Nat} {fa a : Addr}
  {fd : FuncData} {x : Str} {sp : Sp} {s₁ : Shared} {vs : List Value} {ns : List Int}
def LawEnd (s₁ : Shared) : Result → Shared → Prop := fun r s' =>
  r = .ok (.ret (.bool true)) ∧ OldK s₁.heap s'.heap ∧ s'.os = s₁.os ∧ AllBare s'.gens
theorem law_core (H : Hp) (hO : Only H) (hS : SqL K H a (ns.map V.int)) (hok : HOk P w H s₁.heap)
    (hA : ∀ b, H b ≠ none → b = a) (hK : H a ≠ none → K.lookup a = none)
    (KX : K.In s₁.heap) (hns : s₁.heap.Ns mainGlobals mg) (hb : s₁.heap.Ns builtinsNs mb)
    (hbb : ∀ x : Str, x ≠ "__name__" → mb x = bootBuiltins x) (hlim : s₁.heap.NoLimit) (hg : s₁.gens = #[])
    (ha : s₁.heap.get? a = some { cls := .type "list", data := .seq vs.toArray })
    (hr : Room k callerA)
    (hsy : ∃ mm, s₁.heap.Ns sysModules mm)
    (F : ∀ base : Heap, K.In base → base.Ns mainGlobals mg → (∃ mm, base.Ns sysModules mm) → FnG P w K mg base k fa fd [x] sp)
    (hbind : ∀ (s : Shared) (u : Value), BindsTo s fd ⟨[u], []⟩ [(x, u)])
    (hsp : ∀ H : Hp, Only H → SqL K H a (ns.map V.int) → sp [.ref a] H (fun v _ => v = .bl true) E0) :
    codeAny (model P w) callerA (.call (.ref fa) ⟨[.ref a], []⟩) (LawEnd s₁) s₁ := by
  have none_of : ∀ {b : Addr} {o : Obj}, s₁.heap.get? b = some o → (b = a → False) → H b = none := by
    intro b o _ n
    cases q : H b with
    | none => rfl
    | some u => exact (n (hA b (by rw [q]; exact fun z => nomatch z))).elim
  have nsK : ∀ {b : Addr} {m : Str → Option Value}, s₁.heap.Ns b m → (hidT s₁.heap H).Ns b m := by
    rintro b m ⟨o, es, ep, e, d, r⟩
    refine ⟨o, es, ep, hidT_get e (none_of e fun q => ?_), d, r⟩
    rw [q, ha] at e
    cases e
    cases d
  have hKb : K.In (hidT s₁.heap H) := by
    intro b o e
    refine hidT_get (KX b o e) ?_
    cases q : H b with
    | none => rfl
    | some u =>
      have z := hA b (by rw [q]; exact fun z => nomatch z)
      rw [z] at e q
      rw [hK (by rw [q]; exact fun z => nomatch z)] at e
      cases e
  have hM : Mod K mg (hidT s₁.heap H) := by
    obtain ⟨mc, h1, h2⟩ := hlim
    exact ⟨hKb, nsK hns, ⟨mb, nsK hb, hbb⟩, ⟨mc, nsK h1, h2⟩⟩
  have e0 : Env0 P w K mg (hidT s₁.heap H) callerA [] s₁ H := by
    refine ⟨rfl, hM, fun b o e => of_hidT e, Nat.le_of_eq (hidT_size _ _), trivial, ?_, hok, .of_eq hg⟩
    intro b hb
    cases hb
  have run := (F _ hKb (nsK hns) (hsy.elim fun mm h => ⟨mm, nsK h⟩)).run callerA [] s₁ H ⟨[.ref a], []⟩ [.ref a] [.ref a] _ _ ⟨hr, rfl⟩ e0
    (hbind s₁ (.ref a)) (.cons rfl .nil) (hsp H hO hS)
  refine codeAny_mono run fun r s' h => ?_
  match r, h with
  | .error e, h =>
    obtain ⟨_, _, _, _, _, _, _, _, _, _, _, _, z⟩ := h
    exact (show False from z).elim
  | .ok (.ret u), h =>
    obtain ⟨v, H', os, bare, un, hok', r', q⟩ := h
    cases (show v = .bl true from q)
    cases (show u = Value.bool true from r')
    refine ⟨rfl, OldK.of_keep fun b o e => ?_, os, bare⟩
    rcases hO b with z | ⟨ob, xs, z⟩
    · exact un.keep b o e z (fun z => nomatch z) (fun z => nomatch z)
    · obtain ⟨e1, _⟩ := hok b _ z
      obtain ⟨e2, _⟩ := hok' b _ (un.frzs b ob _ z)
      rw [e1] at e
      cases e
      exact e2
theorem law_G (KX : K.In s₁.heap) (hns : s₁.heap.Ns mainGlobals mg) (hb : s₁.heap.Ns builtinsNs mb)
    (hbb : ∀ x : Str, x ≠ "__name__" → mb x = bootBuiltins x) (hlim : s₁.heap.NoLimit) (hg : s₁.gens = #[])
    (ha : s₁.heap.get? a = some { cls := .type "list", data := .seq vs.toArray }) (hi : IntsAre vs ns)
    (hl : ns.length ≤ sizeLine) (hr : Room k callerA)
    (hsy : ∃ mm, s₁.heap.Ns sysModules mm)
    (F : ∀ base : Heap, K.In base → base.Ns mainGlobals mg → (∃ mm, base.Ns sysModules mm) → FnG P w K mg base k fa fd [x] sp)
    (hbind : ∀ (s : Shared) (u : Value), BindsTo s fd ⟨[u], []⟩ [(x, u)])
    (hsp : ∀ H : Hp, Only H → SqL K H a (ns.map V.int) → sp [.ref a] H (fun v _ => v = .bl true) E0) :
    codeAny (model P w) callerA (.call (.ref fa) ⟨[.ref a], []⟩) (LawEnd s₁) s₁ := by
  have rv := vals_ints hi
  have lenV := hi.length
  cases hk : K.lookup a with
  | some o =>
    have e := KX a o hk
    rw [ha] at e
    cases e
    refine law_core (ns := ns) (mb := mb) (vs := vs) (fun _ => none) (fun _ => .inl rfl) ?_ (fun b u z => nomatch z) (fun b z => (z rfl).elim)
      (fun z => (z rfl).elim) KX hns hb hbb hlim hg ha hr hsy F hbind hsp
    exact .inr ⟨_, vs.toArray, _, hk, rfl, rfl, rfl, by rw [List.size_toArray, lenV]; exact hl, by simpa using rv⟩
  | none =>
    let u : HO := .frz { cls := .type "list", data := .seq vs.toArray } (.lst (ns.map V.int))
    have at_a : (fun b => if b = a then some u else none : Hp) a = some u := if_pos rfl
    have off : ∀ b, b ≠ a → (fun b => if b = a then some u else none : Hp) b = none := fun b n => if_neg n
    refine law_core (ns := ns) (mb := mb) (vs := vs) (fun b => if b = a then some u else none) (fun b => ?_) (.inl (.inr ⟨_, at_a⟩)) (fun b z q => ?_)
      (fun b z => ?_) (fun _ => hk) KX hns hb hbb hlim hg ha hr hsy F hbind hsp
    · by_cases n : b = a
      · exact .inr ⟨_, _, if_pos n⟩
      · exact .inl (off b n)
    · by_cases n : b = a
      · cases n
        rw [at_a] at q
        cases q
        exact ⟨ha, by rw [List.length_map]; exact hl, vs, _, rv, ha⟩
      · rw [off b n] at q
        cases q
    · by_cases n : b = a
      · exact n
      · exact (z (off b n)).elim
end
theorem walk_G {l : PySem.W.OpenLaw} {n k : Nat} {q : Program} {loose : List Str}
    {XP : (Str → Option Value) → Heap → Prop} {YP : World → Heap → Prop} {d : DefRec}
    {K : Params → PySem.W.Frag} {sp : World → Sp} {x : Str}
    (hn : l.most = some n) (hq : importsNone q = true) (hn2 : n ≤ sizeLine) (hdf : d.params.defaults = []) (hr : Room k callerA)
    (hY : ∀ (w : World) (h : Heap), YP w h → (K w.params).In h)
    (F : ∀ (w : World) (mg : Str → Option Value) (fa : Addr) (h : Heap), (K w.params).In h →
      h.Ns mainGlobals mg → mg d.name = some (.ref fa) →
      ∃ fd : FuncData, (∀ (s : Shared) (u : Value), BindsTo s fd ⟨[u], []⟩ [(x, u)]) ∧
        ∀ base : Heap, (K w.params).In base → base.Ns mainGlobals mg → (∃ mm, base.Ns sysModules mm) →
          FnG l.prog w (K w.params) mg base k fa fd [x] (sp w))
    (hsp : ∀ (w : World) (H : Hp) (a : Addr) (ns : List Int), ns.length ≤ n → Only H →
      SqL (K w.params) H a (ns.map V.int) → sp w [.ref a] H (fun v _ => v = .bl true) E0) :
    PySem.W.WalkO q loose XP YP l.row.toRowW d [] (fun f vs => PySem.call f vs) := by
  apply Att.attach_call hn hdf
  intro w s₀ s₁ mg mb fa o pm cd doc a vs ns G Y ho hd hcd hmg hobj hints hlen hg
  obtain ⟨fd, hb, hF⟩ := F w mg fa _ (hY w _ Y) G.T.g hmg
  exact law_G (hY w _ Y) G.T.g G.T.b G.T.builtins G.T.nolimit hg hobj hints (Nat.le_trans hlen hn2) hr (let ⟨mm, h, _⟩ := (G.T.seer hq).mods; ⟨mm, h⟩) hF hb
    fun H hO hS => hsp w H a ns hlen hO hS
end W2

namespace M
open PySem PySem.Spec L2 W2 RZ

/-! ### a def called by its one parameter's name -/
structure CalK (P : Program) (w : World) (K : PySem.W.Frag) (mg : Str → Option Value) (base : Heap) (k : Nat) (x p : Str) (F : Fn) : Prop where
  ex : ∃ (f : Addr) (fd : FuncData), mg x = some (.ref f) ∧ PySem.W.keepIn K (.ref f) = true ∧ (∀ (s : Shared) (u : Value), BindsTo s fd ⟨[], [(p, u)]⟩ [(p, u)]) ∧ FnG P w K mg base k f fd [p] (spM K mg 1 F)
def mKw (F : Fn) (f : EvF) : EvF := fun ρ S => (f ρ S).bind fun x => F [x.1] x.2
section
variable {X : Cx} {pos p kpos : Pos} {e : Expr} {es : List Expr} {f : EvF} {fa : EaF} {k np i : Nat} {x y : Str} {F : Fn}
theorem me_kw (C : CalK X.prog X.w X.K X.mg X.base k x y F) (hr : Rm k X.A) (hg : Gl X x) (he : ME X e f)
    (hall : (backToKw pos (keywordEach [⟨some y, e, kpos⟩] X.env)).all (·.1.isSome) = true := by rfl) (hks : (backToKw pos (keywordEach [⟨some y, e, kpos⟩] X.env)).filterMap (·.1) = [y] := by rfl)
    (hdb : (x == ("__debug__" : Str)) = false := by decide) (hpl : ((backTo pos (starEach [] X.env)).any (·.1) || (backToKw pos (keywordEach [⟨some y, e, kpos⟩] X.env)).any (·.1.isNone)) = false := by rfl) :
    ME X (.Call (.Name x p) [] [⟨some y, e, kpos⟩] pos) (mKw F f) := by
  obtain ⟨fa, fd, hm, hk, hb, G⟩ := C.ex
  constructor
  rintro pins s σ H Q I ⟨c, ρ, d, S', ⟨rfl, k, en⟩, q, P⟩
  obtain ⟨z, h1, q1⟩ := bd q
  refine wpAny_Call_Name_kw (ld_glob I hg hm ?_ hdb)
  refine PySem.W.callWith_KW0 (h₀ := X.base) I.ok.mod.kin hk hall ?_ hpl
  refine thn ((pk_cons he pk_nil).run pos pins s σ c.H (fun vs H' => spM X.K X.mg 1 F vs H' Q E0) I ?_) ?_
  · refine ⟨c, ρ, z.1, z.2, .of k en, h1, fun v c1 l1 k1 e1 D1 => ⟨rfl, c1, [z.1], d, S', rfl, k1, .cons D1 .nil, by rw [e1]; exact q1, P.mono l1⟩⟩
  · rintro ws s2 ⟨zs, H2, I2, rz, hsp⟩
    refine ⟨I2.kIn, ?_⟩
    rw [hks]
    have hl := hsp.1
    match zs, rz, hl with
    | [zv], rz, _ =>
      obtain ⟨u, rfl, r1⟩ := vals1 rz
      refine wpAny_call (codeAny_mono (run_X (us := [u]) (vs := [zv]) (ar := ⟨[], [(y, u)]⟩) G hr takes_none5 (hb s2 u) I2 rz hsp) fun r s' hq => ?_)
      match r, hq with
      | .error _, hq => exact hq
      | .ok (.ret u), hq => exact hq
/-- a local name that holds a def of one parameter -/
def mHeld (i : Nat) (tbl : Str → Option Fn) (fa : EaF) : EvF := fun ρ S => match ρ[i]? with
  | some (some (.fn x)) => match tbl x with
    | some F => (fa ρ S).bind fun a => F a.1 a.2
    | none => none
  | _ => none
theorem me_held {tbl : Str → Option Fn} (C : ∀ z F, tbl z = some F → Cal X.prog X.w X.K X.mg X.base k z np F) (hr : Rm k X.A) (hN : X.N[i]? = some x) (hv : Vis X.env.scope x) (ha : MA X (e :: es) fa) (hn : ∀ ρ S ds S', fa ρ S = some (ds, S') → ds.length = np)
    (hdb : (x == ("__debug__" : Str)) = false := by decide) (hcd : (x == ("__classdict__" : Str)) = false := by decide)
    (he : starEach (e :: es) X.env = (false, eval e X.env) :: starEach es X.env := by rfl) (hpl : (backTo pos (starEach es X.env)).any (·.1) = false := by rfl) :
    ME X (.Call (.Name x p) (e :: es) [] pos) (mHeld i tbl fa) := by
  constructor
  rintro pins s σ H Q I ⟨c, ρ, d, S', ⟨rfl, k, en⟩, q, P⟩
  unfold mHeld at q
  split at q
  · rename_i z hz
    split at q
    · rename_i F hF
      obtain ⟨⟨ds, S1⟩, h1, q1⟩ := bd q
      obtain ⟨f, fd, ps, hm, hk, hb, G, hl⟩ := (C z F hF).ex
      obtain ⟨v, h2, h3⟩ := en.get i _ hz
      cases h3 with
      | fn hm2 =>
        rw [hm] at hm2
        cases hm2
        refine wpAny_Call_Name_kw (thn ((pe_var (pos := p) hN hv hdb hcd).run pins s σ c.H (fun v H1 => v = .ref f ∧ H1 = c.H) I ⟨.ref f, h2, rfl, rfl⟩) ?_)
        rintro u s1 ⟨v, H1, I1, r1, rfl, rfl⟩
        cases r1
        refine PySem.W.callWith_K (h₀ := X.base) I.ok.mod.kin hk ?_ he hpl
        refine thn (ha.run pos pins s1 σ c.H (fun vs H2 => spM X.K X.mg np F vs H2 Q E0) I1 ⟨c, ρ, ds, S1, .of k en, h1, fun vs c1 l1 k1 e1 D1 => ?_⟩) ?_
        · exact ⟨by rw [D1.length]; exact hn _ _ _ _ h1, c1, ds, d, S', rfl, k1, D1, by rw [e1]; exact q1, P.mono l1⟩
        · rintro us s2 ⟨vs, H2, I2, r, q⟩
          exact ⟨I2.kIn, run_G G hr hb I2 r q⟩
    · cases q
  · cases q
end

section
variable {X : Cx} {pos : Pos} {x : Str}
theorem me_ty (n : String) (hg : Gl X x) (hm : X.mg x = none) (hv : bootBuiltins x = some (.type n)) (hn : x ≠ "__name__" := by decide) (hd : (x == ("__debug__" : Str)) = false := by decide) : ME X (.Name x pos) (mC (.ty n)) :=
  me_c (pe_bltn (v := .ty n) (u := .type n) hg hm hv rfl hn hd) fun _ => .ty n
theorem me_gint {i : Int} {t : Tok} (hg : Gl X x) (hm : X.mg x = some (.int i t)) (hd : (x == ("__debug__" : Str)) = false := by decide) : ME X (.Name x pos) (mC (.int i)) := me_c (pe_glob (v := .int i) hg hm ⟨t, rfl⟩ hd) fun _ => .int i
theorem me_gref {a : Addr} {d : D} (hg : Gl X x) (hm : X.mg x = some (.ref a)) (q : ∀ c, Den X.K X.mg c (.ref a) d) (hd : (x == ("__debug__" : Str)) = false := by decide) : ME X (.Name x pos) (mC d) := me_c (pe_glob (v := .ref a) hg hm rfl hd) q
end

/-! ### from the text's facts -/
theorem cal_mk {P : Program} {w : World} {K : PySem.W.Frag} {mg : Str → Option Value} {base : Heap} {x : Str} {st : Stmt} {f : Addr} {fd : FuncData} {ps : List Str} {k np : Nat} {F : Fn} (Z : Fun K x x st f fd) (m : mg x = some (.ref f)) (b : Binds K fd ps [])
    (hl : ps.length = np) (G : FnG P w K mg base k f fd ps (spM K mg ps.length F)) : Cal P w K mg base k x np F := by
  subst hl
  exact ⟨⟨f, fd, ps, m, Z.kp, b, G, rfl⟩⟩
theorem calK_mk {P : Program} {w : World} {K : PySem.W.Frag} {mg : Str → Option Value} {base : Heap} {x p : Str} {st : Stmt} {f : Addr} {fd : FuncData} {k : Nat} {F : Fn} (Z : Fun K x x st f fd) (m : mg x = some (.ref f))
    (b : ∀ (s : Shared) (u : Value), BindsTo s fd ⟨[], [(p, u)]⟩ [(p, u)]) (G : FnG P w K mg base k f fd [p] (spM K mg 1 F)) : CalK P w K mg base k x p F := ⟨⟨f, fd, m, Z.kp, b, G⟩⟩
/-- a tuple of the written part that holds defs -/
theorem den_fns {K : PySem.W.Frag} {mg : Str → Option Value} {c : Cfg} {a : Addr} {od : Option Addr} {n : Nat} {sl : Array (Option Value)} {fs : List Addr} {xs : List Str} (hk : K.lookup a = some ⟨.type "tuple", od, .seq (fs.map Value.ref).toArray n, sl⟩) (hz : fs.length ≤ 1000)
    (h : Paired (fun f x => mg x = some (.ref f)) fs xs) : Den K mg c (.ref a) (.tup (xs.map .fn)) := by
  refine .tup (xs := fs.map V.ref) (.inr (.inr ⟨_, (fs.map Value.ref).toArray, n, hk, rfl, rfl, by simpa using Nat.le_trans hz (by decide), ?_⟩)) ?_
  · rw [List.toList_toArray]
    clear hk hz h
    induction fs with
    | nil => exact .nil
    | cons f fs ih => exact .cons rfl ih
  · clear hk hz
    induction h with
    | nil => exact .nil
    | cons h t ih => exact .cons (.fn h) ih
/-- the law's promise: whatever the script -/
def spLaw (K : PySem.W.Frag) (mg : Str → Option Value) (F : Fn) : Sp := spM K mg 1 F
theorem law_sp {K : PySem.W.Frag} {mg : Str → Option Value} {F : Fn} {H : Hp} {a : Addr} {ns : List Int} (ho : Only H) (hS : SqL K H a (ns.map V.int)) (hF : ∃ S', F [.seq (ns.map .int)] [] = some (.bl true, S')) : spM K mg 1 F [.ref a] H (fun v _ => v = .bl true) E0 := by
  obtain ⟨S', hF⟩ := hF
  have none0 : ∀ j : Nat, ¬ j < ([] : Sto).length := fun j => Nat.not_lt_zero j
  have nB : ¬ (Cfg.mk (fun _ => 0) [] (fun _ => False) H).B a := fun q => q.elim (fun ⟨j, h, _⟩ => none0 j h) id
  refine ⟨rfl, ⟨fun _ => 0, [], fun _ => False, H⟩, [.seq (ns.map .int)], .bl true, S', rfl, ⟨fun j xs h => by simp at h, fun i j h => absurd h (none0 i), fun a h => h.elim⟩, .cons (.seq (xs := ns.map V.int) ?_ ?_) .nil, hF, fun v c' l k e D1 => by cases D1; rfl⟩
  · rcases hS with h | h
    · exact .inl ⟨nB, h⟩
    · exact .inr (.inr h)
  · clear hS hF nB
    induction ns with
    | nil => exact .nil
    | cons n ns ih => exact .cons (.int n) ih
end M

namespace M
open PySem PySem.Spec L2 W2 RZ

/-! ### all, a tuple many times -/
def blsOf : List D → Option (List Bool)
  | [] => some []
  | .bl b :: r => (blsOf r).map fun x => b :: x
  | _ => none
def allD : CbF := fun _ ds => match ds with
  | [.lst xs] => (blsOf xs).map fun bs => .bl (bs.all id)
  | _ => none
section
variable {X : Cx}
theorem den_bls {K : PySem.W.Frag} {mg : Str → Option Value} {c : Cfg} : ∀ {ds : List D} {vs : List V} {bs : List Bool}, DenA K mg c vs ds → blsOf ds = some bs → vs = bs.map V.bl
  | [], _, _, h, e => by cases h; cases e; rfl
  | d :: ds, _, _, h, e => by
    cases d <;> try (cases e)
    obtain ⟨x, h1, rfl⟩ := mp (show (blsOf ds).map _ = _ from e)
    cases h with
    | cons a b =>
      cases a
      rw [den_bls b h1]
      rfl
theorem cd_all (hc : X.calm = true) : CallD X (.builtin "all") allD := by
  rintro pins s σ H xs us Q I r ⟨c, ds, z, rfl, k, D1, e, P⟩
  unfold allD at e
  split at e
  · obtain ⟨v, rfl, q⟩ := da1 D1
    obtain ⟨bs, h1, rfl⟩ := mp e
    cases q with
    | lst s1 t1 =>
      have h2 := den_bls t1 h1
      subst h2
      exact cr_all hc pins s σ _ _ us Q I r ⟨_, _, rfl, s1.get, P.here k (.bl _)⟩
  · cases e
def mulT : D → D → Option D
  | .tup xs, .int k => if xs ≠ [] ∧ 2 ≤ k ∧ k ≤ 1000 ∧ xs.length ≤ 1000 then some (.tup (List.replicate k.toNat xs).flatten) else none
  | _, _ => none
theorem den_rep {K : PySem.W.Frag} {mg : Str → Option Value} {c : Cfg} {vs : List V} {ds : List D} (h : DenA K mg c vs ds) : ∀ n, DenA K mg c (List.replicate n vs).flatten (List.replicate n ds).flatten
  | 0 => .nil
  | n + 1 => by
    rw [List.replicate_succ, List.replicate_succ, List.flatten_cons, List.flatten_cons]
    exact h.app (den_rep h n)
theorem od_mulT : OpD X (binaryOp .Mult) mulT := by
  rintro pins s σ H x y v u Q I rx ry ⟨c, a, b, z, rfl, k, Da, Db, e, P⟩
  cases a <;> cases b <;> try (cases e)
  rename_i xs j
  have e' : (if xs ≠ [] ∧ 2 ≤ j ∧ j ≤ 1000 ∧ xs.length ≤ 1000 then some (D.tup (List.replicate j.toNat xs).flatten) else none) = some z := e
  by_cases l : xs ≠ [] ∧ 2 ≤ j ∧ j ≤ 1000 ∧ xs.length ≤ 1000
  · rw [if_pos l] at e'; cases e'
    cases Da with
    | tup s1 t1 =>
      cases Db
      have hl := t1.length
      refine op_repT pins s σ _ _ _ v u Q I rx ry ⟨_, _, _, rfl, rfl, s1.get, fun q => ?_, l.2.1, l.2.2.1, by rw [hl]; exact l.2.2.2, post_tup P k (den_rep t1 _)⟩
      rw [q] at hl
      exact l.1 (List.length_eq_zero_iff.mp hl.symm)
  · rw [if_neg l] at e'; cases e'

/-! ### a dict of the top with text keys -/
abbrev Kvs := List (Str × D)
def lkD : Kvs → Str → Option D
  | [], _ => none
  | (k, d) :: r, z => if k = z then some d else lkD r z
def lkV : List (Str × Value) → Str → Option Value
  | [], _ => none
  | (k, d) :: r, z => if k = z then some d else lkV r z
/-- its entries, as written -/
def Ents (l : List DictEntry) (ps : List (Str × Value)) : Prop := Paired (fun e p => ∃ t, e.key = .str p.1 t ∧ e.val = p.2) l ps
theorem ents_find {z : Str} : ∀ {l : List DictEntry} {ps : List (Str × Value)}, Ents l ps → (l.find? (·.key.isStr z)).map (·.val) = lkV ps z ∧ l.any (·.refKey) = false
  | _, _, .nil => ⟨rfl, rfl⟩
  | e :: l, p :: ps, .cons ⟨t, h1, h2⟩ r => by
    obtain ⟨i1, i2⟩ := ents_find (z := z) r
    constructor
    · rw [List.find?_cons]
      have q : e.key.isStr z = (p.1 == z) := by rw [h1]; rfl
      rw [q]
      unfold lkV
      by_cases y : p.1 = z
      · rw [if_pos y, show (p.1 == z) = true by simpa using y]
        simp [h2]
      · rw [if_neg y, show (p.1 == z) = false by simpa using y]
        exact i1
    · rw [List.any_cons, i2]
      have : e.refKey = false := by unfold DictEntry.refKey; rw [h1]
      rw [this]; rfl
theorem ns_of {K : PySem.W.Frag} {a : Addr} {es : Array DictEntry} {n : Nat} {ps : List (Str × Value)} (hl : K.lookup a = some ⟨.type "dict", none, .dict es n, #[]⟩) (h : Ents es.toList ps) (z : Str) : PySem.W.nsIn K a z = some (lkV ps z) := by
  obtain ⟨h1, h2⟩ := ents_find (z := z) h
  unfold PySem.W.nsIn
  rw [hl]
  dsimp only
  cases e : es.toList.find? (·.key.isStr z) with
  | none =>
    rw [e] at h1
    rw [h2, ← h1]
    rfl
  | some x =>
    rw [e] at h1
    rw [← h1]
    rfl
structure Tab (w : World) (K : PySem.W.Frag) (mg : Str → Option Value) (x : Str) (kvs : Kvs) : Prop where
  ex : ∃ a es n, mg x = some (.ref a) ∧ KDict K w a es n ∧ ∀ z, ∃ r, PySem.W.nsIn K a z = some r ∧ match lkD kvs z with
    | none => r = none
    | some d => ∃ u v, r = some u ∧ RelV v u ∧ ∀ c, Den K mg c v d
theorem tab_mk {w : World} {K : PySem.W.Frag} {mg : Str → Option Value} {x : Str} {a : Addr} {es : Array DictEntry} {n : Nat} {ps : List (Str × Value)} {kvs : Kvs} (hm : mg x = some (.ref a)) (hl : K.lookup a = some ⟨.type "dict", none, .dict es n, #[]⟩)
    (hk : PySem.W.KeysLit w.params es.toList) (lo : (a == sysModules) = false) (he : Ents es.toList ps) (hp : Paired (fun p q => p.1 = q.1 ∧ ∃ v, RelV v p.2 ∧ ∀ c, Den K mg c v q.2) ps kvs) : Tab w K mg x kvs := by
  refine ⟨a, es, n, hm, ⟨hl, hk, lo⟩, fun z => ⟨_, ns_of hl he z, ?_⟩⟩
  clear he hl hm hk
  induction hp with
  | nil => rfl
  | cons h t ih =>
    rename_i p q ps kvs
    obtain ⟨h1, v, h2, h3⟩ := h
    unfold lkD lkV
    by_cases y : q.1 = z
    · rw [if_pos y, if_pos (h1.trans y)]
      exact ⟨_, v, rfl, h2, h3⟩
    · rw [if_neg y, if_neg (fun q => y (h1.symm.trans q))]
      exact ih
def inKd (kvs : Kvs) : D → Option D
  | .str z => some (.bl (lkD kvs z).isSome)
  | _ => none
def ninKd (kvs : Kvs) : D → Option D
  | .str z => some (.bl (!(lkD kvs z).isSome))
  | _ => none
def ixKd (kvs : Kvs) : D → Option D
  | .str z => lkD kvs z
  | _ => none
def mU (op : D → Option D) (f : EvF) : EvF := fun ρ S => (f ρ S).bind fun x => (op x.1).map fun z => (z, x.2)
variable {pos p : Pos} {e : Expr} {f : EvF} {kvs : Kvs} {x : Str}
theorem rD_go {a : Addr} {op : D → Option D} {r : Option Value → Bool} (ht : ∀ z, ∃ r, PySem.W.nsIn X.K a z = some r ∧ match lkD kvs z with
    | none => r = none
    | some d => ∃ u v, r = some u ∧ RelV v u ∧ ∀ c, Den X.K X.mg c v d)
    (hr : ∀ z, op (.str z) = some (.bl (r ((lkD kvs z).map fun _ => Value.none)))) (hs : ∀ d y, op d = some y → ∃ z, d = .str z) (hr2 : ∀ u w, r (some u) = r (some w)) {σ : L2.St} {H : Hp} {Q : VK} (h : tM X.K X.mg (mU op f) σ H Q) :
    tOp (fun x y H Q => ∃ (z : Str) (r' : Option Value), x = .str z ∧ y = .ref a ∧ PySem.W.nsIn X.K a z = some r' ∧ Q (.bl (r r')) H) (tM X.K X.mg f) (tC (.ref a)) σ H Q := by
  obtain ⟨c, ρ, d, S', ⟨rfl, k, en⟩, q, p⟩ := h
  obtain ⟨⟨y, S1⟩, h1, q⟩ := bd q
  obtain ⟨z, h2, q⟩ := mp q
  cases q
  refine ⟨c, ρ, y, S1, .of k en, h1, fun v c1 l1 k1 e1 D1 => ?_⟩
  obtain ⟨w, rfl⟩ := hs _ _ h2
  cases D1
  obtain ⟨r', g1, g2⟩ := ht w
  refine ⟨w, r', rfl, rfl, g1, ?_⟩
  have h2' := (hr w).symm.trans h2
  cases h2'
  have : r r' = r ((lkD kvs w).map fun _ => Value.none) := by
    cases e : lkD kvs w with
    | none =>
      rw [e] at g2
      cases g2
      rfl
    | some d =>
      rw [e] at g2
      obtain ⟨u, v, rfl, _, _⟩ := g2
      exact hr2 _ _
  rw [this]
  exact p _ c1 l1 k1 e1 (.bl _)
theorem isS1 {kvs : Kvs} : ∀ d y, inKd kvs d = some y → ∃ z, d = .str z := by
  intro d y h
  cases d <;> first | exact ⟨_, rfl⟩ | cases h
theorem isS2 {kvs : Kvs} : ∀ d y, ninKd kvs d = some y → ∃ z, d = .str z := by
  intro d y h
  cases d <;> first | exact ⟨_, rfl⟩ | cases h
theorem me_inKd (T : Tab X.w X.K X.mg x kvs) (hg : Gl X x) (he : ME X e f) (hd : (x == ("__debug__" : Str)) = false := by decide) (hm : behindInMarks .In (.Name x p) = false := by rfl) : ME X (.Compare e [.In] [.Name x p] pos) (mU (inKd kvs) f) := by
  obtain ⟨a, es, n, hmg, kd, ht⟩ := T.ex
  exact pe_imp (pe_cmpR (op_in_kd kd) he (pe_glob (v := .ref a) hg hmg rfl hd) hm) fun _ _ _ => rD_go ht (r := Option.isSome) (fun z => by show some _ = _; rw [Option.isSome_map]) isS1 (fun _ _ => rfl)
theorem me_ninKd (T : Tab X.w X.K X.mg x kvs) (hg : Gl X x) (he : ME X e f) (hd : (x == ("__debug__" : Str)) = false := by decide) (hm : behindInMarks .NotIn (.Name x p) = false := by rfl) : ME X (.Compare e [.NotIn] [.Name x p] pos) (mU (ninKd kvs) f) := by
  obtain ⟨a, es, n, hmg, kd, ht⟩ := T.ex
  exact pe_imp (pe_cmpR (op_notIn_kd kd) he (pe_glob (v := .ref a) hg hmg rfl hd) hm) fun _ _ _ => rD_go ht (r := fun o => !o.isSome) (fun z => by show some _ = _; rw [Option.isSome_map]) isS2 (fun _ _ => rfl)
theorem mt_inKd (T : Tab X.w X.K X.mg x kvs) (hg : Gl X x) (he : ME X e f) (hd : (x == ("__debug__" : Str)) = false := by decide) (hm : behindInMarks .In (.Name x p) = false := by rfl) : MT X (.Compare e [.In] [.Name x p] pos) (mTv (mU (inKd kvs) f)) := by
  obtain ⟨a, es, n, hmg, kd, ht⟩ := T.ex
  exact mt_of (pt_cmpR (op_in_kd kd) he (pe_glob (v := .ref a) hg hmg rfl hd) hm) fun _ _ _ => rD_go ht (r := Option.isSome) (fun z => by show some _ = _; rw [Option.isSome_map]) isS1 (fun _ _ => rfl)
theorem mt_ninKd (T : Tab X.w X.K X.mg x kvs) (hg : Gl X x) (he : ME X e f) (hd : (x == ("__debug__" : Str)) = false := by decide) (hm : behindInMarks .NotIn (.Name x p) = false := by rfl) : MT X (.Compare e [.NotIn] [.Name x p] pos) (mTv (mU (ninKd kvs) f)) := by
  obtain ⟨a, es, n, hmg, kd, ht⟩ := T.ex
  exact mt_of (pt_cmpR (op_notIn_kd kd) he (pe_glob (v := .ref a) hg hmg rfl hd) hm) fun _ _ _ => rD_go ht (r := fun o => !o.isSome) (fun z => by show some _ = _; rw [Option.isSome_map]) isS2 (fun _ _ => rfl)
end
end M

namespace M
open PySem L2
/-! what a mirror gives, told by what is wanted of it -/
def wp {α : Type} (o : Option α) (Q : α → Prop) : Prop := ∃ a, o = some a ∧ Q a
section
variable {α β : Type} {Q : β → Prop} {R : α → Prop}
theorem wp_some {a : α} : wp (some a) R ↔ R a := ⟨fun ⟨_, h, q⟩ => by cases h; exact q, fun q => ⟨a, rfl, q⟩⟩
theorem wp_none : wp (none : Option α) R ↔ False := ⟨fun ⟨_, h, _⟩ => (by cases h), False.elim⟩
theorem wp_bind {o : Option α} {f : α → Option β} : wp (o.bind f) Q ↔ wp o fun a => wp (f a) Q := by
  cases o with
  | none => simp [wp]
  | some a => simp [wp]
theorem wp_map {o : Option α} {f : α → β} : wp (o.map f) Q ↔ wp o fun a => Q (f a) := by
  cases o with
  | none => simp [wp]
  | some a => simp [wp]
theorem wp_mono {o : Option α} {R' : α → Prop} (h : wp o R) (w : ∀ a, R a → R' a) : wp o R' := let ⟨a, e, q⟩ := h; ⟨a, e, w a q⟩
theorem wp_ite {c : Prop} [Decidable c] {a b : Option α} : wp (if c then a else b) R ↔ (if c then wp a R else wp b R) := by split <;> rfl
end
def bK {α : Type} (d : D) (a b : Option α) : Option α := match d with
  | .bl true => a
  | .bl false => b
  | _ => none
theorem w_bK {α : Type} {b : Bool} {x y : Option α} {Q : α → Prop} : wp (bK (.bl b) x y) Q ↔ if b = true then wp x Q else wp y Q := by cases b <;> rfl
section
variable {ρ : En} {S : Sto} {Q : D × Sto → Prop} {B : Bool × Sto → Prop} {L : List D × Sto → Prop} {O : Out × Sto → Prop} {f g h : EvF} {t u : EtF} {fa : EaF} {s1 s2 : StF}
theorem w_var {i : Nat} : wp (mVar i ρ S) Q ↔ wp (ρ[i]?) fun o => wp o fun d => Q (d, S) := by unfold mVar; rw [wp_bind]; simp only [wp_map]
theorem w_c {d : D} : wp (mC d ρ S) Q ↔ Q (d, S) := wp_some
theorem w_bin {op : D → D → Option D} : wp (mBin op f g ρ S) Q ↔ wp (f ρ S) fun x => wp (g ρ x.2) fun y => wp (op x.1 y.1) fun z => Q (z, y.2) := by unfold mBin; simp only [wp_bind, wp_map]
theorem w_and : wp (mAnd f g ρ S) Q ↔ wp (f ρ S) fun x => wp (bK x.1 (g ρ x.2) (some (.bl false, x.2))) Q := by unfold mAnd; simp only [wp_bind] <;> exact Iff.rfl
theorem w_or : wp (mOr f g ρ S) Q ↔ wp (f ρ S) fun x => wp (bK x.1 (some (.bl true, x.2)) (g ρ x.2)) Q := by unfold mOr; simp only [wp_bind] <;> exact Iff.rfl
theorem w_not : wp (mNot f ρ S) Q ↔ wp (f ρ S) fun x => wp (match x.1 with | .bl b => some (.bl (!b), x.2) | _ => none) Q := by unfold mNot; simp only [wp_bind] <;> exact Iff.rfl
theorem w_if : wp (mIf t f g ρ S) Q ↔ wp (t ρ S) fun b => if b.1 = true then wp (f ρ b.2) Q else wp (g ρ b.2) Q := by unfold mIf; simp only [wp_bind, wp_ite]
theorem w_nil : wp (mNil ρ S) L ↔ L ([], S) := wp_some
theorem w_cons : wp (mCons f fa ρ S) L ↔ wp (f ρ S) fun x => wp (fa ρ x.2) fun y => L (x.1 :: y.1, y.2) := by unfold mCons; simp only [wp_bind, wp_map]
theorem w_tup : wp (mTup fa ρ S) Q ↔ wp (fa ρ S) fun x => x.1.length ≤ 100000 ∧ Q (.tup x.1, x.2) := by
  unfold mTup; simp only [wp_bind]
  refine ⟨fun h => wp_mono h fun a q => ?_, fun h => wp_mono h fun a q => ?_⟩
  · split at q
    · rw [wp_some] at q; exact ⟨by assumption, q⟩
    · rw [wp_none] at q; exact q.elim
  · rw [if_pos q.1, wp_some]; exact q.2
theorem w_lst : wp (mLst fa ρ S) Q ↔ wp (fa ρ S) fun x => x.1.length ≤ 100000 ∧ Q (.lst x.1, x.2) := by
  unfold mLst; simp only [wp_bind]
  refine ⟨fun h => wp_mono h fun a q => ?_, fun h => wp_mono h fun a q => ?_⟩
  · split at q
    · rw [wp_some] at q; exact ⟨by assumption, q⟩
    · rw [wp_none] at q; exact q.elim
  · rw [if_pos q.1, wp_some]; exact q.2
theorem w_new : wp (mNew fa ρ S) Q ↔ wp (fa ρ S) fun x => x.1.length ≤ 100000 ∧ Q (.ref x.2.length, x.2 ++ [.lst x.1]) := by
  unfold mNew; simp only [wp_bind]
  refine ⟨fun h => wp_mono h fun a q => ?_, fun h => wp_mono h fun a q => ?_⟩
  · split at q
    · rw [wp_some] at q; exact ⟨by assumption, q⟩
    · rw [wp_none] at q; exact q.elim
  · rw [if_pos q.1, wp_some]; exact q.2
theorem w_tv : wp (mTv f ρ S) B ↔ wp (f ρ S) fun x => wp (match x.1 with | .bl b => some (b, x.2) | _ => none) B := by unfold mTv; simp only [wp_bind] <;> exact Iff.rfl
theorem w_tand : wp (mTand t u ρ S) B ↔ wp (t ρ S) fun x => if x.1 = true then wp (u ρ x.2) B else B (false, x.2) := by unfold mTand; simp only [wp_bind, wp_ite, wp_some]
theorem w_tor : wp (mTor t u ρ S) B ↔ wp (t ρ S) fun x => if x.1 = true then B (true, x.2) else wp (u ρ x.2) B := by unfold mTor; simp only [wp_bind, wp_ite, wp_some]
theorem w_tnot : wp (mTnot t ρ S) B ↔ wp (t ρ S) fun x => B (!x.1, x.2) := by unfold mTnot; simp only [wp_map]
theorem w_chain {op op' : D → D → Option D} : wp (mChain op op' f g h ρ S) Q ↔ wp (f ρ S) fun x => wp (g ρ x.2) fun y => wp (op x.1 y.1) fun z =>
    wp (bK z ((h ρ y.2).bind fun w => (op' y.1 w.1).map fun z => (z, w.2)) (some (.bl false, y.2))) Q := by unfold mChain; simp only [wp_bind] <;> exact Iff.rfl
theorem w_call {F : Fn} : wp (mCall F fa ρ S) Q ↔ wp (fa ρ S) fun x => wp (F x.1 x.2) Q := by unfold mCall; simp only [wp_bind] <;> exact Iff.rfl
theorem w_kw {F : Fn} : wp (mKw F f ρ S) Q ↔ wp (f ρ S) fun x => wp (F [x.1] x.2) Q := by unfold mKw; simp only [wp_bind] <;> exact Iff.rfl
theorem w_cb {op : CbF} : wp (mCb op fa ρ S) Q ↔ wp (fa ρ S) fun x => wp (op x.2 x.1) fun z => Q (z, x.2) := by unfold mCb; simp only [wp_bind, wp_map]
theorem w_ix : wp (mIx f g ρ S) Q ↔ wp (f ρ S) fun x => wp (g ρ x.2) fun y => wp (ixD y.2 x.1 y.1) fun z => Q (z, y.2) := by unfold mIx; simp only [wp_bind, wp_map]
theorem w_nop {O : Option Int × Sto → Prop} : wp (mNoP ρ S) O ↔ O (none, S) := wp_some
theorem w_p {O : Option Int × Sto → Prop} : wp (mP f ρ S) O ↔ wp (f ρ S) fun x => wp (match x.1 with | .int i => some (some i, x.2) | _ => none) O := by unfold mP; simp only [wp_bind] <;> exact Iff.rfl
theorem w_sl {l h : EoF} : wp (mSl f l h ρ S) Q ↔ wp (f ρ S) fun x => wp (l ρ x.2) fun y => wp (h ρ y.2) fun z => wp (slD z.2 x.1 y.1 z.1) fun w => Q (w, z.2) := by unfold mSl; simp only [wp_bind, wp_map]
theorem w_neg : wp (mNeg f ρ S) Q ↔ wp (f ρ S) fun x => wp (match x.1 with | .int i => some (.int (-i), x.2) | _ => none) Q := by unfold mNeg; simp only [wp_bind] <;> exact Iff.rfl
theorem w_ms {k : Str → Bool} : wp (mMs k f ρ S) Q ↔ wp (f ρ S) fun x => wp (match x.1 with | .str a => some (.bl (k a), x.2) | _ => none) Q := by unfold mMs; simp only [wp_bind] <;> exact Iff.rfl
theorem w_m1 {op : Sto → D → D → Option D} : wp (mM1 op f g ρ S) Q ↔ wp (f ρ S) fun x => wp (g ρ x.2) fun y => wp (op y.2 x.1 y.1) fun z => Q (z, y.2) := by unfold mM1; simp only [wp_bind, wp_map]
theorem w_d0 : wp (mD0 ρ S) Q ↔ Q (.dct [], S) := wp_some
theorem w_ret : wp (mRet f ρ S) O ↔ wp (f ρ S) fun x => O (.rt x.1, x.2) := by unfold mRet; simp only [wp_map]
theorem w_skip : wp (mSkip ρ S) O ↔ O (.nx ρ, S) := wp_some
theorem w_drop : wp (mDrop f ρ S) O ↔ wp (f ρ S) fun x => O (.nx ρ, x.2) := by unfold mDrop; simp only [wp_map]
theorem w_asg {tg : TgF} : wp (mAsg f tg ρ S) O ↔ wp (f ρ S) fun x => wp (tg ρ x.1) fun r => O (.nx r, x.2) := by unfold mAsg; simp only [wp_bind, wp_map]
theorem w_par {is : List Nat} : wp (mPar is fa ρ S) O ↔ wp (fa ρ S) fun x => wp (setAll is x.1 ρ) fun r => O (.nx r, x.2) := by unfold mPar; simp only [wp_bind, wp_map]
theorem w_ifs : wp (mIfS t s1 s2 ρ S) O ↔ wp (t ρ S) fun b => if b.1 = true then wp (s1 ρ b.2) O else wp (s2 ρ b.2) O := by unfold mIfS; simp only [wp_bind, wp_ite]
theorem w_seq : wp (mSeq s1 s2 ρ S) O ↔ wp (s1 ρ S) fun x => wp (match x.1 with | .nx r => s2 r x.2 | o => some (o, x.2)) O := by unfold mSeq; simp only [wp_bind] <;> exact Iff.rfl
theorem w_seti {o i : EvF} : wp (mSetI f o i ρ S) O ↔ wp (f ρ S) fun x => wp (o ρ x.2) fun y => wp (i ρ y.2) fun z => wp (match y.1, z.1 with | .ref j, .int n => (stSet z.2 j n x.1).map fun S' => (Out.nx ρ, S') | _, _ => none) O := by
  unfold mSetI; simp only [wp_bind] <;> exact Iff.rfl
theorem w_for {sr : SrF} {tg : TgF} : wp (mFor sr tg s1 ρ S) O ↔ wp (sr ρ S) fun x => wp (loop tg s1 x.1 ρ x.2) O := by unfold mFor; simp only [wp_bind] <;> exact Iff.rfl
theorem w_lc {sr : SrF} {j : Nat} {tt : EtF} {te : EvF} : wp (mLc sr j tt te ρ S) Q ↔ wp (sr ρ S) fun x => wp (mapL te tt j (ρ.set j none) x.1 x.2) fun r => r.1.length ≤ 100000 ∧ Q (.lst r.1, r.2) := by
  unfold mLc; simp only [wp_bind]
  refine ⟨fun h => wp_mono h fun a q => wp_mono q fun b q => ?_, fun h => wp_mono h fun a q => wp_mono q fun b q => ?_⟩
  · split at q
    · rw [wp_some] at q; exact ⟨by assumption, q⟩
    · rw [wp_none] at q; exact q.elim
  · rw [if_pos q.1, wp_some]; exact q.2
theorem w_sr : wp (sR fa ρ S) L ↔ wp (fa ρ S) fun x => wp (match x.1 with | [.int n] => if n ≤ 1000000 ∧ -1000000 ≤ n then some (upto n.toNat, x.2) else none | _ => none) L := by unfold sR; simp only [wp_bind] <;> exact Iff.rfl
theorem w_sl' : wp (sL f ρ S) L ↔ wp (f ρ S) fun x => wp (match x.1 with | .lst ds => some (ds, x.2) | _ => none) L := by unfold sL; simp only [wp_bind] <;> exact Iff.rfl
theorem w_st : wp (sT f ρ S) L ↔ wp (f ρ S) fun x => wp (match x.1 with | .tup ds => some (ds, x.2) | _ => none) L := by unfold sT; simp only [wp_bind] <;> exact Iff.rfl
theorem w_ss : wp (sS f ρ S) L ↔ wp (f ρ S) fun x => wp (match x.1 with | .str z => some (z.cps.toList.map fun c => .str ⟨#[c]⟩, x.2) | _ => none) L := by unfold sS; simp only [wp_bind] <;> exact Iff.rfl
theorem w_sz : wp (sZ fa ρ S) L ↔ wp (fa ρ S) fun x => wp (match x.1 with | [.tup as, .tup bs] => some (List.zipWith (fun a b => D.tup [a, b]) as bs, x.2) | _ => none) L := by unfold sZ; simp only [wp_bind] <;> exact Iff.rfl
theorem w_yes : wp (mYes ρ S) B ↔ B (true, S) := wp_some
theorem w_def {n : Nat} {ds : List D} : wp (mDef n s1 ds S) Q ↔ wp (s1 (ds.map some ++ List.replicate (n - ds.length) none) S) fun x => wp (match x.1 with | .rt d => some (d, x.2) | .nx _ => some (.non, x.2) | _ => none) Q := by
  unfold mDef; simp only [wp_bind] <;> exact Iff.rfl
theorem w_held {i : Nat} {tbl : Str → Option Fn} {x : Str} {F : Fn} (h1 : ρ[i]? = some (some (.fn x))) (h2 : tbl x = some F) : wp (mHeld i tbl fa ρ S) Q ↔ wp (fa ρ S) fun a => wp (F a.1 a.2) Q := by
  unfold mHeld; rw [h1]; simp only [h2, wp_bind]
end
/-- a loop by an invariant over (what is left, the names, the store) -/
theorem wp_loop {tg : TgF} {g : StF} {O : Out × Sto → Prop} (W : List D → En → Sto → Prop) (hd : ∀ ρ S, W [] ρ S → O (.nx ρ, S))
    (hs : ∀ d ds ρ S, W (d :: ds) ρ S → wp (tg ρ d) fun ρ1 => wp (g ρ1 S) fun x => match x.1 with
      | .nx r => W ds r x.2
      | .ct r => W ds r x.2
      | .bk r => O (.nx r, x.2)
      | .rt v => O (.rt v, x.2)) : ∀ (ds : List D) (ρ : En) (S : Sto), W ds ρ S → wp (loop tg g ds ρ S) O
  | [], ρ, S, w => wp_some.mpr (hd ρ S w)
  | d :: ds, ρ, S, w => by
    unfold loop
    rw [wp_bind]
    refine wp_mono (hs d ds ρ S w) fun ρ1 q => ?_
    rw [wp_bind]
    refine wp_mono q fun x q => ?_
    obtain ⟨x, S1⟩ := x
    cases x with
    | nx r => exact wp_loop W hd hs ds r S1 q
    | ct r => exact wp_loop W hd hs ds r S1 q
    | bk r => exact wp_some.mpr q
    | rt v => exact wp_some.mpr q
/-- a comprehension by an invariant over (what is left, what is made, the store) -/
theorem wp_mapL {te : EvF} {tt : EtF} {j : Nat} {ρ : En} {L : List D × Sto → Prop} (W : List D → List D → Sto → Prop) (hd : ∀ as S, W [] as S → L (as, S))
    (hs : ∀ d ds as S, W (d :: ds) as S → wp (tt (ρ.set j (some d)) S) fun b => if b.1 = true then wp (te (ρ.set j (some d)) b.2) fun y => W ds (as ++ [y.1]) y.2 else W ds as b.2) :
    ∀ (ds as : List D) (S : Sto), W ds as S → wp (mapL te tt j ρ ds S) fun r => L (as ++ r.1, r.2)
  | [], as, S, w => wp_some.mpr (by simpa using hd as S w)
  | d :: ds, as, S, w => by
    unfold mapL
    rw [wp_bind]
    refine wp_mono (hs d ds as S w) fun b q => ?_
    rw [wp_ite]
    by_cases z : b.1 = true
    · rw [if_pos z] at q ⊢
      rw [wp_bind]
      refine wp_mono q fun y q => ?_
      rw [wp_map]
      refine wp_mono (wp_mapL W hd hs ds (as ++ [y.1]) y.2 q) fun r q => ?_
      simpa using q
    · rw [if_neg z] at q ⊢
      exact wp_mapL W hd hs ds as b.2 q
section
variable {a b : Int} {p q : Bool} {x y : Str} {xs ys : List D} {S : Sto}
theorem e_addI : addD (.int a) (.int b) = some (.int (a + b)) := rfl
theorem e_addT : addD (.tup xs) (.tup ys) = if xs.length + ys.length ≤ 100000 then some (.tup (xs ++ ys)) else none := rfl
theorem e_addL : addD (.lst xs) (.lst ys) = if xs.length + ys.length ≤ 100000 then some (.lst (xs ++ ys)) else none := rfl
theorem e_addS : addD (.str x) (.str y) = if x.length + y.length ≤ 1000000 then some (.str (x ++ y)) else none := rfl
theorem e_subI : subD (.int a) (.int b) = some (.int (a - b)) := rfl
theorem e_mulI : mulD (.int a) (.int b) = if a.natAbs < 2 ^ 63 ∨ b.natAbs < 2 ^ 63 then some (.int (a * b)) else none := rfl
theorem e_modI : modD (.int a) (.int b) = if 0 < b then some (.int (a % b)) else none := rfl
theorem e_fdvI : fdvD (.int a) (.int b) = if 0 < b ∧ b < 1073741824 then some (.int (a / b)) else none := rfl
theorem e_powI : powD (.int a) (.int b) = if 0 ≤ b ∧ b ≤ 1000000 ∧ a.natAbs < 2 ^ 64 then some (.int (a ^ b.toNat)) else none := rfl
theorem e_ltI : ltD (.int a) (.int b) = some (.bl (decide (a < b))) := rfl
theorem e_leI : leD (.int a) (.int b) = some (.bl (decide (a ≤ b))) := rfl
theorem e_gtI : gtD (.int a) (.int b) = some (.bl (decide (b < a))) := rfl
theorem e_geI : geD (.int a) (.int b) = some (.bl (decide (b ≤ a))) := rfl
theorem e_ltS : ltD (.str x) (.str y) = some (.bl (decide (x.cps.toList < y.cps.toList))) := rfl
theorem e_gtS : gtD (.str x) (.str y) = some (.bl (decide (y.cps.toList < x.cps.toList))) := rfl
theorem e_isB : isD (.bl p) (.bl q) = some (.bl (decide (p = q))) := rfl
theorem e_int : intD S [.int a] = some (.int a) := rfl
theorem e_abs : absD S [.int a] = some (.int (if a < 0 then -a else a)) := rfl
theorem e_max : max2D S [.int a, .int b] = some (.int (if b > a then b else a)) := rfl
theorem e_min : min2D S [.int a, .int b] = some (.int (if b < a then b else a)) := rfl
theorem e_lenT : lenD S [.tup xs] = some (.int xs.length) := rfl
theorem e_lenL : lenD S [.lst xs] = some (.int xs.length) := rfl
theorem e_lenQ : lenD S [.seq xs] = some (.int xs.length) := rfl
theorem e_lenS : lenD S [.str x] = if x.length ≤ 1000000 then some (.int x.length) else none := rfl
theorem e_ixT : ixD S (.tup xs) (.int a) = atI xs a := rfl
theorem e_ixL : ixD S (.lst xs) (.int a) = atI xs a := rfl
theorem e_ixQ : ixD S (.seq xs) (.int a) = atI xs a := rfl
theorem e_ixS : ixD S (.str x) (.int a) = if x.length ≤ 1000000 then (atI x.cps.toList a).map fun c => .str ⟨#[c]⟩ else none := rfl
theorem e_slT {lo hi : Option Int} : slD S (.tup xs) lo hi = some (.tup (cut xs lo hi)) := rfl
theorem e_slL {lo hi : Option Int} : slD S (.lst xs) lo hi = some (.lst (cut xs lo hi)) := rfl
theorem e_slQ {lo hi : Option Int} : slD S (.seq xs) lo hi = some (.lst (cut xs lo hi)) := rfl
theorem e_listT : listD S [.tup xs] = some (.lst xs) := rfl
theorem e_listL : listD S [.lst xs] = some (.lst xs) := rfl
theorem e_isi {d : D} {n : String} : isD2 S [d, .ty n] = (isiD d n).map .bl := rfl
theorem e_eqI : eqD (.int a) (.int b) = some (.bl (decide (a = b))) := rfl
theorem e_eqS : eqD (.str x) (.str y) = some (.bl (decide (x = y))) := rfl
theorem e_neI : neD (.int a) (.int b) = some (.bl (!decide (a = b))) := rfl
theorem e_neS : neD (.str x) (.str y) = some (.bl (!decide (x = y))) := rfl
end
theorem itp {c A B : Prop} [Decidable c] (h : c) (a : A) : if c then A else B := by rw [if_pos h]; exact a
theorem itn {c A B : Prop} [Decidable c] (h : ¬ c) (b : B) : if c then A else B := by rw [if_neg h]; exact b
theorem it2 {c A B : Prop} [Decidable c] (a : c → A) (b : ¬ c → B) : if c then A else B := by
  by_cases h : c
  · exact itp h (a h)
  · exact itn h (b h)
theorem wp_of {α : Type} {o : Option α} {a : α} {R : α → Prop} (h : o = some a) (q : R a) : wp o R := ⟨a, h, q⟩
end M

namespace M
open PySem L2
/-! ### texts -/
def low (c : Nat) : Bool := decide (97 ≤ c) && decide (c ≤ 122)
def sgn (c : Nat) : Bool := decide (32 ≤ c) && decide (c ≤ 126)
theorem tab128 : ((List.range 128).all fun c => (Unicode.isPrintable c == sgn c) && (Unicode.isAlpha c == (low c || (decide (65 ≤ c) && decide (c ≤ 90)))) && (Unicode.isLower c == low c) && (Unicode.isUpper c == (decide (65 ≤ c) && decide (c ≤ 90))) && !Unicode.isTitle c) = true := by decide +kernel
theorem tab {c : Nat} (h : c < 128) : Unicode.isPrintable c = sgn c ∧ Unicode.isAlpha c = (low c || (decide (65 ≤ c) && decide (c ≤ 90))) ∧ Unicode.isLower c = low c ∧ Unicode.isUpper c = (decide (65 ≤ c) && decide (c ≤ 90)) ∧ Unicode.isTitle c = false := by
  have q := List.all_eq_true.mp tab128 c (List.mem_range.mpr h)
  simp only [Bool.and_eq_true, beq_iff_eq, Bool.not_eq_true'] at q
  exact ⟨q.1.1.1.1, q.1.1.1.2, q.1.1.2, q.1.2, q.2⟩
theorem arr_all {p : Nat → Bool} {x : Str} : x.cps.all p = x.cps.toList.all p := by rw [Array.all_toList]
theorem arr_any {p : Nat → Bool} {x : Str} : x.cps.any p = x.cps.toList.any p := by rw [Array.any_toList]
/-- is_text's two judgements together -/
theorem ascii_print (x : Str) : (Txt.isascii x && Txt.isprintable x) = x.cps.toList.all sgn := by
  unfold Txt.isascii Txt.isprintable
  rw [arr_all, arr_all]
  induction x.cps.toList with
  | nil => rfl
  | cons c l ih =>
    rw [List.all_cons, List.all_cons, List.all_cons, ← ih]
    by_cases h : c < 128
    · rw [(tab h).1]
      simp [h]
      cases sgn c <;> simp
    · have : sgn c = false := by unfold sgn; simp; omega
      simp [h, this]
theorem isascii_ok {x : Str} (h : x.cps.toList.all sgn = true) : Txt.isascii x = true ∧ Txt.isprintable x = true := by
  rw [← ascii_print] at h
  simpa using h
def nameB (x : Str) : Bool := decide (1 ≤ x.length) && decide (x.length ≤ 8) && x.cps.toList.all low
theorem low_sgn {l : List Nat} (h : l.all low = true) : l.all sgn = true := by
  rw [List.all_eq_true] at h ⊢
  intro c hc
  have := h c hc
  unfold low at this
  unfold sgn
  simp at this ⊢
  omega
/-- is_alpha and is_lower of a text of signs below 128 -/
theorem alpha_lower (x : Str) (h : x.cps.toList.all sgn = true) : (Txt.isalpha x && Txt.islower x) = (decide (1 ≤ x.length) && x.cps.toList.all low) := by
  unfold Txt.isalpha Txt.islower
  rw [arr_all, arr_any, arr_any]
  have hl : x.length = x.cps.toList.length := by simp [Str.length]
  rw [hl]
  generalize x.cps.toList = l at h
  have small : ∀ c ∈ l, c < 128 := fun c hc => by
    have := List.all_eq_true.mp h c hc
    unfold sgn at this
    simp at this
    omega
  rw [Bool.eq_iff_iff]
  simp only [Bool.and_eq_true, decide_eq_true_eq, List.all_eq_true, List.any_eq_true, Bool.not_eq_true', List.any_eq_false, Bool.or_eq_true, not_or]
  constructor
  · rintro ⟨⟨h1, h2⟩, ⟨c, hc, h3⟩, h4⟩
    refine ⟨by omega, fun d hd => ?_⟩
    have t := tab (small d hd)
    have a := h2 d hd
    have b := h4 d hd
    rw [t.2.1] at a
    rw [t.2.2.2.1] at b
    cases e : low d with
    | true => rfl
    | false =>
      rw [e] at a
      simp at a b
      omega
  · rintro ⟨h1, h2⟩
    refine ⟨⟨by omega, fun d hd => ?_⟩, ?_, fun d hd => ?_⟩
    · rw [(tab (small d hd)).2.1, h2 d hd]; rfl
    · match l, h1 with
      | c :: l, _ => exact ⟨c, List.mem_cons_self, by rw [(tab (small c List.mem_cons_self)).2.2.1]; exact h2 c List.mem_cons_self⟩
    · have t := tab (small d hd)
      have a := h2 d hd
      unfold low at a
      simp at a
      rw [t.2.2.2.1, t.2.2.2.2]
      simp
      omega
theorem lt_space (c : Nat) : (decide ((⟨#[c]⟩ : Str).cps.toList < (" " : Str).cps.toList)) = decide (c < 32) := by
  have : (" " : Str).cps.toList = [32] := by decide +kernel
  rw [this]
  simp [List.cons_lt_cons_iff]
theorem gt_tilde (c : Nat) : (decide (("~" : Str).cps.toList < (⟨#[c]⟩ : Str).cps.toList)) = decide (126 < c) := by
  have : ("~" : Str).cps.toList = [126] := by decide +kernel
  rw [this]
  simp [List.cons_lt_cons_iff]
theorem lt_space' (c : Nat) : ([c] < (" " : Str).cps.toList) = (c < 32) := by
  have : (" " : Str).cps.toList = [32] := by decide +kernel
  rw [this]
  simp [List.cons_lt_cons_iff]
theorem gt_tilde' (c : Nat) : (("~" : Str).cps.toList < [c]) = (126 < c) := by
  have : ("~" : Str).cps.toList = [126] := by decide +kernel
  rw [this]
  simp [List.cons_lt_cons_iff]
theorem in_letters (c : Nat) : decide ((⟨#[c]⟩ : Str).cps.getD 0 0 ∈ ("abcdefghijklmnopqrstuvwxyz" : Str).cps.toList) = low c := by
  have : ("abcdefghijklmnopqrstuvwxyz" : Str).cps.toList = List.range' 97 26 := by decide +kernel
  rw [this]
  unfold low
  rw [Bool.eq_iff_iff]
  simp [List.mem_range'_1]
  omega
end M

namespace M
open PySem L2
/-! ### plain data and its measure -/
def szKey : Key → Nat
  | .inl _ => 0
  | .inr s => s.length
mutual
def szD : D → Nat
  | .str x => x.length
  | .lst ds => szA ds
  | .tup ds => szA ds
  | .dct kvs => szK kvs
  | _ => 0
def szA : List D → Nat
  | [] => 0
  | d :: ds => szD d + 1 + szA ds
def szK : List (Key × D) → Nat
  | [] => 0
  | (k, d) :: r => szKey k + szD d + 2 + szK r
end
mutual
def dpD : D → Nat
  | .lst ds => dpA ds + 1
  | .tup ds => dpA ds + 1
  | .dct kvs => dpK kvs + 1
  | _ => 0
def dpA : List D → Nat
  | [] => 0
  | d :: ds => max (dpD d) (dpA ds)
def dpK : List (Key × D) → Nat
  | [] => 0
  | (_, d) :: r => max (max 0 (dpD d)) (dpK r)
end
def okS (x : Str) : Bool := x.cps.toList.all fun c => decide (c < 1114112)
def okKey : Key → Bool
  | .inl i => decide (i.natAbs < 10 ^ 40)
  | .inr s => okS s
mutual
def okD : D → Bool
  | .non => true
  | .bl _ => true
  | .int i => decide (i.natAbs < 10 ^ 40)
  | .str x => okS x && decide (x.length ≤ 100000)
  | .lst ds => okA ds
  | .tup ds => okA ds
  | .dct kvs => okK kvs
  | _ => false
def okA : List D → Bool
  | [] => true
  | d :: ds => okD d && okA ds
def okK : List (Key × D) → Bool
  | [] => true
  | (k, d) :: r => okKey k && okD d && okK r
end
theorem int_small {i : Int} (h : i.natAbs < 10 ^ 40) : (PyData.shown (.int i)).length ≤ 50 ∧ i.natAbs.log2 < 1920 := by
  constructor
  · have e := int_text_length_le10 (k := 40) (by decide) h
    show (Str.ofString (toString i)).length ≤ 50
    rw [ofString_length]
    omega
  · have : i.natAbs < 2 ^ 1920 := Nat.lt_of_lt_of_le h (by decide)
    by_cases z : i.natAbs = 0
    · rw [z]; decide
    · exact (Nat.log2_lt z).mpr this
theorem str_small {x : Str} (h : okS x = true) : (x.cps.toList.all fun c => decide (c < 16 ^ 8)) = true := by
  unfold okS at h
  rw [List.all_eq_true] at h ⊢
  intro c hc
  have := h c hc
  simp at this ⊢
  omega
mutual
theorem ok_toQ : ∀ d : D, okD d = true → ∃ p, toQ d = some p ∧ p.showable = true ∧ p.leavesShort 50 = true ∧ p.depth = dpD d ∧ p.bulk = szD d
  | .non, _ => ⟨.none, by rw [toQ], by rw [PyData.showable], by rw [PyData.leavesShort], by rw [PyData.depth, dpD] <;> simp, by rw [PyData.bulk, szD] <;> simp⟩
  | .bl b, _ => ⟨.bool b, by rw [toQ], by rw [PyData.showable], by rw [PyData.leavesShort], by rw [PyData.depth, dpD] <;> simp, by rw [PyData.bulk, szD] <;> simp⟩
  | .int i, h => by
    rw [okD] at h
    obtain ⟨h1, h2⟩ := int_small (of_decide_eq_true h)
    exact ⟨.int i, by rw [toQ], by rw [PyData.showable]; exact decide_eq_true h2, by rw [PyData.leavesShort]; exact decide_eq_true h1, by rw [PyData.depth, dpD] <;> simp, by rw [PyData.bulk, szD] <;> simp⟩
  | .str x, h => by
    rw [okD, Bool.and_eq_true] at h
    exact ⟨.str x, by rw [toQ], by rw [PyData.showable], by rw [PyData.leavesShort]; exact str_small h.1, by rw [PyData.depth, dpD] <;> simp, by rw [PyData.bulk, szD]; rfl⟩
  | .lst ds, h => by
    rw [okD] at h
    obtain ⟨ps, h1, h2, h3, h4, h5⟩ := ok_toQA ds h
    exact ⟨.list ps, by rw [toQ, h1]; rfl, by rw [PyData.showable]; exact h2, by rw [PyData.leavesShort]; exact h3, by rw [PyData.depth, dpD, h4], by rw [PyData.bulk, szD, h5]⟩
  | .tup ds, h => by
    rw [okD] at h
    obtain ⟨ps, h1, h2, h3, h4, h5⟩ := ok_toQA ds h
    exact ⟨.tuple ps, by rw [toQ, h1]; rfl, by rw [PyData.showable]; exact h2, by rw [PyData.leavesShort]; exact h3, by rw [PyData.depth, dpD, h4], by rw [PyData.bulk, szD, h5]⟩
  | .dct ds, h => by
    rw [okD] at h
    obtain ⟨ps, h1, h2, h3, h4, h5⟩ := ok_toQK ds h
    exact ⟨.dict ps, by rw [toQ, h1]; rfl, by rw [PyData.showable]; exact h2, by rw [PyData.leavesShort]; exact h3, by rw [PyData.depth, dpD, h4], by rw [PyData.bulk, szD, h5]⟩
  | .ref _, h => by simp [okD] at h
  | .fn _, h => by simp [okD] at h
  | .ty _, h => by simp [okD] at h
  | .seq _, h => by simp [okD] at h
theorem ok_toQA : ∀ ds : List D, okA ds = true → ∃ ps, toQA ds = some ps ∧ PyData.showableAll ps = true ∧ PyData.leavesShortAll 50 ps = true ∧ PyData.depthAll ps = dpA ds ∧ PyData.bulkAll ps = szA ds
  | [], _ => ⟨[], by rw [toQA], by rw [PyData.showableAll], by rw [PyData.leavesShortAll], by rw [PyData.depthAll, dpA], by rw [PyData.bulkAll, szA]⟩
  | d :: ds, h => by
    rw [okA, Bool.and_eq_true] at h
    obtain ⟨p, a1, a2, a3, a4, a5⟩ := ok_toQ d h.1
    obtain ⟨ps, b1, b2, b3, b4, b5⟩ := ok_toQA ds h.2
    exact ⟨p :: ps, by rw [toQA, a1, b1]; rfl, by rw [PyData.showableAll, a2, b2]; rfl, by rw [PyData.leavesShortAll, a3, b3]; rfl, by rw [PyData.depthAll, dpA, a4, b4], by rw [PyData.bulkAll, szA, a5, b5]⟩
theorem ok_toQK : ∀ ds : List (Key × D), okK ds = true → ∃ ps, toQK ds = some ps ∧ PyData.showableKv ps = true ∧ PyData.leavesShortKv 50 ps = true ∧ PyData.depthKv ps = dpK ds ∧ PyData.bulkKv ps = szK ds
  | [], _ => ⟨[], by rw [toQK], by rw [PyData.showableKv], by rw [PyData.leavesShortKv], by rw [PyData.depthKv, dpK], by rw [PyData.bulkKv, szK]⟩
  | (k, d) :: ds, h => by
    rw [okK, Bool.and_eq_true, Bool.and_eq_true] at h
    obtain ⟨p, a1, a2, a3, a4, a5⟩ := ok_toQ d h.1.2
    obtain ⟨ps, b1, b2, b3, b4, b5⟩ := ok_toQK ds h.2
    have hk : (keyQ k).showable = true ∧ (keyQ k).leavesShort 50 = true ∧ (keyQ k).depth = 0 ∧ (keyQ k).bulk = szKey k := by
      cases k with
      | inl i =>
        obtain ⟨h1, h2⟩ := int_small (of_decide_eq_true h.1.1)
        exact ⟨by rw [keyQ, PyData.showable]; exact decide_eq_true h2, by rw [keyQ, PyData.leavesShort]; exact decide_eq_true h1, by rw [keyQ, PyData.depth] <;> simp, by rw [keyQ, PyData.bulk, szKey] <;> simp⟩
      | inr s => exact ⟨by rw [keyQ, PyData.showable], by rw [keyQ, PyData.leavesShort]; exact str_small h.1.1, by rw [keyQ, PyData.depth] <;> simp, by rw [keyQ, PyData.bulk, szKey]; rfl⟩
    obtain ⟨k1, k2, k3, k4⟩ := hk
    exact ⟨(keyQ k, p) :: ps, by rw [toQK, a1, b1]; rfl, by rw [PyData.showableKv, k1, a2, b2]; rfl, by rw [PyData.leavesShortKv, k2, a3, b3]; rfl, by rw [PyData.depthKv, dpK, k3, a4, b4], by rw [PyData.bulkKv, szK, k4, a5, b5]⟩
end
/-- small plain data: at most so deep, so large -/
def Sm (d : D) (dp n : Nat) : Prop := okD d = true ∧ dpD d ≤ dp ∧ szD d ≤ n
def SmA (ds : List D) (dp n : Nat) : Prop := okA ds = true ∧ dpA ds ≤ dp ∧ szA ds ≤ n
theorem Sm.mono {d : D} {p q n m : Nat} (h : Sm d p n) (a : p ≤ q) (b : n ≤ m) : Sm d q m := ⟨h.1, Nat.le_trans h.2.1 a, Nat.le_trans h.2.2 b⟩
theorem e_repr {S : Sto} {d : D} (h : Sm d 60 100000) : ∃ x, reprD S [d] = some (.str x) := by
  obtain ⟨p, a1, a2, a3, a4, a5⟩ := ok_toQ d h.1
  refine ⟨p.shown, ?_⟩
  have : fitB p = true := by
    unfold fitB
    rw [a2, a3, a4, a5, decide_eq_true h.2.1, decide_eq_true h.2.2]
    rfl
  show (toQ d).bind _ = _
  rw [a1]
  show (if fitB p = true then _ else _) = _
  rw [if_pos this]
theorem okA_app : ∀ {xs ys : List D}, okA (xs ++ ys) = (okA xs && okA ys)
  | [], ys => by rw [List.nil_append, okA]; rfl
  | x :: xs, ys => by rw [List.cons_append, okA, okA, okA_app, Bool.and_assoc]
theorem szA_app : ∀ {xs ys : List D}, szA (xs ++ ys) = szA xs + szA ys
  | [], ys => by rw [List.nil_append, szA]; omega
  | x :: xs, ys => by rw [List.cons_append, szA, szA, szA_app]; omega
theorem dpA_app : ∀ {xs ys : List D}, dpA (xs ++ ys) = max (dpA xs) (dpA ys)
  | [], ys => by rw [List.nil_append, dpA]; omega
  | x :: xs, ys => by rw [List.cons_append, dpA, dpA, dpA_app]; omega
theorem SmA.app {xs ys : List D} {p q n m : Nat} (a : SmA xs p n) (b : SmA ys q m) : SmA (xs ++ ys) (max p q) (n + m) := by
  have := a.2; have := b.2
  exact ⟨by rw [okA_app, a.1, b.1]; rfl, by rw [dpA_app]; omega, by rw [szA_app]; omega⟩
theorem SmA.take {xs : List D} {p n : Nat} (k : Nat) (h : SmA xs p n) : SmA (xs.take k) p n := by
  have e := List.take_append_drop k xs
  have h1 := h.1; have h2 := h.2
  rw [← e] at h1 h2
  rw [okA_app, Bool.and_eq_true] at h1
  rw [dpA_app, szA_app] at h2
  exact ⟨h1.1, by omega, by omega⟩
theorem SmA.drop {xs : List D} {p n : Nat} (k : Nat) (h : SmA xs p n) : SmA (xs.drop k) p n := by
  have e := List.take_append_drop k xs
  have h1 := h.1; have h2 := h.2
  rw [← e] at h1 h2
  rw [okA_app, Bool.and_eq_true] at h1
  rw [dpA_app, szA_app] at h2
  exact ⟨h1.2, by omega, by omega⟩
theorem SmA.cut {xs : List D} {p n : Nat} {lo hi : Option Int} (h : SmA xs p n) : SmA (cut xs lo hi) p n := (h.drop _).take _
theorem SmA.one {d : D} {p n : Nat} (h : Sm d p n) : SmA [d] p (n + 1) := by
  have := h.2
  exact ⟨by rw [okA, h.1, okA]; rfl, by rw [dpA, dpA]; omega, by rw [szA, szA]; omega⟩
theorem SmA.tup {ds : List D} {p n : Nat} (h : SmA ds p n) : Sm (.tup ds) (p + 1) n := ⟨by rw [okD]; exact h.1, by rw [dpD]; have := h.2.1; omega, by rw [szD]; exact h.2.2⟩
theorem SmA.lst {ds : List D} {p n : Nat} (h : SmA ds p n) : Sm (.lst ds) (p + 1) n := ⟨by rw [okD]; exact h.1, by rw [dpD]; have := h.2.1; omega, by rw [szD]; exact h.2.2⟩
theorem Sm.tupA {ds : List D} {p n : Nat} (h : Sm (.tup ds) (p + 1) n) : SmA ds p n := by
  obtain ⟨h1, h2, h3⟩ := h
  rw [okD] at h1; rw [dpD] at h2; rw [szD] at h3
  exact ⟨h1, by omega, h3⟩
theorem Sm.dct1 {d : D} {p n : Nat} {s : Str} (h : Sm d p n) (hs : okS s = true) : Sm (.dct [(.inr s, d)]) (p + 1) (n + s.length + 2) := by
  have := h.2
  exact ⟨by rw [okD, okK, okK, h.1, okKey, hs]; rfl, by rw [dpD, dpK, dpK]; omega, by rw [szD, szK, szK, szKey]; omega⟩
theorem okA_get : ∀ {xs : List D} {i : Nat} {d : D}, okA xs = true → xs[i]? = some d → okD d = true
  | [], _, _, _, e => by simp at e
  | x :: xs, 0, _, h, e => by
    rw [okA, Bool.and_eq_true] at h
    simp at e; subst e; exact h.1
  | x :: xs, i + 1, _, h, e => by
    rw [okA, Bool.and_eq_true] at h
    exact okA_get h.2 (by simpa using e)
theorem SmA.cons {d : D} {ds : List D} {p n m : Nat} (a : Sm d p n) (b : SmA ds p m) : SmA (d :: ds) p (n + 1 + m) := by
  have := a.2; have := b.2
  exact ⟨by rw [okA, a.1, b.1]; rfl, by rw [dpA]; omega, by rw [szA]; omega⟩
theorem SmA.nil {p n : Nat} : SmA [] p n := ⟨by rw [okA], by rw [dpA]; omega, by rw [szA]; omega⟩
theorem SmA.mono {ds : List D} {p q n m : Nat} (h : SmA ds p n) (a : p ≤ q) (b : n ≤ m) : SmA ds q m := ⟨h.1, Nat.le_trans h.2.1 a, Nat.le_trans h.2.2 b⟩
end M

namespace M
open PySem PySem.Spec L2 W2 RZ
section
variable {X : Cx} {pos p : Pos} {e : Expr} {f : EvF} {kvs : Kvs} {x : Str}
theorem ix_kd {d : Addr} {es : Array DictEntry} {n : Nat} (D : KDict X.K X.w d es n) : IxR X (fun x y H Q => ∃ (z : Str) (u0 : Value) (v0 : V), x = .ref d ∧ y = .str z ∧ PySem.W.nsIn X.K d z = some (some u0) ∧ RelV v0 u0 ∧ Q v0 H) := by
  intro value slice pins s σ H x y v u Q I rx ry h hs
  obtain ⟨z, u0, v0, rfl, rfl, e, r, q⟩ := h
  cases rx
  obtain ⟨t, rfl⟩ := ry
  have hm := PySem.W.mapOf_K (prog := X.prog) I.kIn D.at_ D.lit
  exact PyProof.Rows.tail_any hm.typeIs slot_dict_getitem.lookup (wpAny_getItem_of (PySem.strKind_is X.prog X.w z t) hm (PySem.W.find_K D.at_ e) ⟨v0, H, I.tok _, r, q⟩) hs
theorem me_ixKd (T : Tab X.w X.K X.mg x kvs) (hg : Gl X x) (he : ME X e f) (hs : PlainIx e) (hd : (x == ("__debug__" : Str)) = false := by decide) : ME X (.Subscript (.Name x p) e pos) (mU (ixKd kvs) f) := by
  obtain ⟨a, es, n, hmg, kd, ht⟩ := T.ex
  refine pe_imp (pe_ix (ix_kd kd) (pe_glob (v := .ref a) hg hmg rfl hd) he hs) ?_
  rintro σ H Q ⟨c, ρ, d, S', ⟨rfl, k, en⟩, q, p⟩
  obtain ⟨⟨y, S1⟩, h1, q⟩ := bd q
  obtain ⟨z, h2, q⟩ := mp q
  cases q
  refine ⟨c, ρ, y, S1, .of k en, h1, fun v c1 l1 k1 e1 D1 => ?_⟩
  cases y <;> try (cases h2)
  rename_i w q0
  cases D1
  obtain ⟨r', g1, g2⟩ := ht w
  have h2' : lkD kvs w = some d := h2
  rw [h2'] at g2
  obtain ⟨u, v0, rfl, g3, g4⟩ := g2
  exact ⟨w, u, v0, rfl, rfl, g1, g3, p _ c1 l1 k1 e1 (g4 c1)⟩
/-- a tuple of the top -/
theorem den_ktup {K : PySem.W.Frag} {mg : Str → Option Value} {c : Cfg} {a : Addr} {od : Option Addr} {n : Nat} {sl : Array (Option Value)} {us : List Value} {xs : List V} {ds : List D} (hk : K.lookup a = some ⟨.type "tuple", od, .seq us.toArray n, sl⟩) (hz : us.length ≤ 1000)
    (h : Vals xs us) (hd : DenA K mg c xs ds) : Den K mg c (.ref a) (.tup ds) :=
  .tup (xs := xs) (.inr (.inr ⟨_, us.toArray, n, hk, rfl, rfl, by rw [List.size_toArray, sizeLine_eq]; omega, by rw [List.toList_toArray]; exact h⟩)) hd

/-! ### a dict is no text -/
theorem str_eq_declines_dict (b : Str) (u : Tok) (l : Addr) (c : Value) (es : Array DictEntry) (n : Nat) (dd : Option Addr) (sl : Array (Option Value)) :
    Meets (Builtin.«str.__eq__» ⟨[.str b u, .ref l], []⟩) (fun _ R s => s.heap.get? l = some { cls := c, dict := dd, data := .dict es n, slots := sl } ∧ R (.ok (.ret .notImplemented)) s) :=
  .of_wp fun prog w A R s h => by obtain ⟨hp, g, d, tk, os⟩ := s; obtain ⟨hl, h⟩ := h; wp_walk using wpAny_load hl; exact ⟨_, rfl, h⟩
theorem rc_dict_str {A : Around} {s : Shared} {a : Addr} {es : Array DictEntry} {n : Nat} {b : Str} {u : Tok} {dd : Option Addr} {sl : Array (Option Value)} (h : s.heap.get? a = some { cls := .type "dict", dict := dd, data := .dict es n, slots := sl }) (hu : A.units < cLine)
    (prog : Program) (w : World) (E : Value → Shared → Prop) (Q : Value → Shared → Prop) (q : Q (.bool false) s) : wpAny (model prog w) A (richCompare .Eq (.ref a) (.str b u)) Q E s := by
  have ty : s.TypeIs (.ref a) "dict" := ⟨_, h, rfl⟩
  refine PySem.SeqAt.rc_eq_decline_or (k := false) ty (typeIs_str s b u) (by decide) PySem.F.sub_str_dict PySem.F.slot_dict_eq PySem.F.slot_str_eq_refl ?_
    (fun _ hq => call_meets PySem.F.slot_str_eq_refl (typeIs_str s b u) PySem.F.entry_str_eq (PySem.F.args_str_eq_2 _ _) (str_eq_declines_dict b u a (.type "dict") es n dd sl) ⟨h, hq⟩)
    (fun _ hq => wpAny_of_eq (rfl : isSame (.ref a) (.str b u) = pure false) hq) (.inr hu) q
  intro Q q
  refine wpAny_call_entry PySem.F.slot_dict_eq ty PySem.F.entry_dict_eq ?_ (PySem.F.args_dict_eq_2 _ _)
  show wpAny _ _ (Builtin.Dict.dictSlotArgs "__eq__" ⟨[.ref a, .str b u], []⟩ >>= _) _ _ s
  refine wpAny_bind ?_
  unfold Builtin.Dict.dictSlotArgs
  refine wpAny_bind (wpAny_notOrdered_dict ty ?_)
  show wpAny _ _ (pure (Value.ref a, Value.str b u)) _ _ s
  refine wpAny_pure ?_
  refine wpAny_bind (wpAny_isInstance (T := "str") (typeIs_str s b u) PySem.F.sub_str_dict ?_)
  simp only [Bool.not_false, if_true]
  refine wpAny_bind (wpAny_rule ?_)
  exact wpAny_pure ⟨_, rfl, q⟩
/-- == with a text on the right -/
def eqE : D → D → Option D := fun a b => match b with
  | .str y => (match a with
    | .str x => some (.bl (decide (x = y)))
    | .non => some (.bl false)
    | .bl _ => some (.bl false)
    | .int _ => some (.bl false)
    | .lst _ => some (.bl false)
    | .tup _ => some (.bl false)
    | .dct _ => some (.bl false)
    | _ => none)
  | _ => eqD a b
theorem od_eqE (hr : Rg X.A) : OpD X (compareOp .Eq) eqE := by
  rintro pins s σ H x y v u Q I rx ry ⟨c, a, b, z, rfl, k, Da, Db, e, P⟩
  have hu := hr.units
  unfold eqE at e
  split at e
  · rename_i y
    split at e
    · exact od_eq hr pins s σ _ _ _ v u Q I rx ry ⟨c, _, _, z, rfl, k, Da, Db, e, P⟩
    · cases e; cases Db; cases Da
      exact op_eq pins s σ _ _ _ v u Q I rx ry ⟨rfl, P.here k (.bl _)⟩
    · cases e; cases Db; cases Da
      exact op_eq pins s σ _ _ _ v u Q I rx ry ⟨rfl, P.here k (.bl _)⟩
    · cases e; cases Db; cases Da
      exact op_eq pins s σ _ _ _ v u Q I rx ry ⟨rfl, P.here k (.bl _)⟩
    · cases e; cases Db
      cases Da with
      | lst s1 t1 =>
        cases rx
        obtain ⟨t, rfl⟩ := ry
        obtain ⟨its, rv, hl, _⟩ := I.list s1.get
        exact PySem.SeqAt.RcAt.list_str _ _ hl.isList (by omega) _ _ _ _ ⟨.bl false, c.H, I, rfl, P.here k (.bl _)⟩
    · cases e; cases Db
      cases Da with
      | tup s1 t1 =>
        cases rx
        obtain ⟨t, rfl⟩ := ry
        obtain ⟨its, rv, hl, _⟩ := I.tuple s1.get
        exact PySem.SeqAt.RcAt.tuple_str _ _ hl (by omega) _ _ _ _ ⟨.bl false, c.H, I, rfl, P.here k (.bl _)⟩
    · cases e; cases Db
      cases Da with
      | dct n s1 t1 =>
        cases rx
        obtain ⟨t, rfl⟩ := ry
        obtain ⟨_, hm, vs, kv, o, es, ep, ho, hx, hd, hes⟩ := dk_of I.hok s1
        obtain ⟨oc, od, dt, sl⟩ := o
        have h1 : oc = .type "dict" := hx.1
        have h2 : dt = .dict es ep := hd
        subst h1 h2
        exact rc_dict_str ho (by omega) _ _ _ _ ⟨.bl false, c.H, I, rfl, P.here k (.bl _)⟩
    · cases e
  · exact od_eq hr pins s σ _ _ _ v u Q I rx ry ⟨c, _, _, z, rfl, k, Da, Db, e, P⟩
def strB (d : D) (x : Str) : Bool := match d with
  | .str y => decide (y = x)
  | _ => false
theorem e_eqE {d : D} {x : Str} (h : okD d = true) : eqE d (.str x) = some (.bl (strB d x)) := by
  cases d <;> first | rfl | (exfalso; simp [okD] at h; done)
end
end M

namespace M
open PySem PySem.Spec L2 W2 RZ
/-- no fuel is left -/
def fn0 : Fn := fun _ _ => none
theorem cal_none {P : Program} {w : World} {K : PySem.W.Frag} {mg : Str → Option Value} {base : Heap} {x : Str} {st : Stmt} {f : Addr} {fd : FuncData} {ps : List Str} {k np : Nat} (Z : Fun K x x st f fd) (m : mg x = some (.ref f)) (b : Binds K fd ps [])
    (hl : ps.length = np) : Cal P w K mg base k x np fn0 := by
  subst hl
  exact ⟨⟨f, fd, ps, m, Z.kp, b, ⟨fun vs H Q E h => h.1, fun A o s H ar us vs Q E hr he hb hv h => by
    obtain ⟨_, c, ds, d, S', _, _, _, e, _⟩ := h
    cases e⟩, rfl⟩⟩
theorem mu_def {op : D → Option D} {f : EvF} {ρ : En} {S : Sto} : mU op f ρ S = (f ρ S).bind fun x => (op x.1).map fun z => (z, x.2) := rfl
end M

namespace M
open PySem PySem.Spec L2 W2 RZ
/-- a list against an empty one -/
def eqNil : D → D → Option D
  | .lst xs, .lst [] => some (.bl xs.isEmpty)
  | _, _ => none
def neNil (a b : D) : Option D := match eqNil a b with
  | some (.bl x) => some (.bl (!x))
  | _ => none
section
variable {X : Cx}
theorem od_eqNil (hr : Rg X.A) : OpD X (compareOp .Eq) eqNil := by
  rintro pins s σ H x y v u Q I rx ry ⟨c, a, b, z, rfl, k, Da, Db, e, P⟩
  have hu := hr.units
  unfold eqNil at e
  split at e
  · rename_i xs
    cases xs with
    | nil =>
      cases e
      refine od_eq hr pins s σ _ _ _ v u Q I rx ry ⟨c, .lst [], .lst [], _, rfl, k, Da, Db, ?_, P⟩
      have h : SeqAt.shaped (.list []) = true := by decide +kernel
      show eqD0 (.lst []) (.lst []) = _
      unfold eqD0
      rw [toP, toPA]
      show (if SeqAt.shaped (.list []) = true ∧ SeqAt.shaped (.list []) = true then some (D.bl (PyData.eqv (.list []) (.list []))) else none) = _
      rw [if_pos ⟨h, h⟩, PyData.eqv, PyData.eqvAll]
      rfl
    | cons d ds =>
      cases e
      cases Da with
      | lst s1 t1 =>
        cases Db with
        | lst s2 t2 =>
          cases rx
          cases ry
          obtain ⟨its, rv, hl, _⟩ := I.list s1.get
          obtain ⟨its2, rv2, hl2, _⟩ := I.list s2.get
          have l1 := rv.length; have l2 := rv2.length; have l3 := t1.length; have l4 := t2.length
          refine PySem.SeqAt.eq_list_lengthsAt hl.isList hl2.isList ?_ (by omega) ⟨.bl false, c.H, I, rfl, P.here k (.bl _)⟩
          simp only [List.size_toArray, bne_iff_ne, ne_eq]
          simp only [List.length_cons, List.length_nil] at l3 l4
          omega
  · cases e
end
end M

namespace M
open PySem PySem.Spec L2 W2 RZ

/-! ### while, with so much fuel -/
def whl (t : EtF) (g : StF) : Nat → StF
  | 0, _, _ => none
  | n + 1, ρ, S => (t ρ S).bind fun b => if b.1 = true then (g ρ b.2).bind fun x => match x.1 with
      | .nx ρ' => whl t g n ρ' x.2
      | .ct ρ' => whl t g n ρ' x.2
      | .bk ρ' => some (.nx ρ', x.2)
      | .rt d => some (.rt d, x.2)
    else some (.nx ρ, b.2)
def mWhile (n : Nat) (t : EtF) (g : StF) : StF := whl t g n
section
variable {X : Cx} {st : Stmt} {t : EtF} {g : StF}
theorem ms_while (n : Nat) (h : PS X st (tWhile (tT X.K X.mg t) (tS X.K X.mg g))) : MS X st (mWhile n t g) := ps_imp h <| by
  rintro Dd σ H ⟨c, ρ, o, S', ⟨rfl, k, en⟩, q, p⟩
  refine ⟨fun m σ H => ∃ c2 ρ2, At X.K X.mg c2 ρ2 σ H ∧ Le c c2 ∧ whl t g m ρ2 c2.S = some (o, S'), ⟨n, c, ρ, ⟨rfl, k, en⟩, .refl c, q⟩, ?_⟩
  rintro m σ1 H1 ⟨c1, ρ1, ⟨rfl, k1, en1⟩, l1, q1⟩
  cases m with
  | zero => cases q1
  | succ m =>
    obtain ⟨⟨b, S1⟩, h1, q2⟩ := bd q1
    refine ⟨c1, ρ1, b, S1, .of k1 en1, h1, fun c2 l2 k2 e2 => ?_⟩
    cases b with
    | false =>
      cases q2
      exact p c2 (l1.trans l2) k2 e2 _ (en1.mono l2)
    | true =>
      obtain ⟨⟨x, S3⟩, h3, q3⟩ := bd (show (g ρ1 S1).bind _ = some (o, S') from q2)
      refine ⟨fun σ4 H4 => ∃ c2 ρ2, At X.K X.mg c2 ρ2 σ4 H4 ∧ Le c c2 ∧ whl t g m ρ2 c2.S = some (o, S'), fun σ4 H4 z => ⟨m, Nat.lt_succ_self m, z⟩, ?_⟩
      refine ⟨c2, ρ1, x, S3, .of k2 (en1.mono l2), by rw [e2]; exact h3, fun c3 l3 k3 e3 => ?_⟩
      cases x with
      | nx ρ' => exact fun σ4 en4 => ⟨c3, ρ', .of k3 en4, (l1.trans l2).trans l3, by rw [e3]; exact q3⟩
      | ct ρ' => exact fun σ4 en4 => ⟨c3, ρ', .of k3 en4, (l1.trans l2).trans l3, by rw [e3]; exact q3⟩
      | bk ρ' =>
        cases q3
        exact p c3 ((l1.trans l2).trans l3) k3 e3
      | rt d =>
        cases q3
        exact p c3 ((l1.trans l2).trans l3) k3 e3
end

/-! ### lists of the store -/
def stLst (S : Sto) (j : Nat) : Option (List D) := match S[j]? with
  | some (.lst xs) => some xs
  | _ => none
theorem stLst_eq {S : Sto} {j : Nat} {xs : List D} (h : stLst S j = some xs) : S[j]? = some (.lst xs) := by
  unfold stLst at h
  split at h
  · cases h; assumption
  · cases h
/-- x.append(e) -/
def mApp (f g : EvF) : EvF := fun ρ S => (f ρ S).bind fun x => match x.1 with
  | .ref j => (stLst x.2 j).bind fun _ => (g ρ x.2).bind fun y => (stLst y.2 j).bind fun xs => if xs.length < 100000 then some (.non, y.2.set j (.lst (xs ++ [y.1]))) else none
  | _ => none
def mExt (f g : EvF) : EvF := fun ρ S => (f ρ S).bind fun x => match x.1 with
  | .ref j => (stLst x.2 j).bind fun _ => (g ρ x.2).bind fun y => match y.1 with
    | .lst zs => (stLst y.2 j).bind fun xs => if xs.length + zs.length < 100000 then some (.non, y.2.set j (.lst (xs ++ zs))) else none
    | _ => none
  | _ => none
def mPop (f : EvF) : EvF := fun ρ S => (f ρ S).bind fun x => match x.1 with
  | .ref j => (stLst x.2 j).bind fun xs => (xs[xs.length - 1]?).map fun d => (d, x.2.set j (.lst xs.dropLast))
  | _ => none
theorem DenA.dropLast {K : PySem.W.Frag} {mg : Str → Option Value} {c : Cfg} {ds : List D} {vs : List V} (h : DenA K mg c vs ds) : DenA K mg c vs.dropLast ds.dropLast := by
  rw [List.dropLast_eq_take, List.dropLast_eq_take, h.length]
  exact h.take _
theorem post_put {K : PySem.W.Frag} {mg : Str → Option Value} {c : Cfg} {j : Nat} {vs : List V} {ds : List D} {d : D} {v : V} {Q : VK} (P : Post K mg c (c.S.set j (.lst ds)) d Q) (k : Ok K mg c) (hj : j < c.S.length) (h : DenA K mg c vs ds) (q : Den K mg c v d) : Q v (upd c.H (c.π j) (.lst vs)) :=
  P v (c.put j (.lst vs) (.lst ds)) (put_le hj) (put_ok k hj ⟨_, upd_same, h.mono (put_le hj)⟩) rfl (q.mono (put_le hj))
section
variable {X : Cx} {e : Expr} {f g : EvF}
theorem ty_lst {K : PySem.W.Frag} {H : Hp} {a : Addr} {xs : List V} (h : H a = some (.lst xs)) : tyV K "list" (.ref a) H := .inl ⟨rfl, xs, .inl (.inl h)⟩
theorem one_arg {g : EvF} {ρ : En} {S : Sto} {y : D × Sto} (h : g ρ S = some y) : mCons g mNil ρ S = some ([y.1], y.2) := by
  unfold mCons mNil
  rw [h]
  rfl
theorem ty_ref {K : PySem.W.Frag} {mg : Str → Option Value} {c : Cfg} {j : Nat} {xs : List D} (k : Ok K mg c) (h : stLst c.S j = some xs) : tyV K "list" (.ref (c.π j)) c.H := by
  obtain ⟨vs, hv, _⟩ := k.at_ _ _ (stLst_eq h)
  exact ty_lst hv
theorem me_app (h : PE X e (tBM X.K "list" rAppend (tM X.K X.mg f) (tAs X.K X.mg (mCons g mNil)))) : ME X e (mApp f g) := pe_imp h <| by
  rintro σ H Q ⟨c, ρ, d, S', ⟨rfl, k, en⟩, q, p⟩
  obtain ⟨⟨x, S1⟩, h1, q2⟩ := bd q
  clear q
  refine ⟨c, ρ, x, S1, .of k en, h1, fun v c1 l1 k1 e1 D1 => ?_⟩
  cases x <;> try (cases q2)
  rename_i j
  obtain ⟨ys, h0, q2⟩ := bd (show (stLst S1 j).bind _ = some (d, S') from q2)
  obtain ⟨⟨y, S2⟩, h2, q2⟩ := bd q2
  obtain ⟨xs, h3, q3⟩ := bd q2
  by_cases z : xs.length < 100000
  · rw [if_pos z] at q3
    cases q3
    cases D1 with
    | ref hj =>
      refine ⟨ty_ref k1 (by rw [e1]; exact h0), c1, ρ, _, _, .of k1 (en.mono l1), by rw [e1]; exact one_arg h2, fun vs c2 l2 k2 e2 D2 => ?_⟩
      cases D2 with
      | cons a b =>
        cases b
        subst e2
        have hj2 : j < c2.S.length := lt_of_get (stLst_eq h3)
        obtain ⟨ws, hw, dw⟩ := k2.at_ _ _ (stLst_eq h3)
        refine ⟨_, ws, _, rfl, rfl, by rw [← l2.pi j hj]; exact hw, by rw [dw.length, sizeLine_eq]; omega, ?_⟩
        rw [← l2.pi j hj]
        exact post_put (p.mono (l1.trans l2)) k2 hj2 (dw.app (.cons a .nil)) .non
  · rw [if_neg z] at q3; cases q3
theorem me_pop (h : PE X e (tBM0 X.K "list" rPop (tM X.K X.mg f))) : ME X e (mPop f) := pe_imp h <| by
  rintro σ H Q ⟨c, ρ, d, S', ⟨rfl, k, en⟩, q, p⟩
  obtain ⟨⟨x, S1⟩, h1, q2⟩ := bd q
  clear q
  refine ⟨c, ρ, x, S1, .of k en, h1, fun v c1 l1 k1 e1 D1 => ?_⟩
  cases x <;> try (cases q2)
  rename_i j
  obtain ⟨xs, h0, q2⟩ := bd (show (stLst S1 j).bind _ = some (d, S') from q2)
  obtain ⟨y, h2, q2⟩ := mp q2
  cases q2
  cases D1 with
  | ref hj =>
    subst e1
    obtain ⟨ws, hw, dw⟩ := k1.at_ _ _ (stLst_eq h0)
    obtain ⟨u, hu, du⟩ := dw.get h2
    exact ⟨ty_ref k1 h0, _, ws, u, rfl, rfl, hw, by rw [dw.length]; exact hu, post_put (p.mono l1) k1 hj dw.dropLast du⟩
/-- list.extend by a list that is read -/
def rExtR : V → List V → Hp → VK → Prop := fun x vs H Q => ∃ l b xs zs, x = .ref l ∧ vs = [.ref b] ∧ H l = some (.lst xs) ∧ Rd H b (.lst zs) ∧ xs.length + zs.length ≤ sizeLine ∧ Q .non (upd H l (.lst (xs ++ zs)))
theorem mt_extR : MtM X "list.extend" rExtR := by
  intro pins s σ H x vs v us Q I rx rv h
  obtain ⟨l, b, xs, zs, rfl, rfl, hH, hB, hz, q⟩ := h
  cases rx
  obtain ⟨u, rfl, ru⟩ := rv.one
  cases ru
  obtain ⟨z, its, n, r, hl, e⟩ := I.lstM hH
  obtain ⟨z2, its2, n2, r2, e2⟩ := hB.ok I.hok
  have hl2 := r2.length
  have hsz : its.toArray.size + its2.toArray.size ≤ sizeLine := by rw [List.size_toArray, List.size_toArray]; omega
  have hlong : ¬ (!its.toArray.isEmpty && Builtin.List.listTooLong (its.toArray.size + its2.toArray.size)) = true := by
    rw [notLongL hsz, Bool.and_false]
    exact Bool.false_ne_true
  refine call_meets F.slot_list_extend ⟨_, e, rfl⟩ F.entry_list_extend (F.args_list_extend_2 _ _)
    (AutoSeq1.list_extend_list_list_0 l its.toArray n b its2.toArray n2 hlong (by rw [List.size_toArray]; omega) (by omega)) ⟨e, e2, ?_⟩
  refine ⟨.non, _, I.lset (its' := its ++ its2) hH e (by simp) (r.append r2) ?_, rfl, q⟩
  rw [List.length_append]
  omega
theorem me_ext (h : PE X e (tBM X.K "list" rExtR (tM X.K X.mg f) (tAs X.K X.mg (mCons g mNil)))) : ME X e (mExt f g) := pe_imp h <| by
  rintro σ H Q ⟨c, ρ, d, S', ⟨rfl, k, en⟩, q, p⟩
  obtain ⟨⟨x, S1⟩, h1, q2⟩ := bd q
  clear q
  refine ⟨c, ρ, x, S1, .of k en, h1, fun v c1 l1 k1 e1 D1 => ?_⟩
  cases x <;> try (cases q2)
  rename_i j
  obtain ⟨ys, h0, q2⟩ := bd (show (stLst S1 j).bind _ = some (d, S') from q2)
  obtain ⟨⟨y, S2⟩, h2, q2⟩ := bd q2
  cases y <;> try (cases q2)
  rename_i zs
  obtain ⟨xs, h3, q3⟩ := bd (show (stLst S2 j).bind _ = some (d, S') from q2)
  by_cases z : xs.length + zs.length < 100000
  · rw [if_pos z] at q3
    cases q3
    cases D1 with
    | ref hj =>
      refine ⟨ty_ref k1 (by rw [e1]; exact h0), c1, ρ, _, _, .of k1 (en.mono l1), by rw [e1]; exact one_arg h2, fun vs c2 l2 k2 e2 D2 => ?_⟩
      cases D2 with
      | cons a b =>
        cases b
        cases a with
        | lst s1 t1 =>
          subst e2
          have hj2 : j < c2.S.length := lt_of_get (stLst_eq h3)
          obtain ⟨ws, hw, dw⟩ := k2.at_ _ _ (stLst_eq h3)
          refine ⟨_, _, ws, _, rfl, rfl, by rw [← l2.pi j hj]; exact hw, s1.2, by rw [dw.length, t1.length, sizeLine_eq]; omega, ?_⟩
          rw [← l2.pi j hj]
          exact post_put (p.mono (l1.trans l2)) k2 hj2 (dw.app t1) .non
  · rw [if_neg z] at q3; cases q3
end

/-! ### a fresh list that will change; a list's truth; tuple of such a list -/
/-- list(x), a new thing of the store -/
def mNewC (op : CbF) (fa : EaF) : EvF := fun ρ S => (fa ρ S).bind fun x => (op x.2 x.1).bind fun z => match z with
  | .lst ds => some (.ref x.2.length, x.2 ++ [.lst ds])
  | _ => none
section
variable {X : Cx} {e : Expr} {f g : EvF} {fa : EaF}
theorem listD_inv {S : Sto} {ds zs : List D} (h : listD S ds = some (.lst zs)) : ds = [.lst zs] ∨ ds = [.tup zs] ∨ ds = [.seq zs] := by
  unfold listD at h
  split at h
  · cases h; exact .inl rfl
  · cases h; exact .inr (.inl rfl)
  · cases h; exact .inr (.inr rfl)
  · cases h
theorem me_listN (h : PE X e (tCB (fun xs H Q => ∃ a zs, xs = [.ref a] ∧ (SqL X.K H a zs ∨ SqT X.K H a zs) ∧ ∀ p, H p = none → Q (.ref p) (upd H p (.lst zs))) (tAs X.K X.mg fa))) : ME X e (mNewC listD fa) := pe_imp h <| by
  rintro σ H Q ⟨c, ρ, d, S', ⟨rfl, k, en⟩, q, p⟩
  obtain ⟨⟨ds, S1⟩, h1, q1⟩ := bd q
  obtain ⟨z, h2, q2⟩ := bd q1
  clear q q1
  obtain ⟨zs, rfl⟩ : ∃ zs, z = .lst zs := by
    cases z <;> first | exact ⟨_, rfl⟩ | cases q2
  cases q2
  refine ⟨c, ρ, ds, S1, .of k en, h1, fun vs c1 l1 k1 e1 D1 => ?_⟩
  subst e1
  have go : ∀ {ws : List V} {b : Addr}, DenA X.K X.mg c1 ws zs → (SqL X.K c1.H b ws ∨ SqT X.K c1.H b ws) → ∃ a us, [V.ref b] = [.ref a] ∧ (SqL X.K c1.H a us ∨ SqT X.K c1.H a us) ∧ ∀ p, c1.H p = none → Q (.ref p) (upd c1.H p (.lst us)) :=
    fun t s => ⟨_, _, rfl, s, fun a ha => post_new (ob := .lst _) (p.mono l1) k1 ha (upd_keep ha) ⟨_, upd_same, t.mono (new_le ha (upd_keep ha))⟩⟩
  rcases listD_inv h2 with rfl | rfl | rfl
  · obtain ⟨v, rfl, q1⟩ := da1 D1
    cases q1 with
    | lst s1 t1 => exact go t1 (.inl s1.get)
  · obtain ⟨v, rfl, q1⟩ := da1 D1
    cases q1 with
    | tup s1 t1 => exact go t1 (.inr s1.get)
  · obtain ⟨v, rfl, q1⟩ := da1 D1
    cases q1 with
    | seq s1 t1 => exact go t1 (.inl s1.get)
/-- the truth of a list, a tuple, a text, None -/
def truD (S : Sto) : D → Option Bool
  | .bl b => some b
  | .non => some false
  | .lst ds => some (!ds.isEmpty)
  | .tup ds => some (!ds.isEmpty)
  | .str x => if x.length ≤ 1000000 then some ((x.length : Int) != 0) else none
  | .int i => some (i != 0)
  | .ref j => (stLst S j).map fun xs => !xs.isEmpty
  | _ => none
def mTr (f : EvF) : EtF := fun ρ S => (f ρ S).bind fun x => (truD x.2 x.1).map fun b => (b, x.2)
theorem mt_tru (h : ME X e f) (he : ∀ whole, isTrue e X.env whole = (do let v ← whole; standAt e.pos; holding [v] (truthy v)) := by intro _; rfl) : MT X e (mTr f) := pt_imp (pt_truth h he) <| by
  rintro σ H Q ⟨c, ρ, d, S', ⟨rfl, k, en⟩, q, p⟩
  obtain ⟨⟨x, S1⟩, h1, q1⟩ := bd q
  obtain ⟨b, h2, q2⟩ := mp q1
  clear q q1
  obtain ⟨rfl, rfl⟩ : d = b ∧ S' = S1 := by cases q2; exact ⟨rfl, rfl⟩
  clear q2
  refine ⟨c, ρ, x, S', .of k en, h1, fun v c1 l1 k1 e1 D1 => ⟨d, ?_, p c1 l1 k1 e1⟩⟩
  cases x <;> try (cases h2)
  · cases D1; rfl
  · cases D1; rfl
  · cases D1; rfl
  · rename_i x
    have h2' : (if x.length ≤ 1000000 then some ((x.length : Int) != 0) else none) = some d := h2
    by_cases z : x.length ≤ 1000000
    · rw [if_pos z] at h2'
      cases h2'
      cases D1
      exact ⟨Nat.le_trans z (by decide), rfl⟩
    · rw [if_neg z] at h2'; cases h2'
  · cases D1 with
    | lst s t => exact .inl ⟨_, s.get, by have := t.length; cases t <;> rfl⟩
  · cases D1 with
    | tup s t => exact .inr (.inl ⟨_, s.get, by cases t <;> rfl⟩)
  · rename_i j
    cases D1 with
    | ref hj =>
      subst e1
      obtain ⟨xs, h3, h4⟩ := mp (show (stLst c1.S j).map _ = some d from h2)
      obtain ⟨ws, hw, dw⟩ := k1.at_ _ _ (stLst_eq h3)
      subst h4
      exact .inl ⟨ws, .inl (.inl hw), by cases dw <;> rfl⟩
/-- tuple(x), x a list of the store too -/
def tupR : CbF := fun S ds => match ds with
  | [.ref j] => (stLst S j).map .tup
  | ds => tupD S ds
theorem cd_tupR : CallD X (.type "tuple") tupR := by
  rintro pins s σ H xs us Q I r ⟨c, ds, z, rfl, k, D1, e, P⟩
  unfold tupR at e
  split at e
  · obtain ⟨v, rfl, q⟩ := da1 D1
    obtain ⟨zs, h1, rfl⟩ := mp e
    cases q with
    | ref hj =>
      obtain ⟨ws, hw, dw⟩ := k.at_ _ _ (stLst_eq h1)
      exact call_tuple_of pins s σ _ _ us Q I r ⟨_, _, rfl, .inl ⟨.inl (.inl hw), post_tup P k dw⟩⟩
  · exact cd_tup pins s σ _ _ us Q I r ⟨c, _, z, rfl, k, D1, e, P⟩
end
end M

namespace M
open PySem PySem.Spec L2 W2 RZ

/-! ### methods of texts -/
/-- one text in, a text out -/
def mS1 (g : Str → Str → Str) (f h : EvF) : EvF := fun ρ S => (f ρ S).bind fun x => match x.1 with
  | .str a => (h ρ x.2).bind fun y => match y.1 with
    | .str b => if a.length ≤ 1000000 then some (.str (g a b), y.2) else none
    | _ => none
  | _ => none
abbrev rS1 (g : Str → Str → Str) : V → List V → Hp → VK → Prop := fun x xs H Q => ∃ a b, x = .str a ∧ xs = [.str b] ∧ a.length ≤ sizeLine ∧ Q (.str (g a b)) H
section
variable {X : Cx} {e : Expr} {f h : EvF}
theorem me_s1 {g : Str → Str → Str} (he : PE X e (tBM X.K "str" (rS1 g) (tM X.K X.mg f) (tAs X.K X.mg (mCons h mNil)))) : ME X e (mS1 g f h) := pe_imp he <| by
  rintro σ H Q ⟨c, ρ, d, S', ⟨rfl, k, en⟩, q, p⟩
  obtain ⟨⟨x, S1⟩, h1, q2⟩ := bd q
  clear q
  refine ⟨c, ρ, x, S1, .of k en, h1, fun v c1 l1 k1 e1 D1 => ?_⟩
  cases x <;> try (cases q2)
  rename_i a
  obtain ⟨⟨y, S2⟩, h2, q2⟩ := bd (show (h ρ S1).bind _ = some (d, S') from q2)
  cases y <;> try (cases q2)
  rename_i b
  have q3 : (if a.length ≤ 1000000 then some (D.str (g a b), S2) else none) = some (d, S') := q2
  by_cases z : a.length ≤ 1000000
  · rw [if_pos z] at q3
    cases q3
    cases D1
    refine ⟨rfl, c1, ρ, _, _, .of k1 (en.mono l1), by rw [e1]; exact one_arg h2, fun vs c2 l2 k2 e2 D2 => ?_⟩
    obtain ⟨w, rfl, dw⟩ := da1 D2
    cases dw
    exact ⟨a, b, rfl, rfl, Nat.le_trans z (by decide), p _ c2 (l1.trans l2) k2 e2 (.str _)⟩
  · rw [if_neg z] at q3; cases q3
def strD : CbF := fun _ ds => match ds with
  | [.int i] => if i.natAbs.log2 < 1920 then some (.str (Str.ofString (toString i))) else none
  | _ => none
theorem cd_str : CallD X (.type "str") strD := by
  rintro pins s σ H xs us Q I r ⟨c, ds, z, rfl, k, D1, e, P⟩
  unfold strD at e
  split at e
  · rename_i i
    split at e
    · rename_i hl
      obtain ⟨v, rfl, q⟩ := da1 D1
      cases q
      cases e
      exact call_str_int pins s σ _ _ us Q I r ⟨i, rfl, hl, P.here k (.str _)⟩
    · cases e
  · cases e
/-- int of a text -/
def intS : CbF := fun _ ds => match ds with
  | [.str a] => if a.length ≤ 640 then (PySem.intText? a).map .int else none
  | _ => none
theorem cd_intS : CallD X (.type "int") intS := by
  rintro pins s σ H xs us Q I r ⟨c, ds, z, rfl, k, D1, e, P⟩
  unfold intS at e
  split at e
  · rename_i a
    split at e
    · rename_i hl
      obtain ⟨v, rfl, q⟩ := da1 D1
      cases q
      obtain ⟨n, h1, rfl⟩ := mp e
      exact call_int_str pins s σ _ _ us Q I r ⟨a, n, rfl, h1, hl, P.here k (.int _)⟩
    · cases e
  · cases e
end

/-! ### replace: a token must be out -/
abbrev MET (X : Cx) (e : Expr) (f : EvF) : Prop := PET X e (tM X.K X.mg f)
abbrev MAT (X : Cx) (es : List Expr) (f : EaF) : Prop := PAT X es (tAs X.K X.mg f)
abbrev MSsT (X : Cx) (st : List Stmt) (g : StF) : Prop := PSsT X st (tS X.K X.mg g)
def mRepl (y z : Str) (f : EvF) : EvF := fun ρ S => (f ρ S).bind fun x => match x.1 with
  | .str a => if a.length + (a.length + 1) * z.length ≤ 16777216 then some (.str (Txt.replace a y z), x.2) else none
  | _ => none
section
variable {X : Cx} {e : Expr} {f h : EvF} {y z : Str} {j k : Nat} {c0 c1 apos pos : Pos}
theorem repl_go {σ : L2.St} {H : Hp} {Q : VK} (q : tM X.K X.mg (mRepl y z f) σ H Q) : CwR.tReplC (tM X.K X.mg f) y z σ H Q := by
  obtain ⟨c, ρ, d, S', ⟨rfl, k, en⟩, q, p⟩ := q
  obtain ⟨⟨x, S1⟩, h1, q2⟩ := bd q
  clear q
  refine ⟨c, ρ, x, S1, .of k en, h1, fun v c1 l1 k1 e1 D1 => ?_⟩
  cases x <;> try (cases q2)
  rename_i a
  have q3 : (if a.length + (a.length + 1) * z.length ≤ 16777216 then some (D.str (Txt.replace a y z), S1) else none) = some (d, S') := q2
  by_cases w : a.length + (a.length + 1) * z.length ≤ 16777216
  · rw [if_pos w] at q3
    cases q3
    cases D1
    exact ⟨a, rfl, w, p _ c1 l1 k1 e1 (.str _)⟩
  · rw [if_neg w] at q3; cases q3
theorem met_imp {t t' : TE} (h : PET X e t) (w : ∀ σ H Q, t' σ H Q → t σ H Q) : PET X e t' := fun pins s σ H Q h0 I q => h pins s σ H Q h0 I (w σ H Q q)
theorem met_repl (ho : MET X e f) (hyz : (y == z) = false := by decide)
    (hst : starEach [.Constant (.str y) j c0, .Constant (.str z) k c1] X.env = [(false, eval (.Constant (.str y) j c0) X.env), (false, eval (.Constant (.str z) k c1) X.env)] := by rfl)
    (hbase : attributeBase e "replace" X.env (eval e X.env) = eval e X.env := by rfl) (hline : (apos.endLine == pos.line) = true := by rfl) :
    MET X (.Call (.Attribute e "replace" apos) [.Constant (.str y) j c0, .Constant (.str z) k c1] [] pos) (mRepl y z f) := met_imp (CwR.pet_replT ho hyz hst hbase hline) fun _ _ _ => repl_go
theorem met_of (h : ME X e f) : MET X e f := CwR.PET.of h
/-- "x" + e -/
theorem me_binC {q : Str} {e : Expr} (h : MET X e f) : ME X (.BinOp (.Constant (.str q) j c0) .Add e pos) (mBin addD (mC (.str q)) f) := by
  refine pe_imp (t := tOp (r2 X.K X.mg addD) (tM X.K X.mg (mC (.str q))) (tM X.K X.mg f)) ⟨fun pins s σ H Q I hq => ?_⟩ fun _ _ _ => op_go
  refine wpAny_BinOp (wpAny_mono (PySem.wpAny_toks (?c : wpAny (model X.prog X.w) X.A (eval (.Constant (.str q) j c0) X.env) (fun v s' => s.toks + 1 ≤ s'.toks ∧ EP X pins σ (fun x H1 => (tM X.K X.mg f) σ H1 fun y H2 => (r2 X.K X.mg addD) x y H2 Q) v s') X.xe s)) (fun v s1 q => ?_) fun _ _ z => z.2)
  case c =>
    obtain ⟨c, ρ, d, S', ⟨rfl, k, en⟩, q2, p⟩ := hq
    cases q2
    exact Calls.Constant_str ⟨Nat.le_refl _, .str q, c.H, I.tok _, ⟨_, rfl⟩, p.here k (.str q)⟩
  · obtain ⟨_, hk, x, H1, I1, r1, q1⟩ := q
    exact thn (h pins s1 σ H1 _ (by omega) I1 q1) fun u s2 ⟨y, H2, I2, r2, q2⟩ => od_add pins s2 σ H2 x y v u Q I2 r1 r2 q2
theorem mat_nil : MAT X [] mNil := fun pos pins s σ H Q _ I h => (ma_nil (X := X)).run pos pins s σ H Q I h
theorem mat_cons {es : List Expr} {fa : EaF} (ha : MET X e f) (hr : MAT X es fa) (hs : starEach (e :: es) X.env = (false, eval e X.env) :: starEach es X.env := by rfl) : MAT X (e :: es) (mCons f fa) := by
  have a := pat_cons ha hr hs
  intro pos pins s σ H Q h0 I h
  refine a pos pins s σ H Q h0 I ?_
  obtain ⟨c, ρ, d, S', ⟨rfl, k, en⟩, q, p⟩ := h
  obtain ⟨⟨x, S1⟩, h1, q⟩ := bd q
  obtain ⟨y, h2, q⟩ := mp q
  cases q
  refine ⟨c, ρ, x, S1, .of k en, h1, fun v c1 l1 k1 e1 D1 => ?_⟩
  refine ⟨c1, ρ, y.1, y.2, .of k1 (en.mono l1), by rw [e1]; exact h2, fun vs c2 l2 k2 e2 D2 => ?_⟩
  exact p _ c2 (l1.trans l2) k2 e2 (.cons (D1.mono l2) D2)
theorem met_lst {es : List Expr} {fa : EaF} (h : MAT X es fa) : MET X (.List es pos) (mLst fa) := met_imp (pet_lst h) <| by
  rintro σ H Q ⟨c, ρ, d, S', ⟨rfl, k, en⟩, q, p⟩
  obtain ⟨⟨x, S1⟩, h1, q⟩ := bd q
  by_cases z : x.length ≤ 100000
  · rw [if_pos z] at q
    cases q
    refine ⟨c, ρ, x, S1, .of k en, h1, fun vs c1 l1 k1 e1 D1 => ⟨by rw [D1.length]; exact sz5 z, ?_⟩⟩
    exact post_lst (by rw [e1]; exact p.mono l1) k1 D1
  · rw [if_neg z] at q
    cases q
theorem msst_ret (h : MET X e f) : MSsT X [.Return (some e) pos] (mRet f) := by
  have a := CwR.psst_one (CwR.pst_ret h (pos := pos))
  intro pins s σ H D h0 I hq
  refine a pins s σ H D h0 I ?_
  obtain ⟨c, ρ, o, S', ⟨rfl, k, en⟩, q, p⟩ := hq
  obtain ⟨x, h1, q⟩ := mp q
  cases q
  exact ⟨c, ρ, x.1, x.2, .of k en, h1, fun v c1 l1 k1 e1 D1 => p c1 l1 k1 e1 v D1⟩
/-- if e == "x": a token is out in both ways -/
theorem ms_ifC {a : Expr} {fa : EvF} {g h : StF} {op : D → D → Option D} {o : CmpOp} {q : Str} {cp cpos ipos : Pos} {body orelse : List Stmt} (ho : OpD X (compareOp o) op) (ha : ME X a fa) (hm : behindInMarks o (.Constant (.str q) j cp) = false) (hb : MSsT X body g) (he : MSs X orelse h) :
    MS X (.If (.Compare a [o] [.Constant (.str q) j cp] cpos) body orelse ipos) (mIfS (mTv (mBin op fa (mC (.str q)))) g h) := by
  constructor
  rintro pins s σ H D I ⟨c, ρ, ou, S', ⟨rfl, k, en⟩, hq, p⟩
  obtain ⟨⟨b, S1⟩, h1, hq⟩ := bd hq
  obtain ⟨⟨w, S2⟩, h2, h3⟩ := bd h1
  obtain ⟨x, g1, g2⟩ := bd h2
  obtain ⟨y, g3, g4⟩ := bd g2
  obtain ⟨z, g5, g6⟩ := mp g4
  cases g3
  cases g6
  have h3' : w = .bl b ∧ x.2 = S1 := by
    cases w <;> try (cases h3)
    exact ⟨rfl, rfl⟩
  obtain ⟨rfl, rfl⟩ := h3'
  refine wpAny_If (wpAny_isTrue_Compare1 (thn (ha.run pins s σ c.H (fun v H1 => ∃ c1, c1.H = H1 ∧ Le c c1 ∧ Ok X.K X.mg c1 ∧ c1.S = x.2 ∧ Den X.K X.mg c1 v x.1) I ⟨c, ρ, x.1, x.2, .of k en, g1, fun v c1 l1 k1 e1 D1 => ⟨c1, rfl, l1, k1, e1, D1⟩⟩) fun v s1 hx => ?_) hm)
  obtain ⟨xv, H1, I1, r1, c1, rfl, l1, k1, e1, D1⟩ := hx
  refine Calls.Constant_str (wpAny_mono (PySem.wpAny_toks (ho pins { s1 with toks := s1.toks + 1 } σ c1.H xv (.str q) v (.str q s1.toks) (fun v H2 => ∃ c2, c2.H = H2 ∧ Le c1 c2 ∧ Ok X.K X.mg c2 ∧ c2.S = x.2 ∧ v = .bl b) (I1.tok _) r1 ⟨_, rfl⟩ ⟨c1, x.1, .str q, .bl b, rfl, k1, D1, .str q, g5, fun v c2 l2 k2 e2 D2 => ⟨c2, rfl, l2, k2, e2.trans e1, by cases D2; rfl⟩⟩)) (fun u s2 hz => ?_) fun _ _ z => z.2)
  obtain ⟨hk, _, H2, I2, r2, c2, rfl, l2, k2, e2, rfl⟩ := hz
  cases r2
  have hk' : 1 ≤ s2.toks := by
    have : s1.toks + 1 ≤ s2.toks := hk
    omega
  refine wpAny_truthy_bool ?_
  cases b with
  | true => exact hb pins s2 σ c2.H D hk' I2 ⟨c2, ρ, ou, S', .of k2 (en.mono (l1.trans l2)), by rw [e2]; exact hq, fun c3 l3 => p c3 ((l1.trans l2).trans l3)⟩
  | false => exact he.run pins s2 σ c2.H D I2 ⟨c2, ρ, ou, S', .of k2 (en.mono (l1.trans l2)), by rw [e2]; exact hq, fun c3 l3 => p c3 ((l1.trans l2).trans l3)⟩
end
end M

namespace M
open PySem PySem.Spec L2 W2 RZ

/-! ### x in a list, a tuple -/
def memD (ds : List D) : D → Option Bool
  | .str x => (strsOf ds).map fun ys => decide (x ∈ ys)
  | .int i => (intsOf ds).map fun ns => decide (i ∈ ns)
  | _ => none
def seqOf : D → Option (List D)
  | .lst ds => some ds
  | .tup ds => some ds
  | _ => none
def inQ (a b : D) : Option D := (seqOf b).bind fun ds => (memD ds a).map .bl
def ninQ (a b : D) : Option D := (seqOf b).bind fun ds => (memD ds a).map fun x => .bl (!x)
theorem inV_str {x : Str} : ∀ ys : List Str, inV (.str x) (ys.map V.str) = decide (x ∈ ys)
  | [] => rfl
  | y :: ys => by
    have ih := inV_str (x := x) ys
    show (eqV (.str y) (.str x) || inV (.str x) (ys.map V.str)) = _
    rw [ih]
    by_cases h : x = y
    · subst h; simp [eqV]
    · have : (y == x) = false := by simpa using fun e => h e.symm
      simp [eqV, this, h]
theorem inV_int {x : Int} : ∀ ys : List Int, inV (.int x) (ys.map V.int) = decide (x ∈ ys)
  | [] => rfl
  | y :: ys => by
    have ih := inV_int (x := x) ys
    show (eqV (.int y) (.int x) || inV (.int x) (ys.map V.int)) = _
    rw [ih]
    by_cases h : x = y
    · subst h; simp [eqV]
    · have : (y == x) = false := by simpa using fun e => h e.symm
      simp [eqV, this, h]
theorem flat_str (ys : List Str) : (ys.map V.str).all flatV = true := by
  rw [List.all_eq_true]; intro v hv; obtain ⟨y, _, rfl⟩ := List.mem_map.mp hv; rfl
theorem flat_int (ys : List Int) : (ys.map V.int).all flatV = true := by
  rw [List.all_eq_true]; intro v hv; obtain ⟨y, _, rfl⟩ := List.mem_map.mp hv; rfl
theorem mem_go {K : PySem.W.Frag} {mg : Str → Option Value} {c : Cfg} {x : V} {a : D} {vs : List V} {ds : List D} {b : Bool} (Da : Den K mg c x a) (t : DenA K mg c vs ds) (e : memD ds a = some b) : flatV x = true ∧ vs.all flatV = true ∧ inV x vs = b := by
  cases a <;> try (cases e)
  · obtain ⟨ns, h1, rfl⟩ := mp (show (intsOf ds).map _ = some b from e)
    cases Da
    rw [den_ints t h1]
    exact ⟨rfl, flat_int ns, inV_int ns⟩
  · obtain ⟨ns, h1, rfl⟩ := mp (show (strsOf ds).map _ = some b from e)
    cases Da
    rw [den_strs t h1]
    exact ⟨rfl, flat_str ns, inV_str ns⟩
section
variable {X : Cx}
theorem seq_go {K : PySem.W.Frag} {mg : Str → Option Value} {c : Cfg} {y : V} {b : D} {ds : List D} (Db : Den K mg c y b) (h : seqOf b = some ds) : ∃ p vs, y = .ref p ∧ (SqL K c.H p vs ∨ SqT K c.H p vs) ∧ DenA K mg c vs ds := by
  cases b <;> try (cases h)
  · cases Db with
    | lst s t => exact ⟨_, _, rfl, .inl s.get, t⟩
  · cases Db with
    | tup s t => exact ⟨_, _, rfl, .inr s.get, t⟩
theorem od_inQ : OpD X (compareOp .In) inQ := by
  rintro pins s σ H x y v u Q I rx ry ⟨c, a, b, z, rfl, k, Da, Db, e, P⟩
  obtain ⟨ds, h1, e⟩ := bd e
  obtain ⟨r, h2, rfl⟩ := mp e
  obtain ⟨p, vs, rfl, hs, t⟩ := seq_go Db h1
  obtain ⟨f1, f2, f3⟩ := mem_go Da t h2
  exact op_in_seq pins s σ _ _ _ v u Q I rx ry ⟨p, vs, rfl, hs, f1, f2, by rw [if_neg (by decide), f3]; exact P.here k (.bl _)⟩
theorem od_ninQ : OpD X (compareOp .NotIn) ninQ := by
  rintro pins s σ H x y v u Q I rx ry ⟨c, a, b, z, rfl, k, Da, Db, e, P⟩
  obtain ⟨ds, h1, e⟩ := bd e
  obtain ⟨r, h2, rfl⟩ := mp e
  obtain ⟨p, vs, rfl, hs, t⟩ := seq_go Db h1
  obtain ⟨f1, f2, f3⟩ := mem_go Da t h2
  exact op_notIn_seq pins s σ _ _ _ v u Q I rx ry ⟨p, vs, rfl, hs, f1, f2, by rw [if_pos rfl, f3]; exact P.here k (.bl _)⟩
end

/-! ### a list as a target -/
def gL (is : List Nat) : TgF := fun ρ d => match d with
  | .lst ds => setAll is ds ρ
  | _ => none
theorem mg_lst {X : Cx} {pos : Pos} {es : List Expr} {n : Nat} {is : List Nat} (hl : PG X (.Tuple es n pos) (gLst X.K is.length (gsA is))) : MG X (.Tuple es n pos) (gL is) := pg_imp hl <| by
  rintro v σ H Q ⟨c, ρ, d, ρ', ⟨rfl, k, en⟩, D1, q, p⟩
  cases d <;> try (cases q)
  cases D1 with
  | lst s t =>
    have q' : setAll is _ ρ = some ρ' := q
    have l := setAll_len q'
    exact ⟨_, _, rfl, s.get, t.length.trans l, t.length.trans l, p _ (setAll_en en t q')⟩
/-- a + b of lists, a new thing of the store -/
def mAddN (f g : EvF) : EvF := fun ρ S => (f ρ S).bind fun x => (g ρ x.2).bind fun y => match x.1, y.1 with
  | .lst a, .lst b => if a.length + b.length ≤ 100000 then some (.ref y.2.length, y.2 ++ [.lst (a ++ b)]) else none
  | _, _ => none
theorem me_addN {X : Cx} {a b : Expr} {f g : EvF} {pos : Pos} (ha : ME X a f) (hb : ME X b g) : ME X (.BinOp a .Add b pos) (mAddN f g) := by
  have ho : OpR X (binaryOp .Add) (fun x y H Q => ∃ (p q : Addr) (xs ys : List V), x = .ref p ∧ y = .ref q ∧ Rd H p (.lst xs) ∧ Rd H q (.lst ys) ∧ xs.length + ys.length ≤ sizeLine ∧ ∀ a, H a = none → Q (.ref a) (upd H a (.lst (xs ++ ys)))) := by
    rintro pins s σ H x y v u Q I rx ry ⟨p, q, xs, ys, rfl, rfl, h1, h2, hz, P⟩
    obtain ⟨z1, its, n, r, g1⟩ := h1.ok I.hok
    obtain ⟨z2, its2, n2, r2, g2⟩ := h2.ok I.hok
    cases rx
    cases ry
    have q1 := r.length
    have q2 := r2.length
    refine PySem.P.add_list g1 g2 ?_ (by rw [List.size_toArray, List.size_toArray]; omega)
    rw [show its.toArray ++ its2.toArray = (its ++ its2).toArray by simp]
    exact ⟨.ref _, _, I.lnew (t' := s.toks) (r.append r2) (by rw [List.length_append]; omega), rfl, P _ I.fresh⟩
  refine pe_imp (pe_op ho ha hb) ?_
  rintro σ H Q ⟨c, ρ, d, S', ⟨rfl, k, en⟩, q, p⟩
  obtain ⟨⟨x, S1⟩, h1, q1⟩ := bd q
  obtain ⟨⟨y, S2⟩, h2, q2⟩ := bd q1
  clear q q1
  refine ⟨c, ρ, x, S1, .of k en, h1, fun v c1 l1 k1 e1 D1 => ⟨c1, ρ, y, S2, .of k1 (en.mono l1), by rw [e1]; exact h2, fun w c2 l2 k2 e2 D2 => ?_⟩⟩
  cases x <;> try (cases q2)
  cases y <;> try (cases q2)
  rename_i xs ys
  have q3 : (if xs.length + ys.length ≤ 100000 then some (D.ref S2.length, S2 ++ [Ob.lst (xs ++ ys)]) else none) = some (d, S') := q2
  by_cases z : xs.length + ys.length ≤ 100000
  · rw [if_pos z] at q3
    cases q3
    subst e2
    cases D1.mono l2 with
    | lst s1 t1 =>
      cases D2 with
      | lst s2 t2 =>
        exact ⟨_, _, _, _, rfl, rfl, s1.2, s2.2, by rw [t1.length, t2.length]; exact sz5 z, fun a ha => post_new (ob := .lst _) (p.mono (l1.trans l2)) k2 ha (upd_keep ha) ⟨_, upd_same, (t1.app t2).mono (new_le ha (upd_keep ha))⟩⟩
  · rw [if_neg z] at q3; cases q3

/-! ### dicts with keys that are ints and texts -/
section
variable {α : Type}
def gv (kvs : List (Key × α)) (k : Key) : Option α := (kvs.find? fun kv => decide (kv.1 = k)).map (·.2)
def gput (kvs : List (Key × α)) (k : Key) (v : α) : List (Key × α) :=
  if (kvs.any fun kv => decide (kv.1 = k)) = true then kvs.map (fun kv => if kv.1 = k then (kv.1, v) else kv) else kvs ++ [(k, v)]
def gmerge (kvs more : List (Key × α)) : List (Key × α) := more.foldl (fun acc kv => gput acc kv.1 kv.2) kvs
end
def keyOf : D → Option Key
  | .int i => some (.inl i)
  | .str x => some (.inr x)
  | _ => none
def dctOf (S : Sto) : D → Option (List (Key × D))
  | .dct kvs => some kvs
  | .ref j => match S[j]? with
    | some (.dct kvs) => some kvs
    | _ => none
  | _ => none
section
variable {K : PySem.W.Frag} {mg : Str → Option Value} {c : Cfg}
theorem den_gv {k : Key} : ∀ {ds : List (Key × D)} {vs : List (Key × V)}, DenK K mg c vs ds → match gv ds k with
    | some d => ∃ v, valV vs k = some v ∧ Den K mg c v d
    | none => valV vs k = none
  | [], _, h => by cases h; rfl
  | (j, d) :: ds, _, h => by
    cases h with
    | @cons _ v vs _ _ a b =>
      have ih := den_gv (k := k) b
      by_cases e : j = k
      · have h1 : gv ((j, d) :: ds) k = some d := by simp [gv, List.find?_cons, e]
        have h2 : valV ((j, v) :: vs) k = some v := by simp [valV, List.find?_cons, e]
        rw [h1]
        exact ⟨v, h2, a⟩
      · have h1 : gv ((j, d) :: ds) k = gv ds k := by simp [gv, List.find?_cons, e]
        have h2 : valV ((j, v) :: vs) k = valV vs k := by simp [valV, List.find?_cons, e]
        rw [h1, h2]
        exact ih
theorem denK_app : ∀ {ds es : List (Key × D)} {vs ws : List (Key × V)}, DenK K mg c vs ds → DenK K mg c ws es → DenK K mg c (vs ++ ws) (ds ++ es)
  | [], _, _, _, h, q => by cases h; exact q
  | _ :: _, _, _, _, h, q => by
    cases h with
    | cons a b => exact .cons a (denK_app b q)
theorem denK_any {k : Key} : ∀ {ds : List (Key × D)} {vs : List (Key × V)}, DenK K mg c vs ds → (vs.any fun kv => decide (kv.1 = k)) = ds.any fun kv => decide (kv.1 = k)
  | [], _, h => by cases h; rfl
  | _ :: _, _, h => by
    cases h with
    | cons a b => rw [List.any_cons, List.any_cons, denK_any b]
theorem denK_map {k : Key} {v : V} {d : D} (q : Den K mg c v d) : ∀ {ds : List (Key × D)} {vs : List (Key × V)}, DenK K mg c vs ds → DenK K mg c (vs.map fun kv => if kv.1 = k then (kv.1, v) else kv) (ds.map fun kv => if kv.1 = k then (kv.1, d) else kv)
  | [], _, h => by cases h; exact .nil
  | (j, _) :: _, _, h => by
    cases h with
    | cons a b =>
      rw [List.map_cons, List.map_cons]
      by_cases e : j = k
      · rw [if_pos e, if_pos e]; exact .cons q (denK_map q b)
      · rw [if_neg e, if_neg e]; exact .cons a (denK_map q b)
theorem denK_put {k : Key} {v : V} {d : D} {ds : List (Key × D)} {vs : List (Key × V)} (h : DenK K mg c vs ds) (q : Den K mg c v d) : DenK K mg c (putK vs k v) (gput ds k d) := by
  unfold putK gput
  rw [denK_any h]
  split
  · exact denK_map q h
  · exact denK_app h (.cons q .nil)
theorem denK_merge : ∀ {es ds : List (Key × D)} {ws vs : List (Key × V)}, DenK K mg c ws es → DenK K mg c vs ds → DenK K mg c (mergeK vs ws) (gmerge ds es)
  | [], _, _, _, h, q => by cases h; exact q
  | _ :: _, _, _, _, h, q => by
    cases h with
    | @cons kk _ _ _ _ a b =>
      have z := denK_merge b (denK_put (k := kk) q a)
      exact z
theorem dct_go (k : Ok K mg c) {x : V} {a : D} {kvs : List (Key × D)} (Da : Den K mg c x a) (h : dctOf c.S a = some kvs) : ∃ p vs, x = .ref p ∧ c.H p = some (.dK vs) ∧ DenK K mg c vs kvs := by
  cases a <;> try (cases h)
  · cases Da with
    | dct n s t => exact ⟨_, _, rfl, s, t⟩
  · rename_i j
    have h' : (match c.S[j]? with | some (.dct kvs) => some kvs | _ => none) = some kvs := h
    split at h'
    · rename_i hS
      cases h'
      obtain ⟨vs, hv, t⟩ := k.at_ _ _ hS
      cases Da with
      | ref hj => exact ⟨_, _, rfl, hv, t⟩
    · cases h'
theorem key_go {y : V} {b : D} {k : Key} (Db : Den K mg c y b) (h : keyOf b = some k) : y = kV k := by
  cases b <;> cases h <;> cases Db <;> rfl
end
def mDGet (f g : EvF) : EvF := fun ρ S => (f ρ S).bind fun x => (g ρ x.2).bind fun y => (dctOf y.2 x.1).bind fun kvs => (keyOf y.1).bind fun k => (gv kvs k).map fun d => (d, y.2)
def mDIn (g f : EvF) : EvF := fun ρ S => (g ρ S).bind fun y => (f ρ y.2).bind fun x => (dctOf x.2 x.1).bind fun kvs => (keyOf y.1).map fun k => (.bl (gv kvs k).isSome, x.2)
def mDGet2 (f g h : EvF) : EvF := fun ρ S => (f ρ S).bind fun x => (dctOf x.2 x.1).bind fun _ => (g ρ x.2).bind fun y => (h ρ y.2).bind fun z => (dctOf z.2 x.1).bind fun kvs => (keyOf y.1).map fun k => ((gv kvs k).getD z.1, z.2)
section
variable {X : Cx} {e : Expr} {f g h : EvF}
theorem me_dget (he : PE X e (tDGet (tM X.K X.mg f) (tM X.K X.mg g))) : ME X e (mDGet f g) := pe_imp he <| by
  rintro σ H Q ⟨c, ρ, d, S', ⟨rfl, k, en⟩, q, p⟩
  obtain ⟨⟨x, S1⟩, h1, q⟩ := bd q
  obtain ⟨⟨y, S2⟩, h2, q⟩ := bd q
  obtain ⟨kvs, h3, q⟩ := bd q
  obtain ⟨kk, h4, q⟩ := bd q
  obtain ⟨w, h5, q⟩ := mp q
  cases q
  refine ⟨c, ρ, x, S1, .of k en, h1, fun v c1 l1 k1 e1 D1 => ⟨c1, ρ, y, S2, .of k1 (en.mono l1), by rw [e1]; exact h2, fun u c2 l2 k2 e2 D2 => ?_⟩⟩
  subst e2
  obtain ⟨pp, vs, rfl, hv, t⟩ := dct_go k2 (D1.mono l2) h3
  have a := den_gv (k := kk) t
  rw [h5] at a
  obtain ⟨wv, g1, g2⟩ := a
  have ky := key_go D2 h4
  subst ky
  exact ⟨pp, wv, rfl, by rw [← g1]; exact .k hv, p.mono (l1.trans l2) |>.here k2 g2⟩
theorem me_din {pos : Pos} {ek ed : Expr} (hr : X.A.units + 1 < cLine) (hk : ME X ek g) (hd : ME X ed f) (hm : behindInMarks .In ed = false := by rfl) : ME X (.Compare ek [.In] [ed] pos) (mDIn g f) := by
  have go : ∀ σ H Q, tM X.K X.mg (mDIn g f) σ H Q → tDIn (tM X.K X.mg g) (tM X.K X.mg f) σ H Q := by
    rintro σ H Q ⟨c, ρ, d, S', ⟨rfl, k, en⟩, q, p⟩
    obtain ⟨⟨y, S1⟩, h1, q⟩ := bd q
    obtain ⟨⟨x, S2⟩, h2, q⟩ := bd q
    obtain ⟨kvs, h3, q⟩ := bd q
    obtain ⟨kk, h4, q⟩ := mp q
    cases q
    refine ⟨c, ρ, y, S1, .of k en, h1, fun v c1 l1 k1 e1 D1 => ⟨c1, ρ, x, S2, .of k1 (en.mono l1), by rw [e1]; exact h2, fun u c2 l2 k2 e2 D2 => ?_⟩⟩
    subst e2
    obtain ⟨pp, vs, rfl, hv, t⟩ := dct_go k2 D2 h3
    have a := den_gv (k := kk) t
    have ky := key_go D1 h4
    subst ky
    refine ⟨pp, valV vs kk, rfl, .k hv, ?_⟩
    have : (valV vs kk).isSome = (gv kvs kk).isSome := by
      cases eg : gv kvs kk with
      | none => rw [eg] at a; rw [a]; rfl
      | some w => rw [eg] at a; obtain ⟨wv, g1, _⟩ := a; rw [g1]; rfl
    rw [this]
    exact p.mono (l1.trans l2) |>.here k2 (.bl _)
  refine pe_imp ⟨fun pins s σ H Q I hq => ?_⟩ go
  exact wpAny_Compare1 ((pc_din hr hk hd).run pins s σ H Q I hq) hm
theorem me_dget2 (he : PE X e (tDGet2 (tM X.K X.mg f) (tM X.K X.mg g) (tM X.K X.mg h))) : ME X e (mDGet2 f g h) := pe_imp he <| by
  rintro σ H Q ⟨c, ρ, d, S', ⟨rfl, k, en⟩, q, p⟩
  obtain ⟨⟨x, S1⟩, h1, q⟩ := bd q
  obtain ⟨_, h0, q⟩ := bd q
  obtain ⟨⟨y, S2⟩, h2, q⟩ := bd q
  obtain ⟨⟨z, S3⟩, h3, q⟩ := bd q
  obtain ⟨kvs, h4, q⟩ := bd q
  obtain ⟨kk, h5, q⟩ := mp q
  cases q
  refine ⟨c, ρ, x, S1, .of k en, h1, fun v c1 l1 k1 e1 D1 => ?_⟩
  subst e1
  obtain ⟨pp, vs0, rfl, hv0, t0⟩ := dct_go k1 D1 h0
  refine ⟨pp, rfl, .inl ⟨vs0, .inl hv0⟩, c1, ρ, y, S2, .of k1 (en.mono l1), h2, fun u c2 l2 k2 e2 D2 => ⟨c2, ρ, z, S3, .of k2 (en.mono (l1.trans l2)), by rw [e2]; exact h3, fun w c3 l3 k3 e3 D3 => ?_⟩⟩
  subst e3
  obtain ⟨pp', vs, e4, hv, t⟩ := dct_go k3 (D1.mono (l2.trans l3)) h4
  cases e4
  have a := den_gv (k := kk) t
  have ky := key_go D2 h5
  subst ky
  refine ⟨valV vs kk, .k hv, ?_⟩
  have P := p.mono ((l1.trans l2).trans l3)
  revert a P
  cases gv kvs kk with
  | none => intro a P; rw [a]; exact P.here k3 D3
  | some w' =>
    intro a P
    obtain ⟨wv, g1, g2⟩ := a
    rw [g1]
    exact P.here k3 g2
end
/-- dict(pairs) -/
def prsOf : List D → Option (List (Key × D))
  | [] => some []
  | .tup [a, d] :: r => (keyOf a).bind fun k => (prsOf r).map fun y => (k, d) :: y
  | _ => none
theorem prs_go {K : PySem.W.Frag} {mg : Str → Option Value} {c : Cfg} : ∀ {ds : List D} {vs : List V} {kvs : List (Key × D)}, DenA K mg c vs ds → prsOf ds = some kvs → ∃ (ps : List Addr) (ws : List (Key × V)), vs = ps.map V.ref ∧ Paired (fun p kv => SqT K c.H p [kV kv.1, kv.2]) ps ws ∧ DenK K mg c ws kvs
  | [], _, _, h, e => by cases h; cases e; exact ⟨[], [], rfl, .nil, .nil⟩
  | d :: ds, _, _, h, e => by
    unfold prsOf at e
    split at e
    · rename_i h0; cases h0
    · rename_i a d r h0
      cases h0
      obtain ⟨k, h1, e⟩ := bd e
      obtain ⟨y, h2, rfl⟩ := mp e
      cases h with
      | cons q t =>
        obtain ⟨ps, ws, rfl, r1, r2⟩ := prs_go t h2
        cases q with
        | @tup p _ _ s1 t1 =>
          obtain ⟨x1, x2, rfl, q1, q2⟩ := da2 t1
          have := key_go q1 h1
          subst this
          exact ⟨p :: ps, (k, x2) :: ws, rfl, .cons s1.get r1, .cons q2 r2⟩
    · cases e
def dictP : CbF := fun _ ds => match ds with
  | [.lst xs] => (prsOf xs).map fun kvs => .dct (gmerge [] kvs)
  | _ => none
section
variable {X : Cx} {e : Expr} {f g h : EvF} {fa : EaF}
theorem cd_dictP (hc : X.calm = true) : CallD X (.type "dict") dictP := by
  rintro pins s σ H xs us Q I r ⟨c, ds, z, rfl, k, D1, e, P⟩
  unfold dictP at e
  split at e
  · obtain ⟨v, rfl, q⟩ := da1 D1
    obtain ⟨kvs, h1, rfl⟩ := mp e
    cases q with
    | lst s1 t1 =>
      obtain ⟨ps, ws, rfl, r1, r2⟩ := prs_go t1 h1
      exact call_dictP hc pins s σ _ _ us Q I r ⟨_, ps, ws, rfl, s1.get, r1, post_dct P k (denK_merge r2 .nil)⟩
  · cases e
/-- dict(pairs), a new thing of the store -/
def mDictN (fa : EaF) : EvF := fun ρ S => (fa ρ S).bind fun x => (dictP x.2 x.1).bind fun z => match z with
  | .dct kvs => some (.ref x.2.length, x.2 ++ [.dct kvs])
  | _ => none
theorem me_dictN (he : PE X e (tCB (fun xs H Q => ∃ (a : Addr) (ps : List Addr) (kvs : List (Key × V)), xs = [.ref a] ∧ SqL X.K H a (ps.map V.ref) ∧ Paired (fun p kv => SqT X.K H p [kV kv.1, kv.2]) ps kvs ∧
    ∀ p, H p = none → Q (.ref p) (upd H p (.dK (mergeK [] kvs)))) (tAs X.K X.mg fa))) : ME X e (mDictN fa) := pe_imp he <| by
  rintro σ H Q ⟨c, ρ, d, S', ⟨rfl, k, en⟩, q, p⟩
  obtain ⟨⟨ds, S1⟩, h1, q1⟩ := bd q
  obtain ⟨z, h2, q2⟩ := bd q1
  clear q q1
  refine ⟨c, ρ, ds, S1, .of k en, h1, fun vs c1 l1 k1 e1 D1 => ?_⟩
  subst e1
  have h3 : ∃ xs kvs, ds = [.lst xs] ∧ prsOf xs = some kvs ∧ z = .dct (gmerge [] kvs) := by
    have h2' : dictP c1.S ds = some z := h2
    unfold dictP at h2'
    split at h2'
    · obtain ⟨kvs, a, b⟩ := mp h2'
      exact ⟨_, kvs, rfl, a, b.symm⟩
    · cases h2'
  obtain ⟨xs, kvs, rfl, h4, rfl⟩ := h3
  cases q2
  obtain ⟨v, rfl, q⟩ := da1 D1
  cases q with
  | lst s1 t1 =>
    obtain ⟨ps, ws, rfl, r1, r2⟩ := prs_go t1 h4
    exact ⟨_, ps, ws, rfl, s1.get, r1, fun a ha => post_new (ob := .dct _) (p.mono l1) k1 ha (upd_keep ha) ⟨_, upd_same, (denK_merge r2 .nil).mono (new_le ha (upd_keep ha))⟩⟩
end
end M

namespace M
open PySem PySem.Spec L2 W2 RZ

/-! ### targets that change the store -/
abbrev TgSF := En → Sto → D → Option (En × Sto)
def tGS (K : PySem.W.Frag) (mg : Str → Option Value) (g : TgSF) : TG := fun v σ H Q => ∃ c ρ d ρ' S', At K mg c ρ σ H ∧ Den K mg c v d ∧ g ρ c.S d = some (ρ', S') ∧ ∀ c', Le c c' → Ok K mg c' → c'.S = S' → ∀ σ', EnD K mg c' σ' ρ' → Q σ' c'.H
/-- d[k] = .. of a dict of the store -/
def gSD (fo fi : EvF) : TgSF := fun ρ S d => (fo ρ S).bind fun x => (fi ρ x.2).bind fun y => match x.1 with
  | .ref j => (dctOf y.2 (.ref j)).bind fun kvs => (keyOf y.1).bind fun k => if kvs.length < 100000 then some (ρ, y.2.set j (.dct (gput kvs k d))) else none
  | _ => none
def foldG : List TgSF → List D → En → Sto → Option (En × Sto)
  | [], [], ρ, S => some (ρ, S)
  | g :: gs, d :: ds, ρ, S => (g ρ S d).bind fun x => foldG gs ds x.1 x.2
  | _, _, _, _ => none
def tGsS (K : PySem.W.Frag) (mg : Str → Option Value) (gs : List TgSF) : TGs := fun vs σ H Q => ∃ c ρ ds ρ' S', At K mg c ρ σ H ∧ DenA K mg c vs ds ∧ foldG gs ds ρ c.S = some (ρ', S') ∧ ∀ c', Le c c' → Ok K mg c' → c'.S = S' → ∀ σ', EnD K mg c' σ' ρ' → Q σ' c'.H
def gTS (gs : List TgSF) : TgSF := fun ρ S d => match d with
  | .tup ds => if ds.length = gs.length then foldG gs ds ρ S else none
  | _ => none
def mAsgS (f : EvF) (g : TgSF) : StF := fun ρ S => (f ρ S).bind fun x => (g ρ x.2 x.1).map fun r => (.nx r.1, r.2)
section
variable {X : Cx} {st : Stmt} {e : Expr} {f fo fi : EvF} {g : TgSF} {gs : List TgSF} {es : List Expr} {pos : Pos}
def rSetD : TSet := fun o i v H Q => ∃ a H', o = .ref a ∧ DPut H a i v H' ∧ Q H'
theorem set_dict (hu : X.A.units + 1 < cLine) : PSet X rSetD := by
  rintro pins s σ H o i v ov iv u Q I ro ri rv ⟨a, H', rfl, g, q⟩
  cases ro
  exact d_setItem hu I g ri rv fun s' I' => ⟨H', I', q⟩
abbrev MGS (X : Cx) (e : Expr) (g : TgSF) : Prop := PG X e (tGS X.K X.mg g)
theorem denK_len {K : PySem.W.Frag} {mg : Str → Option Value} {c : Cfg} : ∀ {ds : List (Key × D)} {vs : List (Key × V)}, DenK K mg c vs ds → vs.length = ds.length := fun h => h.length
theorem mgs_sub (h : PG X e (gSub (tM X.K X.mg fo) (tM X.K X.mg fi) rSetD)) : MGS X e (gSD fo fi) := pg_imp h <| by
  rintro v σ H Q ⟨c, ρ, d, ρ', S', ⟨rfl, k, en⟩, D0, q, p⟩
  obtain ⟨⟨x, S1⟩, h1, q1⟩ := bd q
  obtain ⟨⟨y, S2⟩, h2, q2⟩ := bd q1
  clear q q1
  cases x <;> try (cases q2)
  rename_i j
  obtain ⟨kvs, h3, q3⟩ := bd (show (dctOf S2 (.ref j)).bind _ = some (ρ', S') from q2)
  obtain ⟨kk, h4, q⟩ := bd q3
  clear q2 q3
  refine ⟨c, ρ, _, S1, .of k en, h1, fun u c1 l1 k1 e1 D1 => ⟨c1, ρ, y, S2, .of k1 (en.mono l1), by rw [e1]; exact h2, fun w c2 l2 k2 e2 D2 => ?_⟩⟩
  by_cases z : kvs.length < 100000
  · rw [if_pos z] at q
    cases q
    subst e2
    have ky := key_go D2 h4
    subst ky
    have hS : c2.S[j]? = some (.dct kvs) := by
      have h3' : (match c2.S[j]? with | some (.dct kvs) => some kvs | _ => none) = some kvs := h3
      split at h3'
      · cases h3'; assumption
      · cases h3'
    have hj := lt_of_get hS
    obtain ⟨vs, hv, t⟩ := k2.at_ _ _ hS
    cases D1.mono l2 with
    | ref _ =>
      refine ⟨_, _, rfl, .k hv (by rw [t.length, sizeLine_eq]; omega), ?_⟩
      have D0' := D0.mono (l1.trans l2)
      have t' := denK_put (k := kk) t D0'
      have le := put_le (c := c2) hj (o := .dK (putK vs kk v)) (ob := .dct (gput kvs kk d))
      exact p (c2.put j (.dK (putK vs kk v)) (.dct (gput kvs kk d))) ((l1.trans l2).trans le) (put_ok k2 hj ⟨_, upd_same, t'.mono le⟩) rfl _ (en.mono ((l1.trans l2).trans le))
  · rw [if_neg z] at q; cases q
theorem mgss_nil : PGs X [] (tGsS X.K X.mg []) := pgs_imp pgs_nil <| by
  rintro v σ H Q ⟨c, ρ, ds, ρ', S', ⟨rfl, k, en⟩, D0, q, p⟩
  cases D0 with
  | nil => cases q; exact ⟨rfl, p c (.refl c) k rfl _ en⟩
  | cons a b => cases q
theorem mgss_cons (h : PGs X es (gCons (tGS X.K X.mg g) (tGsS X.K X.mg gs))) : PGs X es (tGsS X.K X.mg (g :: gs)) := pgs_imp h <| by
  rintro v σ H Q ⟨c, ρ, ds, ρ', S', ⟨rfl, k, en⟩, D0, q, p⟩
  cases D0 with
  | nil => cases q
  | @cons v vs d ds a b =>
    obtain ⟨⟨ρ1, S1⟩, h1, h2⟩ := bd (show (g ρ c.S d).bind _ = some (ρ', S') from q)
    refine ⟨v, vs, rfl, c, ρ, d, ρ1, S1, .of k en, a, h1, fun c1 l1 k1 e1 σ1 en1 => ?_⟩
    exact ⟨c1, ρ1, ds, ρ', S', .of k1 en1, b.mono l1, by rw [e1]; exact h2, fun c2 l2 => p c2 (l1.trans l2)⟩
theorem foldG_len : ∀ {gs : List TgSF} {ds : List D} {ρ : En} {S : Sto} {x : En × Sto}, foldG gs ds ρ S = some x → ds.length = gs.length
  | [], [], _, _, _, _ => rfl
  | _ :: gs, _ :: ds, _, _, _, h => by
    obtain ⟨x, _, h2⟩ := bd (show (Option.bind _ _) = some _ from h)
    simp [foldG_len (gs := gs) (ds := ds) h2]
  | [], _ :: _, _, _, _, h => by cases h
  | _ :: _, [], _, _, _, h => by cases h
theorem mgs_tup {n m : Nat} (hl : PG X (.Tuple es n pos) (gTup X.K gs.length (tGsS X.K X.mg gs))) : MGS X (.Tuple es n pos) (gTS gs) := pg_imp hl <| by
  rintro v σ H Q ⟨c, ρ, d, ρ', S', ⟨rfl, k, en⟩, D1, q, p⟩
  cases d <;> try (cases q)
  rename_i ds
  have q' : (if ds.length = gs.length then foldG gs ds ρ c.S else none) = some (ρ', S') := q
  by_cases z : ds.length = gs.length
  · rw [if_pos z] at q'
    cases D1 with
    | tup s t => exact ⟨_, _, rfl, s.get, t.length.trans z, c, ρ, ds, ρ', S', .of k en, t, q', p⟩
  · rw [if_neg z] at q'; cases q'
theorem ms_asgS (hs : PS X st (tAsg (tM X.K X.mg f) (tGS X.K X.mg g))) : MS X st (mAsgS f g) := ps_imp hs <| by
  rintro Dd σ H ⟨c, ρ, o, S', ⟨rfl, k, en⟩, q, p⟩
  obtain ⟨⟨x, S1⟩, h1, q⟩ := bd q
  obtain ⟨⟨ρ1, S2⟩, h2, q⟩ := mp q
  cases q
  refine ⟨c, ρ, x, S1, .of k en, h1, fun v c1 l1 k1 e1 D1 => ?_⟩
  exact ⟨c1, ρ, x, ρ1, S2, .of k1 (en.mono l1), D1, by rw [e1]; exact h2, fun c2 l2 k2 e2 σ2 en2 => p c2 (l1.trans l2) k2 e2 σ2 en2⟩
end

/-! ### repr of long texts, of lists of the store -/
def fitL (d : PyData) : Bool := d.showable && d.leavesShort 50000 && decide (d.depth ≤ 60) && decide (d.bulk ≤ 300)
def showD (d : D) : Option D := (toQ d).bind fun p => if fitB p = true ∨ fitL p = true then some (.str p.shown) else none
def reprR : CbF := fun S ds => match ds with
  | [.ref j] => (stLst S j).bind fun xs => showD (.lst xs)
  | [d] => showD d
  | _ => none
theorem fitL_len {d : PyData} (h1 : d.leavesShort 50000 = true) (h2 : d.bulk ≤ 300) : d.shown.length ≤ sizeLine := by
  have a := PyData.shown_le_bulk 50000 (by decide) d h1
  have b : (50000 + 2) * d.bulk ≤ 50002 * 300 := Nat.mul_le_mul (by decide) h2
  rw [sizeLine_eq]
  omega
theorem fit_go {p : PyData} (h : fitB p = true ∨ fitL p = true) : p.showable = true ∧ p.depth ≤ 60 ∧ p.shown.length ≤ sizeLine := by
  rcases h with F | F
  · unfold fitB at F
    simp only [Bool.and_eq_true, decide_eq_true_eq] at F
    obtain ⟨⟨⟨f1, f2⟩, f3⟩, f4⟩ := F
    exact ⟨f1, f3, fit_len f2 f4⟩
  · unfold fitL at F
    simp only [Bool.and_eq_true, decide_eq_true_eq] at F
    obtain ⟨⟨⟨f1, f2⟩, f3⟩, f4⟩ := F
    exact ⟨f1, f3, fitL_len f2 f4⟩
theorem cd_reprR {X : Cx} (hr : Rg X.A) (hs : ∃ mm, X.base.Ns sysModules mm) : CallD X (.builtin "repr") reprR := by
  rintro pins s σ H xs us Q I r ⟨c, ds, z, rfl, k, D1, e, P⟩
  have hu := hr.un
  unfold reprR at e
  split at e
  · obtain ⟨v, rfl, q⟩ := da1 D1
    obtain ⟨zs, h0, e⟩ := bd e
    obtain ⟨p, h1, e⟩ := bd (show (toQ (.lst zs)).bind _ = some z from e)
    by_cases F : fitB p = true ∨ fitL p = true
    · rw [if_pos F] at e
      cases e
      obtain ⟨f1, f3, hz⟩ := fit_go F
      obtain ⟨u, rfl, r1⟩ := vals1 r
      have P' := P.here k (.str _)
      cases q with
      | ref hj =>
        cases r1
        obtain ⟨vs, hv, t⟩ := k.at_ _ _ (stLst_eq h0)
        rw [toQ] at h1
        obtain ⟨ys, g1, rfl⟩ := mp h1
        obtain ⟨its, rv, ⟨o, w, ho, hc, _, hd⟩, _⟩ := I.list (.inl (.inl hv))
        obtain ⟨as, hra, kk⟩ := den_readsA I hs t rv g1
        exact repr_of_reads' (Reads.list ho hc hd hra) f1 (fun _ => sys_no I hs hv kk) hr.g (by omega) (fun _ _ e => e) (fun h' t tk k => ⟨.str _, c.H, I.kept k, ⟨_, rfl⟩, P'⟩) hz
    · rw [if_neg F] at e; cases e
  · obtain ⟨v, rfl, q⟩ := da1 D1
    obtain ⟨p, h1, e⟩ := bd (show (toQ _).bind _ = some z from e)
    by_cases F : fitB p = true ∨ fitL p = true
    · rw [if_pos F] at e
      cases e
      obtain ⟨f1, f3, hz⟩ := fit_go F
      obtain ⟨u, rfl, r1⟩ := vals1 r
      obtain ⟨as, R, ns⟩ := den_reads I hs q r1 h1
      have P' := P.here k (.str _)
      cases R with
      | none => exact PySem.P.repr_of_none ⟨.str _, c.H, I.tok _, ⟨_, rfl⟩, P'⟩
      | bool b =>
        refine PySem.P.repr_of_bool ⟨.str _, c.H, I.tok _, ⟨_, rfl⟩, ?_⟩
        cases b <;> exact P'
      | int i t => exact PySem.P.repr_of_int (by simpa [PyData.showable] using f1) ⟨.str _, c.H, I.tok _, ⟨_, rfl⟩, P'⟩
      | str x t => exact PySem.P.repr_of_str ⟨.str _, c.H, I.tok _, ⟨_, rfl⟩, P'⟩ hz
      | list g1 g2 g3 g4 => exact repr_of_reads' (Reads.list g1 g2 g3 g4) f1 (fun _ => ns) hr.g (by omega) (fun _ _ e => e) (fun h' t tk k => ⟨.str _, c.H, I.kept k, ⟨_, rfl⟩, P'⟩) hz
      | tuple g1 g2 g3 g4 => exact repr_of_reads' (Reads.tuple g1 g2 g3 g4) f1 (fun _ => ns) hr.g (by omega) (fun _ _ e => e) (fun h' t tk k => ⟨.str _, c.H, I.kept k, ⟨_, rfl⟩, P'⟩) hz
      | dict g1 g2 g3 g4 g5 => exact repr_of_reads' (Reads.dict g1 g2 g3 g4 g5) f1 (fun _ => ns) hr.g (by omega) (fun _ _ e => e) (fun h' t tk k => ⟨.str _, c.H, I.kept k, ⟨_, rfl⟩, P'⟩) hz
    · rw [if_neg F] at e; cases e
  · cases e
end M

namespace M
open PySem PySem.Spec L2 W2 RZ

/-! ### what may raise -/
inductive OX where
  | nx (ρ : En) | rt (d : D) | bk (ρ : En) | ct (ρ : En) | ex (cn : Str) (fs : Fs) (ρ : En)
inductive RX (α : Type) where
  | ok (a : α) | ex (cn : Str) (fs : Fs)
abbrev SxF := En → Sto → Option (OX × Sto)
abbrev RxF (α : Type) := En → Sto → Option (RX α × Sto)
def ErX (c : Cfg) (od : Option Addr) (vs : List (Str × V)) : Prop := match od with
  | none => vs = []
  | some dd => ¬ c.B dd ∧ c.H dd = some (.xd vs)
section
variable (K : PySem.W.Frag) (mg : Str → Option Value)
def ExTo (c : Cfg) (cn : Str) (fs : Fs) (E : XK) : Prop := ∀ C od vs, mg cn = some (.ref C) → ErX c od vs → DenF K mg c vs fs → E (.ref C) od c.H
/-- what is wanted behind f -/
def RunX {α β : Type} (R : Cfg → β → α → Prop) (c : Cfg) (o : Option (RX α × Sto)) (Q : β → Hp → Prop) (E : XK) : Prop := ∃ r S', o = some (r, S') ∧ ∀ c', Le c c' → Ok K mg c' → c'.S = S' → match r with
  | .ok a => ∀ v, R c' v a → Q v c'.H
  | .ex cn fs => ExTo K mg c' cn fs E
def tMx (W : WX) (f : RxF D) : TE := fun σ H Q => ∃ c ρ, At K mg c ρ σ H ∧ RunX K mg (Den K mg) c (f ρ c.S) Q fun cls d H' => W cls d σ H'
def tAx (W : WX) (f : RxF (List D)) : TA := fun σ H Q => ∃ c ρ, At K mg c ρ σ H ∧ RunX K mg (DenA K mg) c (f ρ c.S) Q fun cls d H' => W cls d σ H'
def tTx (W : WX) (f : RxF Bool) : TT := fun σ H Q => ∃ c ρ, At K mg c ρ σ H ∧ RunX K mg (fun _ b a => b = a) c (f ρ c.S) Q fun cls d H' => W cls d σ H'
def OxTo (W : WX) (Dd : Ends) (c' : Cfg) : OX → Prop
  | .nx ρ' => ∀ σ', EnD K mg c' σ' ρ' → Dd.nx σ' c'.H
  | .rt d => ∀ v, Den K mg c' v d → Dd.rt v c'.H
  | .bk ρ' => ∀ σ', EnD K mg c' σ' ρ' → Dd.bk σ' c'.H
  | .ct ρ' => ∀ σ', EnD K mg c' σ' ρ' → Dd.ct σ' c'.H
  | .ex cn fs ρ' => ∀ σ', EnD K mg c' σ' ρ' → ExTo K mg c' cn fs fun cls d H' => W cls d σ' H'
def tSx (W : WX) (g : SxF) : TS := fun Dd σ H => ∃ c ρ o S', At K mg c ρ σ H ∧ g ρ c.S = some (o, S') ∧ ∀ c', Le c c' → Ok K mg c' → c'.S = S' → OxTo K mg W Dd c' o
end
section
variable {K : PySem.W.Frag} {mg : Str → Option Value} {c c' : Cfg} {α β : Type} {R : Cfg → β → α → Prop} {Q : β → Hp → Prop} {E : XK}
theorem RunX.mono {r : RX α} {S' : Sto} (h : ∀ c', Le c c' → Ok K mg c' → c'.S = S' → match r with
  | .ok a => ∀ v, R c' v a → Q v c'.H
  | .ex cn fs => ExTo K mg c' cn fs E) (l : Le c c') (o : Option (RX α × Sto)) (e : o = some (r, S')) : RunX K mg R c' o Q E := ⟨r, S', e, fun c2 l2 => h c2 (l.trans l2)⟩
end
abbrev MX (X : Cx) (W : WX) (st : Stmt) (g : SxF) : Prop := PS X st (tSx X.K X.mg W g)
abbrev MXs (X : Cx) (W : WX) (st : List Stmt) (g : SxF) : Prop := PSs X st (tSx X.K X.mg W g)
abbrev MEx (X : Cx) (W : WX) (e : Expr) (f : RxF D) : Prop := PE X e (tMx X.K X.mg W f)
abbrev MAx (X : Cx) (W : WX) (es : List Expr) (f : RxF (List D)) : Prop := PA X es (tAx X.K X.mg W f)
abbrev MTx (X : Cx) (W : WX) (e : Expr) (f : RxF Bool) : Prop := PT X e (tTx X.K X.mg W f)
def xo {α : Type} (f : En → Sto → Option (α × Sto)) : RxF α := fun ρ S => (f ρ S).map fun x => (.ok x.1, x.2)
def outX : Out → OX
  | .nx ρ => .nx ρ
  | .rt d => .rt d
  | .bk ρ => .bk ρ
  | .ct ρ => .ct ρ
def lx (g : StF) : SxF := fun ρ S => (g ρ S).map fun x => (outX x.1, x.2)
def bx {α β : Type} (o : Option (RX α × Sto)) (f : α → Sto → Option (RX β × Sto)) : Option (RX β × Sto) := o.bind fun x => match x.1 with
  | .ok a => f a x.2
  | .ex cn fs => some (.ex cn fs, x.2)
def sxR {α : Type} (ρ : En) (o : Option (RX α × Sto)) (f : α → Sto → Option (OX × Sto)) : Option (OX × Sto) := o.bind fun x => match x.1 with
  | .ok a => f a x.2
  | .ex cn fs => some (.ex cn fs ρ, x.2)
def mxCons (f : RxF D) (g : RxF (List D)) : RxF (List D) := fun ρ S => bx (f ρ S) fun x S1 => bx (g ρ S1) fun y S2 => some (.ok (x :: y), S2)
def mxCallM (F : Fn) (fa : RxF (List D)) : RxF D := fun ρ S => bx (fa ρ S) fun x S1 => (F x S1).map fun y => (.ok y.1, y.2)
def mxBin (op : D → D → Option D) (f g : RxF D) : RxF D := fun ρ S => bx (f ρ S) fun x S1 => bx (g ρ S1) fun y S2 => (op x y).map fun z => (.ok z, S2)
def mxTv (f : RxF D) : RxF Bool := fun ρ S => bx (f ρ S) fun x S1 => match x with
  | .bl b => some (.ok b, S1)
  | _ => none
def mxRet (f : RxF D) : SxF := fun ρ S => sxR ρ (f ρ S) fun d S1 => some (.rt d, S1)
def mxDrop (f : RxF D) : SxF := fun ρ S => sxR ρ (f ρ S) fun d S1 => some (.nx ρ, S1)
def mxAsg (f : RxF D) (g : TgF) : SxF := fun ρ S => sxR ρ (f ρ S) fun d S1 => (g ρ d).map fun ρ' => (.nx ρ', S1)
def mxIf (t : RxF Bool) (g h : SxF) : SxF := fun ρ S => sxR ρ (t ρ S) fun b S1 => if b = true then g ρ S1 else h ρ S1
def mxSeq (g h : SxF) : SxF := fun ρ S => (g ρ S).bind fun x => match x.1 with
  | .nx ρ' => h ρ' x.2
  | o => some (o, x.2)
section
variable {X : Cx} {W : WX} {pos p : Pos} {e a b : Expr} {es : List Expr} {st : Stmt} {rest : List Stmt} {f f' : RxF D} {fa : RxF (List D)} {t : RxF Bool} {g h : SxF}
theorem xo_run {α β : Type} {K : PySem.W.Frag} {mg : Str → Option Value} {c : Cfg} {R : Cfg → β → α → Prop} {o : Option (α × Sto)} {Q : β → Hp → Prop} {E : XK} (h : RunX K mg R c (o.map fun x => (.ok x.1, x.2)) Q E) : ∃ a S', o = some (a, S') ∧ ∀ c', Le c c' → Ok K mg c' → c'.S = S' → ∀ v, R c' v a → Q v c'.H := by
  obtain ⟨r, S', h1, h2⟩ := h
  obtain ⟨x, h3, h4⟩ := mp h1
  cases h4
  exact ⟨x.1, x.2, h3, h2⟩
theorem mex_of {f : EvF} (h : ME X e f) : MEx X W e (xo f) := pe_imp h <| by
  rintro σ H Q ⟨c, ρ, hA, hR⟩
  obtain ⟨d, S', h1, h2⟩ := xo_run hR
  exact ⟨c, ρ, d, S', hA, h1, fun v c1 l k e D1 => h2 c1 l k e v D1⟩
theorem max_of {f : EaF} (h : MA X es f) : MAx X W es (xo f) := pa_imp h <| by
  rintro σ H Q ⟨c, ρ, hA, hR⟩
  obtain ⟨d, S', h1, h2⟩ := xo_run hR
  exact ⟨c, ρ, d, S', hA, h1, fun v c1 l k e D1 => h2 c1 l k e v D1⟩
theorem mtx_of {f : EtF} (h : MT X e f) : MTx X W e (xo f) := pt_imp h <| by
  rintro σ H Q ⟨c, ρ, hA, hR⟩
  obtain ⟨d, S', h1, h2⟩ := xo_run hR
  exact ⟨c, ρ, d, S', hA, h1, fun c1 l k e => h2 c1 l k e d rfl⟩
theorem mx_of {g : StF} (h : MS X st g) : MX X W st (lx g) := ps_imp h <| by
  rintro Dd σ H ⟨c, ρ, o, S', hA, hq, p⟩
  obtain ⟨⟨x, S1⟩, h1, h2⟩ := mp hq
  cases h2
  refine ⟨c, ρ, x, S1, hA, h1, fun c1 l k e => ?_⟩
  have q := p c1 l k e
  cases x <;> exact q
/-- a piece that may raise, then what is done with its value -/
theorem bx_run {α β γ δ : Type} {K : PySem.W.Frag} {mg : Str → Option Value} {c : Cfg} {R : Cfg → β → α → Prop} {R' : Cfg → δ → γ → Prop} {o : Option (RX α × Sto)} {f : α → Sto → Option (RX γ × Sto)} {Q : β → Hp → Prop} {Q' : δ → Hp → Prop} {E : XK}
    (h : RunX K mg R' c (bx o f) Q' E) (w : ∀ a c1 v, Le c c1 → Ok K mg c1 → R c1 v a → RunX K mg R' c1 (f a c1.S) Q' E → Q v c1.H) : RunX K mg R c o Q E := by
  obtain ⟨r, S', h1, h2⟩ := h
  obtain ⟨⟨x, S1⟩, h3, h4⟩ := bd h1
  refine ⟨x, S1, h3, fun c1 l k e => ?_⟩
  cases x with
  | ok a => exact fun v rv => w a c1 v l k rv ⟨r, S', by rw [e]; exact h4, fun c2 l2 => h2 c2 (l.trans l2)⟩
  | ex cn fs =>
    cases h4
    exact h2 c1 l k e
theorem max_cons (ha : MEx X W e f) (hr : MAx X W es fa) (hs : starEach (e :: es) X.env = (false, eval e X.env) :: starEach es X.env := by rfl) : MAx X W (e :: es) (mxCons f fa) := pa_imp (pa_cons ha hr hs) <| by
  rintro σ H Q ⟨c, ρ, ⟨rfl, k, en⟩, R⟩
  refine ⟨c, ρ, .of k en, bx_run R fun d c1 v l1 k1 D1 R1 => ⟨c1, ρ, .of k1 (en.mono l1), bx_run R1 fun ds c2 vs l2 k2 D2 R2 => ?_⟩⟩
  obtain ⟨r, S', h1, h2⟩ := R2
  cases h1
  exact h2 c2 (.refl _) k2 rfl _ (.cons (D1.mono l2) D2)
theorem mex_bin {o : Operator} {op : D → D → Option D} (ho : OpD X (binaryOp o) op) (ha : MEx X W a f) (hb : MEx X W b f') : MEx X W (.BinOp a o b pos) (mxBin op f f') := pe_imp (pe_op ho ha hb) <| by
  rintro σ H Q ⟨c, ρ, ⟨rfl, k, en⟩, R⟩
  refine ⟨c, ρ, .of k en, bx_run R fun d c1 v l1 k1 D1 R1 => ⟨c1, ρ, .of k1 (en.mono l1), bx_run R1 fun d2 c2 w l2 k2 D2 R2 => ?_⟩⟩
  obtain ⟨r, S', h1, h2⟩ := R2
  obtain ⟨z, h3, h4⟩ := mp h1
  cases h4
  exact ⟨c2, d, d2, z, rfl, k2, D1.mono l2, D2, h3, fun v c3 l3 k3 e3 D3 => h2 c3 l3 k3 e3 v D3⟩
theorem mtx_cmp {o : CmpOp} {op : D → D → Option D} (ho : OpD X (compareOp o) op) (ha : MEx X W a f) (hb : MEx X W b f') (hm : behindInMarks o b = false) : MTx X W (.Compare a [o] [b] pos) (mxTv (mxBin op f f')) := pt_imp (pt_cmpR ho ha hb hm) <| by
  rintro σ H Q ⟨c, ρ, ⟨rfl, k, en⟩, R⟩
  refine ⟨c, ρ, .of k en, ?_⟩
  refine bx_run (R' := fun (_ : Cfg) (b a : Bool) => b = a) (Q' := Q) (R := Den X.K X.mg) (Q := fun v H1 => (tMx X.K X.mg W f') σ H1 fun w H2 => (r2 X.K X.mg op) v w H2 fun x H' => ∃ k, x = .bl k ∧ Q k H') (f := fun x S1 => bx (bx (f' ρ S1) fun y S2 => (op x y).map fun z => (.ok z, S2)) fun z S2 => match z with | .bl b => some (.ok b, S2) | _ => none) (o := f ρ c.S) ?_ fun d c1 v l1 k1 D1 R1 => ?_
  · obtain ⟨r, S', h1, h2⟩ := R
    refine ⟨r, S', ?_, h2⟩
    rw [← h1]
    unfold mxTv mxBin bx
    cases f ρ c.S with
    | none => rfl
    | some x =>
      obtain ⟨x, S1⟩ := x
      cases x <;> rfl
  · refine ⟨c1, ρ, .of k1 (en.mono l1), ?_⟩
    refine bx_run (R' := fun (_ : Cfg) (b a : Bool) => b = a) (Q' := Q) (R := Den X.K X.mg) (f := fun y S2 => bx ((op d y).map fun z => (.ok z, S2)) fun z S2 => match z with | .bl b => some (.ok b, S2) | _ => none) (o := f' ρ c1.S) ?_ fun d2 c2 w l2 k2 D2 R2 => ?_
    · obtain ⟨r, S', h1, h2⟩ := R1
      refine ⟨r, S', ?_, h2⟩
      rw [← h1]
      unfold bx
      cases f' ρ c1.S with
      | none => rfl
      | some x =>
        obtain ⟨x, S1⟩ := x
        cases x <;> rfl
    · obtain ⟨r, S', h1, h2⟩ := R2
      obtain ⟨⟨z, S3⟩, h3, h4⟩ := bd h1
      obtain ⟨zz, h5, h6⟩ := mp h3
      cases h6
      refine ⟨c2, d, d2, zz, rfl, k2, D1.mono l2, D2, h5, fun v3 c3 l3 k3 e3 D3 => ?_⟩
      cases zz <;> try (cases h4)
      cases D3
      exact ⟨_, rfl, h2 c3 l3 k3 e3 _ rfl⟩
theorem sx_run {α β : Type} {K : PySem.W.Frag} {mg : Str → Option Value} {c : Cfg} {ρ : En} {σ : L2.St} {W : WX} {R : Cfg → β → α → Prop} {o : Option (RX α × Sto)} {f : α → Sto → Option (OX × Sto)} {Q : β → Hp → Prop} {ou : OX} {S' : Sto} {Dd : Ends} (en : EnD K mg c σ ρ)
    (h1 : sxR ρ o f = some (ou, S')) (h2 : ∀ c', Le c c' → Ok K mg c' → c'.S = S' → OxTo K mg W Dd c' ou) (w : ∀ a c1 v, Le c c1 → Ok K mg c1 → R c1 v a → f a c1.S = some (ou, S') → Q v c1.H) : RunX K mg R c o Q fun cls d H' => W cls d σ H' := by
  obtain ⟨⟨x, S1⟩, h3, h4⟩ := bd h1
  refine ⟨x, S1, h3, fun c1 l k e => ?_⟩
  cases x with
  | ok a => exact fun v rv => w a c1 v l k rv (by rw [e]; exact h4)
  | ex cn fs =>
    cases h4
    exact h2 c1 l k e σ (en.mono l)
theorem mx_ret (he : MEx X W e f) : MX X W (.Return (some e) pos) (mxRet f) := ps_imp (ps_ret he) <| by
  rintro Dd σ H ⟨c, ρ, o, S', ⟨rfl, k, en⟩, q, p⟩
  refine ⟨c, ρ, .of k en, sx_run en q p fun d c1 v l1 k1 D1 h => ?_⟩
  cases h
  exact p c1 l1 k1 rfl v D1
theorem mx_drop (hs : PS X st (tDrop (tMx X.K X.mg W f))) : MX X W st (mxDrop f) := ps_imp hs <| by
  rintro Dd σ H ⟨c, ρ, o, S', ⟨rfl, k, en⟩, q, p⟩
  refine ⟨c, ρ, .of k en, sx_run en q p fun d c1 v l1 k1 D1 h => ?_⟩
  cases h
  exact p c1 l1 k1 rfl _ (en.mono l1)
theorem mx_asg {tg : TgF} (hs : PS X st (tAsg (tMx X.K X.mg W f) (tG X.K X.mg tg))) : MX X W st (mxAsg f tg) := ps_imp hs <| by
  rintro Dd σ H ⟨c, ρ, o, S', ⟨rfl, k, en⟩, q, p⟩
  refine ⟨c, ρ, .of k en, sx_run en q p fun d c1 v l1 k1 D1 h => ?_⟩
  obtain ⟨ρ', h2, h3⟩ := mp h
  cases h3
  exact ⟨c1, ρ, d, ρ', .of k1 (en.mono l1), D1, h2, fun σ' en' => p c1 l1 k1 rfl σ' en'⟩
theorem mx_if {c : Expr} {sts : List Stmt} (ht : MTx X W c t) (h1 : MXs X W rest g) (h2 : MXs X W sts h) : MX X W (.If c rest sts pos) (mxIf t g h) := ps_imp (ps_if ht h1 h2) <| by
  rintro Dd σ H ⟨c, ρ, o, S', ⟨rfl, k, en⟩, q, p⟩
  refine ⟨c, ρ, .of k en, sx_run (R := fun (_ : Cfg) (b a : Bool) => b = a) en q p fun b c1 v l1 k1 D1 h => ?_⟩
  have D2 : v = b := D1
  subst D2
  cases v with
  | true => exact ⟨c1, ρ, o, S', .of k1 (en.mono l1), h, fun c2 l2 => p c2 (l1.trans l2)⟩
  | false => exact ⟨c1, ρ, o, S', .of k1 (en.mono l1), h, fun c2 l2 => p c2 (l1.trans l2)⟩
theorem mxs_nil : MXs X W [] (lx mSkip) := pss_imp pss_nil <| by
  rintro Dd σ H ⟨c, ρ, o, S', ⟨rfl, k, en⟩, q, p⟩
  cases q
  exact p c (.refl c) k rfl _ en
theorem mxs_one (h : MX X W st g) : MXs X W [st] g := pss_one h
theorem mxs_cons (h1 : MX X W st g) (h2 : MXs X W rest h) : MXs X W (st :: rest) (mxSeq g h) := pss_imp (pss_cons h1 h2) <| by
  rintro Dd σ H ⟨c, ρ, o, S', ⟨rfl, k, en⟩, q, p⟩
  obtain ⟨⟨x, S1⟩, h1, q⟩ := bd q
  refine ⟨c, ρ, x, S1, .of k en, h1, fun c1 l1 k1 e1 => ?_⟩
  cases x with
  | nx ρ' =>
    intro σ' en'
    exact ⟨c1, ρ', o, S', .of k1 en', by rw [e1]; exact q, fun c2 l2 => p c2 (l1.trans l2)⟩
  | rt d => cases q; exact p c1 l1 k1 e1
  | bk ρ' => cases q; exact p c1 l1 k1 e1
  | ct ρ' => cases q; exact p c1 l1 k1 e1
  | ex cn fs ρ' => cases q; exact p c1 l1 k1 e1
theorem mxs_of {g : StF} (h : MSs X rest g) : MXs X W rest (lx g) := pss_imp h <| by
  rintro Dd σ H ⟨c, ρ, o, S', hA, hq, p⟩
  obtain ⟨⟨x, S1⟩, h1, h2⟩ := mp hq
  cases h2
  refine ⟨c, ρ, x, S1, hA, h1, fun c1 l k e => ?_⟩
  have q := p c1 l k e
  cases x <;> exact q
end
end M

namespace M
open PySem PySem.Spec L2 W2 RZ

/-! ### defs that errors may leave -/
abbrev FnR := List D → Sto → Option (RX D × Sto)
def mxDef (n : Nat) (g : SxF) : FnR := fun ds S => (g (ds.map some ++ List.replicate (n - ds.length) none) S).bind fun x => match x.1 with
  | .rt d => some (.ok d, x.2)
  | .nx _ => some (.ok .non, x.2)
  | .ex cn fs _ => some (.ex cn fs, x.2)
  | _ => none
def spX (K : PySem.W.Frag) (mg : Str → Option Value) (np : Nat) (F : FnR) : Sp := fun vs H Q E => vs.length = np ∧ ∃ c ds, c.H = H ∧ Ok K mg c ∧ DenA K mg c vs ds ∧ RunX K mg (Den K mg) c (F ds c.S) Q E
structure CalX (P : Program) (w : World) (K : PySem.W.Frag) (mg : Str → Option Value) (base : Heap) (k : Nat) (x : Str) (np : Nat) (F : FnR) : Prop where
  ex : ∃ (f : Addr) (fd : FuncData) (ps : List Str), mg x = some (.ref f) ∧ PySem.W.keepIn K (.ref f) = true ∧ Binds K fd ps [] ∧ FnX P w K mg base k f fd ps (spX K mg np F) ∧ ps.length = np
structure CalXK (P : Program) (w : World) (K : PySem.W.Frag) (mg : Str → Option Value) (base : Heap) (k : Nat) (x p : Str) (F : FnR) : Prop where
  ex : ∃ (f : Addr) (fd : FuncData), mg x = some (.ref f) ∧ PySem.W.keepIn K (.ref f) = true ∧ (∀ (s : Shared) (u : Value), BindsTo s fd ⟨[], [(p, u)]⟩ [(p, u)]) ∧ FnX P w K mg base k f fd [p] (spX K mg 1 F)
section
variable {P : Program} {w : World} {K : PySem.W.Frag} {mg : Str → Option Value} {base : Heap}
theorem defX_ok {x qual : Str} {st : Stmt} {f : Addr} {fd : FuncData} {N ps : List Str} {k : Nat} {g : SxF} (F : Fun K x qual st f fd) (S : FnScope N ps (defScope st))
    (body : ∀ (c : Value) (A : Around) (o : List Env) (s : Shared) (H : Hp) (E : XK), Rm k (A.deeper (PyProof.Rows.envOfC qual (defScope st) s.heap.objs.size f c)) → MXs (cxOf (L2.CX P w) P w K mg base N qual (defScope st) f c A o s H E) (fun cls d _ H' => E cls d H') (defBody st) g) :
    FnX P w K mg base (k + 1) f fd ps (spX K mg ps.length (mxDef N.length g)) := by
  refine fnX_of F S (fun vs H Q E h => h.1) fun c A o s H vs Q E hr h => ⟨_, body c A o s H E hr, ?_⟩
  obtain ⟨hl, cf, ds, rfl, k, D1, r, S', e, p⟩ := h
  obtain ⟨⟨x, S1⟩, h1, q⟩ := bd e
  refine ⟨cf, _, x, S1, .of k (start_en D1), h1, fun c1 l1 k1 e1 => ?_⟩
  cases x with
  | nx ρ' =>
    cases q
    exact fun σ' en' => p c1 l1 k1 e1 _ .non
  | rt d' =>
    cases q
    exact fun v D2 => p c1 l1 k1 e1 v D2
  | bk ρ' => cases q
  | ct ρ' => cases q
  | ex cn fs ρ' =>
    cases q
    exact fun σ' en' => p c1 l1 k1 e1
theorem CalX.mono {k j : Nat} {x : Str} {np : Nat} {F : FnR} (h : CalX P w K mg base k x np F) (l : k ≤ j) : CalX P w K mg base j x np F := by
  obtain ⟨f, fd, ps, a, b, c, d, e⟩ := h.ex
  exact ⟨f, fd, ps, a, b, c, d.mono l, e⟩
theorem calX_mk {x : Str} {st : Stmt} {f : Addr} {fd : FuncData} {ps : List Str} {k np : Nat} {F : FnR} (Z : Fun K x x st f fd) (m : mg x = some (.ref f)) (b : Binds K fd ps []) (hl : ps.length = np) (G : FnX P w K mg base k f fd ps (spX K mg ps.length F)) : CalX P w K mg base k x np F := by
  subst hl
  exact ⟨⟨f, fd, ps, m, Z.kp, b, G, rfl⟩⟩
theorem calXK_mk {x p : Str} {st : Stmt} {f : Addr} {fd : FuncData} {k : Nat} {F : FnR} (Z : Fun K x x st f fd) (m : mg x = some (.ref f)) (b : ∀ (s : Shared) (u : Value), BindsTo s fd ⟨[], [(p, u)]⟩ [(p, u)]) (G : FnX P w K mg base k f fd [p] (spX K mg 1 F)) : CalXK P w K mg base k x p F := ⟨⟨f, fd, m, Z.kp, b, G⟩⟩
/-- where it raises nothing it is a def like the others -/
def okF (F : FnR) : Fn := fun ds S => (F ds S).bind fun x => match x.1 with
  | .ok d => some (d, x.2)
  | _ => none
theorem spX_ok {np : Nat} {F : FnR} {vs : List V} {H : Hp} {Q : VK} {E E' : XK} (h : spM K mg np (okF F) vs H Q E) : spX K mg np F vs H Q E' := by
  obtain ⟨hl, c, ds, d, S', e, k, D1, q, P⟩ := h
  obtain ⟨⟨r, S1⟩, h1, h2⟩ := bd q
  refine ⟨hl, c, ds, e, k, D1, r, S1, h1, fun c1 l1 k1 e1 => ?_⟩
  cases r with
  | ok a =>
    cases h2
    exact fun v D2 => P v c1 l1 k1 e1 D2
  | ex cn fs => cases h2
theorem fnX_toOk {k : Nat} {f : Addr} {fd : FuncData} {ps : List Str} {np : Nat} {F : FnR} (G : FnX P w K mg base k f fd ps (spX K mg np F)) : FnG P w K mg base k f fd ps (spM K mg np (okF F)) :=
  ⟨fun vs H Q E h => G.len vs H Q E (spX_ok h), fun A o s H ar us vs Q E hr he hb hv h => G.run A o s H ar us vs Q E hr he hb hv (spX_ok h)⟩
theorem CalX.ok {k : Nat} {x : Str} {np : Nat} {F : FnR} (h : CalX P w K mg base k x np F) : Cal P w K mg base k x np (okF F) := by
  obtain ⟨f, fd, ps, a, b, c, d, e⟩ := h.ex
  exact ⟨f, fd, ps, a, b, c, fnX_toOk d, e⟩
theorem CalXK.ok {k : Nat} {x p : Str} {F : FnR} (h : CalXK P w K mg base k x p F) : CalK P w K mg base k x p (okF F) := by
  obtain ⟨f, fd, a, b, c, d⟩ := h.ex
  exact ⟨f, fd, a, b, c, fnX_toOk d⟩
end
def mxCall (F : FnR) (fa : RxF (List D)) : RxF D := fun ρ S => bx (fa ρ S) fun ds S1 => F ds S1
def mxKw (F : FnR) (f : EvF) : RxF D := fun ρ S => (f ρ S).bind fun x => F [x.1] x.2
def LenX (n : Nat) (fa : RxF (List D)) : Prop := ∀ ρ S ds S', fa ρ S = some (.ok ds, S') → ds.length = n
theorem lenx_of {n : Nat} {fa : EaF} (h : ∀ ρ S ds S', fa ρ S = some (ds, S') → ds.length = n) : LenX n (xo fa) := by
  intro ρ S ds S' q
  obtain ⟨x, h1, h2⟩ := mp q
  cases h2
  exact h _ _ _ _ h1
theorem lenx_cons {n : Nat} {f : RxF D} {fa : RxF (List D)} (h : LenX n fa) : LenX (n + 1) (mxCons f fa) := by
  intro ρ S ds S' q
  obtain ⟨⟨x, S1⟩, h1, q⟩ := bd q
  cases x with
  | ex cn fs => cases q
  | ok a =>
    obtain ⟨⟨y, S2⟩, h2, q⟩ := bd (show (fa ρ S1).bind _ = some _ from q)
    cases y with
    | ex cn fs => cases q
    | ok b =>
      cases q
      simp [h _ _ _ _ h2]
section
variable {X : Cx} {W : WX} {pos p kpos : Pos} {e : Expr} {es : List Expr} {f : EvF} {fa : RxF (List D)} {k np : Nat} {x y : Str}
theorem mex_call {F : FnR} (C : CalX X.prog X.w X.K X.mg X.base k x np F) (hr : Rm k X.A) (tk : Takes X W) (hg : Gl X x) (ha : MAx X W (e :: es) fa) (hn : LenX np fa)
    (hdb : (x == ("__debug__" : Str)) = false := by decide) (he : starEach (e :: es) X.env = (false, eval e X.env) :: starEach es X.env := by rfl) (hpl : (backTo pos (starEach es X.env)).any (·.1) = false := by rfl) :
    MEx X W (.Call (.Name x p) (e :: es) [] pos) (mxCall F fa) := by
  obtain ⟨f, fd, ps, hm, hk, hb, G, hl⟩ := C.ex
  refine pe_imp (pe_X G hr tk hg hm hk hb ha hdb he hpl) ?_
  rintro σ H Q ⟨c, ρ, ⟨rfl, k, en⟩, r, S', h1, h2⟩
  obtain ⟨⟨ds, S1⟩, h3, h4⟩ := bd h1
  refine ⟨c, ρ, .of k en, ds, S1, h3, fun c1 l1 k1 e1 => ?_⟩
  cases ds with
  | ok ds => exact fun vs D1 => ⟨by rw [D1.length]; exact hn _ _ _ _ h3, c1, ds, rfl, k1, D1, r, S', by rw [e1]; exact h4, fun c2 l2 => h2 c2 (l1.trans l2)⟩
  | ex cn fs =>
    cases h4
    exact h2 c1 l1 k1 e1
theorem mex_callM {F : Fn} (C : Cal X.prog X.w X.K X.mg X.base k x np F) (hr : Rm k X.A) (tk : Takes X W) (hg : Gl X x) (ha : MAx X W (e :: es) fa) (hn : LenX np fa)
    (hdb : (x == ("__debug__" : Str)) = false := by decide) (he : starEach (e :: es) X.env = (false, eval e X.env) :: starEach es X.env := by rfl) (hpl : (backTo pos (starEach es X.env)).any (·.1) = false := by rfl) :
    MEx X W (.Call (.Name x p) (e :: es) [] pos) (mxCallM F fa) := by
  obtain ⟨f, fd, ps, hm, hk, hb, G, hl⟩ := C.ex
  refine pe_imp (pe_X G hr tk hg hm hk hb ha hdb he hpl) ?_
  rintro σ H Q ⟨c, ρ, ⟨rfl, k, en⟩, r, S', h1, h2⟩
  obtain ⟨⟨ds, S1⟩, h3, h4⟩ := bd h1
  refine ⟨c, ρ, .of k en, ds, S1, h3, fun c1 l1 k1 e1 => ?_⟩
  cases ds with
  | ok ds =>
    obtain ⟨z, h5, h6⟩ := mp h4
    cases h6
    exact fun vs D1 => ⟨by rw [D1.length]; exact hn _ _ _ _ h3, c1, ds, z.1, z.2, rfl, k1, D1, by rw [e1]; exact h5, fun v c2 l2 k2 e2 D2 => h2 c2 (l1.trans l2) k2 e2 v D2⟩
  | ex cn fs =>
    cases h4
    exact h2 c1 l1 k1 e1
theorem mex_kw {F : FnR} (C : CalXK X.prog X.w X.K X.mg X.base k x y F) (hr : Rm k X.A) (tk : Takes X W) (hg : Gl X x) (he : ME X e f)
    (hall : (backToKw pos (keywordEach [⟨some y, e, kpos⟩] X.env)).all (·.1.isSome) = true := by rfl) (hks : (backToKw pos (keywordEach [⟨some y, e, kpos⟩] X.env)).filterMap (·.1) = [y] := by rfl)
    (hdb : (x == ("__debug__" : Str)) = false := by decide) (hpl : ((backTo pos (starEach [] X.env)).any (·.1) || (backToKw pos (keywordEach [⟨some y, e, kpos⟩] X.env)).any (·.1.isNone)) = false := by rfl) :
    MEx X W (.Call (.Name x p) [] [⟨some y, e, kpos⟩] pos) (mxKw F f) := by
  obtain ⟨fa, fd, hm, hk, hb, G⟩ := C.ex
  constructor
  rintro pins s σ H Q I ⟨c, ρ, ⟨rfl, k, en⟩, r, S', h1, h2⟩
  obtain ⟨z, h3, h4⟩ := bd h1
  refine wpAny_Call_Name_kw (ld_glob I hg hm ?_ hdb)
  refine PySem.W.callWith_KW0 (h₀ := X.base) I.ok.mod.kin hk hall ?_ hpl
  refine thn ((pk_cons he pk_nil).run pos pins s σ c.H (fun vs H' => spX X.K X.mg 1 F vs H' Q fun cls d H' => W cls d σ H') I ?_) ?_
  · refine ⟨c, ρ, z.1, z.2, .of k en, h3, fun v c1 l1 k1 e1 D1 => ⟨rfl, c1, [z.1], rfl, k1, .cons D1 .nil, r, S', by rw [e1]; exact h4, fun c2 l2 => h2 c2 (l1.trans l2)⟩⟩
  · rintro ws s2 ⟨zs, H2, I2, rz, hsp⟩
    refine ⟨I2.kIn, ?_⟩
    rw [hks]
    have hl := hsp.1
    match zs, rz, hl with
    | [zv], rz, _ =>
      obtain ⟨u, rfl, r1⟩ := vals1 rz
      refine wpAny_call (codeAny_mono (run_X (us := [u]) (vs := [zv]) (ar := ⟨[], [(y, u)]⟩) G hr tk (hb s2 u) I2 rz hsp) fun r s' hq => ?_)
      match r, hq with
      | .error _, hq => exact hq
      | .ok (.ret u), hq => exact hq
end

/-! ### an error's class with one field -/
def spI (C : Addr) (f : Str) : Sp := fun vs H Q _ => ∃ a y, vs = [.ref a, y] ∧ H a = some (exo a C none) ∧ ∀ dx, H dx = none → dx ≠ a → Q .non (upd (upd H dx (exd dx [(f, y)])) a (exo a C (some dx)))
structure Er1 (P : Program) (w : World) (K : PySem.W.Frag) (mg : Str → Option Value) (base : Heap) (cn f : Str) : Prop where
  ex : ∃ (C fI : Addr) (fd : FuncData), mg cn = some (.ref C) ∧ ErC K C ∧ PySem.W.findIn K (.ref C) "__init__" = some (some (.ref fI)) ∧ PySem.W.typeIn K (.ref fI) = some (.type "function") ∧ FnX P w K mg base 1 fI fd ["self", f] (spI C f) ∧ Binds K fd ["self", f] []
theorem init_ok {P : Program} {w : World} {K : PySem.W.Frag} {mg : Str → Option Value} {base : Heap} {x qual : Str} {st : Stmt} {fI C : Addr} {fd : FuncData} {f : Str} {p1 p2 p3 p4 : Pos} (Z : Fun K x qual st fI fd) (S : FnScope ["self", f] ["self", f] (defScope st))
    (hb : defBody st = [.Assign [.Attribute (.Name "self" p1) f p2] (.Name f p3) p4]) (T : ErC K C) (hno : PySem.W.findIn K (.ref C) f = some none) (hfd : (f == ("__debug__" : Str)) = false := by decide) (hcd : (f == ("__classdict__" : Str)) = false := by decide)
    (v1 : Vis (defScope st) "self" := by first | exact Or.inl rfl | exact Or.inr (Or.inl rfl)) (v2 : Vis (defScope st) f := by first | exact Or.inl rfl | exact Or.inr (Or.inl rfl)) : FnX P w K mg base 1 fI fd ["self", f] (spI C f) := by
  refine fnX_of Z S (fun vs H Q E h => ?_) fun c A o s H vs Q E hr h => ?_
  · obtain ⟨a, y, rfl, _⟩ := h; rfl
  · rw [hb]
    refine ⟨_, pss_one (ps_er (pe_var (i := 0) rfl v1 (by decide) (by decide)) (pe_var (i := 1) rfl v2 hfd hcd)), ?_⟩
    obtain ⟨a, y, rfl, ha, hq⟩ := h
    refine ⟨y, rfl, .ref a, rfl, a, C, rfl, T, hno, .inl ⟨ha, fun dx n ne => ?_⟩⟩
    exact hq dx n ne
def mxRaise (cn f : Str) (fe : EvF) : SxF := fun ρ S => (fe ρ S).map fun x => (.ex cn [(f, x.1)] ρ, x.2)
theorem mx_raise {X : Cx} {W : WX} {pos p cpos : Pos} {e : Expr} {fe : EvF} {cn f : Str} (hc : X.calm = true) (tk : Takes X W) (C : Er1 X.prog X.w X.K X.mg X.base cn f) (hr : Rm 2 X.A) (hg : Gl X cn) (ha : ME X e fe)
    (hdb : (cn == ("__debug__" : Str)) = false := by decide) (he : starEach [e] X.env = (false, eval e X.env) :: starEach [] X.env := by rfl) (hpl : (backTo cpos (starEach [] X.env)).any (·.1) = false := by rfl) :
    MX X W (.Raise (some (.Call (.Name cn p) [e] [] cpos)) none pos) (mxRaise cn f fe) := by
  obtain ⟨C, fI, fd, hm, T, iC, tI, F, hb⟩ := C.ex
  refine ps_imp (ps_raise hc tk (pmk_er T iC tI F hr hb hg hm (ma_cons ha ma_nil he) hdb he hpl)) ?_
  rintro Dd σ H ⟨c, ρ, o, S', ⟨rfl, k, en⟩, q, P⟩
  obtain ⟨⟨d, S1⟩, h1, h2⟩ := mp q
  cases h2
  refine ⟨c, ρ, [d], S1, .of k en, one_arg h1, fun vs c1 l1 k1 e1 D1 => ?_⟩
  obtain ⟨v, rfl, D2⟩ := da1 D1
  refine ⟨by show (1 : Nat) ≤ 1000; decide, fun a na => ⟨a, v, rfl, upd_same, fun dx nd ne => ?_⟩⟩
  have nd1 : c1.H dx = none := by rw [upd_ne ne] at nd; exact nd
  have ne' : a ≠ dx := fun z => ne z.symm
  refine ⟨rfl, dx, [(f, v)], upd_same, by rw [upd_ne ne, upd_same], nd1, ?_⟩
  have eH : upd (del (upd (upd (upd c1.H a (exo a C none)) dx (exd dx [(f, v)])) a (exo a C (some dx))) a) dx (.xd [(f, v)]) = upd c1.H dx (.xd [(f, v)]) := by
    funext b
    by_cases hb : b = dx
    · subst hb; rw [upd_same, upd_same]
    · rw [upd_ne hb, upd_ne hb]
      by_cases ha : b = a
      · subst ha; rw [del_same, na]
      · rw [del_ne ha, upd_ne ha, upd_ne hb, upd_ne ha]
  rw [eH]
  have k2 := lay_ok (o := .xd [(f, v)]) k1 nd1
  have l2 := lay_le (c := c1) (o := .xd [(f, v)]) nd1
  refine P (c1.lay dx (.xd [(f, v)])) (l1.trans l2) k2 e1 σ (en.mono (l1.trans l2)) C (some dx) [(f, v)] hm ⟨?_, upd_same⟩ (.cons (D2.mono l2) .nil)
  exact k1.nB nd1

/-! ### try -/
structure HdM where
  sb : Str → Option Bool
  i : Option Nat
  h : StF
def setE (ρ : En) (d : D) : Option Nat → En
  | none => ρ
  | some i => ρ.set i (some d)
def clrE (ρ : En) : Option Nat → En
  | none => ρ
  | some i => ρ.set i none
def outC (i : Option Nat) : Out → OX
  | .nx ρ => .nx (clrE ρ i)
  | .rt d => .rt d
  | .bk ρ => .bk (clrE ρ i)
  | .ct ρ => .ct (clrE ρ i)
def handle : List HdM → Str → Fs → SxF
  | [], cn, fs, ρ, S => some (.ex cn fs ρ, S)
  | l :: r, cn, fs, ρ, S => (l.sb cn).bind fun b => if b = true then (l.h (setE ρ (.err cn fs) l.i) S).map fun x => (outC l.i x.1, x.2) else handle r cn fs ρ S
def mxTry (g : SxF) (hs : List HdM) : SxF := fun ρ S => (g ρ S).bind fun x => match x.1 with
  | .ex cn fs ρ' => handle hs cn fs ρ' x.2
  | o => some (o, x.2)
def clfs (K : PySem.W.Frag) (mg : Str → Option Value) : List HdM → List Value → List ClF
  | l :: r, cv :: cs => ⟨cv, l.i, fun _ _ => tS K mg l.h⟩ :: clfs K mg r cs
  | _, _ => []
/-- what a clause's class says of the classes that may come -/
def SubOk (K : PySem.W.Frag) (mg : Str → Option Value) (sb : Str → Option Bool) (cv : Value) : Prop := ∀ cn b C, sb cn = some b → mg cn = some (.ref C) → PySem.W.exmOne K (.ref C) cv = some b
inductive SubAll (K : PySem.W.Frag) (mg : Str → Option Value) : List HdM → List Value → Prop
  | nil : SubAll K mg [] []
  | cons {sb : Str → Option Bool} {i : Option Nat} {h : StF} {r : List HdM} {cv : Value} {cs : List Value} : SubOk K mg sb cv → SubAll K mg r cs → SubAll K mg (⟨sb, i, h⟩ :: r) (cv :: cs)
theorem handle_go {K : PySem.W.Frag} {mg : Str → Option Value} {W : WX} {Dd : Ends} {c : Cfg} {cn : Str} {fs : Fs} {ρ : En} {σ : L2.St} {C : Addr} {od : Option Addr} {vs : List (Str × V)} {o : OX} {S' : Sto} (k : Ok K mg c) (en : EnD K mg c σ ρ) (hm : mg cn = some (.ref C)) (hx : ErX c od vs) (hd : DenF K mg c vs fs)
    (p : ∀ c', Le c c' → Ok K mg c' → c'.S = S' → OxTo K mg W Dd c' o) : ∀ (hs : List HdM) (cvs : List Value), SubAll K mg hs cvs → handle hs cn fs ρ c.S = some (o, S') → wClF K W Dd (clfs K mg hs cvs) (.ref C) od σ c.H
  | [], [], _, e => by
    cases e
    exact p c (.refl c) k rfl σ en C od vs hm hx hd
  | ⟨sb, hi, h⟩ :: r, cv :: cs, .cons hs hr, e => by
    obtain ⟨b, h1, h2⟩ := bd (show (sb cn).bind _ = some (o, S') from e)
    refine ⟨b, hs cn b C h1 hm, fun hb a oe na hz hf => ?_, fun hb => ?_⟩
    · subst hb
      obtain ⟨⟨x, S1⟩, h3, h4⟩ := mp (show (h (setE ρ (.err cn fs) hi) c.S).map _ = some (o, S') from h2)
      cases h4
      have le := lay_le (c := c) (o := EO a oe) na
      have k2 := lay_ok (o := EO a oe) k na
      have D1 : Den K mg (c.lay a (EO a oe)) (.ref a) (.err cn fs) := by
        refine .err (C := C) (od := od) (vs := vs) (k.nB na) hm (.inr ⟨oe, _, upd_same, hz, hf⟩) ?_ (DenF.mono le hd)
        cases od with
        | none => exact hx
        | some dd => exact ⟨hx.1, .inr ((upd_ne (ne_of_none hx.2 na)).trans hx.2)⟩
      have en2 : EnD K mg (c.lay a (EO a oe)) (setF σ a hi) (setE ρ (.err cn fs) hi) := by
        cases hi with
        | none => exact en.mono le
        | some i => exact (en.mono le).set D1
      show tS K mg h (dropF Dd hi) (setF σ a hi) (upd c.H a (EO a oe))
      refine ⟨c.lay a (EO a oe), _, x, S1, .of k2 en2, h3, fun c3 l3 k3 e3 => ?_⟩
      have q := p c3 (le.trans l3) k3 e3
      cases hi with
      | none => cases x <;> exact q
      | some i =>
        cases x with
        | nx ρ' => exact fun σ' en' => q _ en'.clear
        | rt d => exact q
        | bk ρ' => exact fun σ' en' => q _ en'.clear
        | ct ρ' => exact fun σ' en' => q _ en'.clear
    · subst hb
      exact handle_go k en hm hx hd p r cs hr h2
theorem mx_try {X : Cx} {W : WX} {body : List Stmt} {h₀ : ExceptHandler} {hds : List ExceptHandler} {pos : Pos} {g : SxF} {hs : List HdM} (cvs : List Value) (h1 : X.stack = X.env :: X.outer) (h2 : X.env.frame = some X.env.locals) (h3 : X.N.Nodup) (tk : Takes X W)
    (hb : ∀ (W' : WX) (pn : List (Addr × Obj)) (xe : Value → Shared → Prop), Takes (X.tr pn xe) W' → MXs (X.tr pn xe) W' body g) (hh : ClsOkF X (h₀ :: hds) (clfs X.K X.mg hs cvs)) (hsub : SubAll X.K X.mg hs cvs) : MX X W (.Try body (h₀ :: hds) [] [] pos) (mxTry g hs) := by
  refine ps_imp (ps_tryF (tb := fun W' => tSx X.K X.mg W' g) h1 h2 h3 tk (fun W' pn xe t _ => hb W' pn xe t) hh) ?_
  rintro Dd σ H ⟨c, ρ, o, S', hA, e, p⟩
  obtain ⟨⟨x, S1⟩, q1, q2⟩ := bd e
  refine ⟨c, ρ, x, S1, hA, q1, fun c1 l1 k1 e1 => ?_⟩
  cases x with
  | nx ρ' => cases q2; exact p c1 l1 k1 e1
  | rt d => cases q2; exact p c1 l1 k1 e1
  | bk ρ' => cases q2; exact p c1 l1 k1 e1
  | ct ρ' => cases q2; exact p c1 l1 k1 e1
  | ex cn fs ρ' =>
    intro σ' en' C od vs hm hx hd
    subst e1
    exact handle_go k1 en' hm hx hd (fun c2 l2 => p c2 (l1.trans l2)) hs cvs hsub q2
/-- a try that lets nothing out, among what raises nothing -/
def quS (g : SxF) : StF := fun ρ S => (g ρ S).bind fun x => match x.1 with
  | .nx ρ => some (.nx ρ, x.2)
  | .rt d => some (.rt d, x.2)
  | .bk ρ => some (.bk ρ, x.2)
  | .ct ρ => some (.ct ρ, x.2)
  | .ex _ _ _ => none
theorem ms_quS {X : Cx} {st : Stmt} {g : SxF} (h : MX X (fun _ _ _ _ => False) st g) : MS X st (quS g) := ps_imp h <| by
  rintro Dd σ H ⟨c, ρ, o, S', hA, e, p⟩
  obtain ⟨⟨x, S1⟩, q1, q2⟩ := bd e
  refine ⟨c, ρ, x, S1, hA, q1, fun c1 l1 k1 e1 => ?_⟩
  cases x with
  | nx ρ' => cases q2; exact p c1 l1 k1 e1
  | rt d => cases q2; exact p c1 l1 k1 e1
  | bk ρ' => cases q2; exact p c1 l1 k1 e1
  | ct ρ' => cases q2; exact p c1 l1 k1 e1
  | ex cn fs ρ' => cases q2

/-- what is known of an error's class -/
structure ErF (K : PySem.W.Frag) (mg : Str → Option Value) (cn f : Str) (C : Addr) : Prop where
  m : mg cn = some (.ref C)
  xf : XfC K C
  no : PySem.W.findIn K (.ref C) f = some none
  me : PySem.W.exmOne K (.ref C) (.ref C) = some true
def sbSelf (cn : Str) : Str → Option Bool := fun x => if x = cn then some true else none
theorem subOk_self {K : PySem.W.Frag} {mg : Str → Option Value} {cn f : Str} {C : Addr} (F : ErF K mg cn f C) : SubOk K mg (sbSelf cn) (.ref C) := by
  intro x b C' h hm
  unfold sbSelf at h
  split at h
  · rename_i e
    subst e
    cases h
    rw [F.m] at hm
    cases hm
    exact F.me
  · cases h
theorem names_of {X : Cx} {cn f : Str} {C : Addr} (F : ErF X.K X.mg cn f C) (hg : Gl X cn) (hd : (cn == ("__debug__" : Str)) = false := by decide) : Names X cn (.ref C) := ⟨hg, hd, .inl F.m⟩
/-! ### a field of an error -/
def mAttr (cns : List Str) (n : Str) (f : EvF) : EvF := fun ρ S => (f ρ S).bind fun x => match x.1 with
  | .err cn fs => if cn ∈ cns then (fs.lookup n).map fun d => (d, x.2) else none
  | _ => none
theorem attr_self {K : PySem.W.Frag} {mg : Str → Option Value} {cn f : Str} {C : Addr} (F : ErF K mg cn f C) : ∀ x ∈ [cn], ∀ C', mg x = some (.ref C') → XfC K C' ∧ PySem.W.findIn K (.ref C') f = some none := by
  intro x hx C' hm
  rw [List.mem_singleton.mp hx, F.m] at hm
  cases hm
  exact ⟨F.xf, F.no⟩
theorem me_attr {X : Cx} {e : Expr} {f : EvF} {cns : List Str} {n : Str} {pos : Pos} (T : ∀ cn ∈ cns, ∀ C, X.mg cn = some (.ref C) → XfC X.K C ∧ PySem.W.findIn X.K (.ref C) n = some none) (he : ME X e f) (hb : attributeBase e n X.env (eval e X.env) = eval e X.env := by rfl) :
    ME X (.Attribute e n pos) (mAttr cns n f) := by
  constructor
  rintro pins s σ H Q I ⟨c, ρ, d, S', ⟨rfl, k, en⟩, q, P⟩
  obtain ⟨⟨x, S1⟩, h1, h2⟩ := bd q
  clear q
  cases x <;> try (cases h2)
  rename_i cn fs
  have h3 : (if cn ∈ cns then (fs.lookup n).map fun d => (d, S1) else none) = some (d, S') := h2
  by_cases z : cn ∈ cns
  · rw [if_pos z] at h3
    obtain ⟨d', h4, h5⟩ := mp h3
    cases h5
    refine attr_of hb (thn (he.run pins s σ c.H (fun v H1 => ∃ c1, c1.H = H1 ∧ Le c c1 ∧ Ok X.K X.mg c1 ∧ c1.S = S' ∧ Den X.K X.mg c1 v (.err cn fs)) I ⟨c, ρ, _, S', .of k en, h1, fun v c1 l1 k1 e1 D1 => ⟨c1, rfl, l1, k1, e1, D1⟩⟩) fun u s1 hh => ?_)
    obtain ⟨x, H1, I1, rx, c1, rfl, l1, k1, e1, D1⟩ := hh
    cases D1 with
    | @err a C od vs _ _ nb hm ea ed q =>
      obtain rfl : u = Value.ref a := rx
      obtain ⟨T1, hno⟩ := T cn z C hm
      have hv := DenF.get (n := n) q
      rw [h4] at hv
      obtain ⟨v, l, dv⟩ := hv
      cases od with
      | none => cases ed; cases l
      | some dd =>
        obtain ⟨ndd, ed⟩ := ed
        obtain ⟨mA, hns, hr⟩ : ∃ mA, s1.heap.Ns1 dd mA ∧ ∀ g, RelO (vs.lookup g) (mA g) := by
          rcases ed with ed | ed
          · exact exd_at I1.hok ed
          · exact (show ObjOk X.prog X.w c1.H s1.heap dd (.xd vs) from I1.hok dd _ ed)
        obtain ⟨oe, ha, hz1, hz2, fl, hd⟩ : ∃ oe, s1.heap.get? a = some oe ∧ oe.cls = .ref C ∧ oe.dict = some dd ∧ ∃ w, oe.data = .fields w := by
          rcases ea with ea | ⟨oe, u, ea, hz, hf⟩
          · obtain ⟨t1, ho⟩ := exo_at I1.hok ea
            exact ⟨_, ho, rfl, rfl, _, rfl⟩
          · exact ⟨oe, (I1.hok a _ ea).1, hz.1, hz.2, hf⟩
        obtain ⟨od, ho, hl⟩ := lookIn_ns hns
        have hrn := hr n
        rw [l] at hrn
        obtain ⟨u, hu, ru⟩ := RelO.some_of (v := v) (o := mA n) hrn
        have J : PySem.W.InstAt s1.heap a oe C (some od) := ⟨ha, hz1, by unfold PySem.W.notCls; rw [hd] <;> rfl, by rw [hz2]; exact ho⟩
        exact HandSPX.exc_get I1.kIn J T1.ga T1.gg T1.exC (PySem.W.findObj_own T1.hdC hno rfl (by rw [hl, hu])) (handed_of ru) ⟨v, c1.H, I1.tok _, ru, P v c1 l1 k1 e1 dv⟩
  · rw [if_neg z] at h3; cases h3
theorem _root_.W2.Rg.u1 {A : Around} (h : Rg A) : A.units + 1 < cLine := by have := h.un; omega
end M

namespace M
open PySem PySem.Spec L2 W2 RZ
/-- is True, is False of anything -/
def isE : D → D → Option D := fun a b => match b with
  | .bl y => (match a with
    | .bl x => some (.bl (decide (x = y)))
    | .non => some (.bl false)
    | .int _ => some (.bl false)
    | .str _ => some (.bl false)
    | _ => none)
  | _ => isD a b
theorem od_isE {X : Cx} : OpD X (compareOp .Is) isE := by
  rintro pins s σ H x y v u Q I rx ry ⟨c, a, b, z, rfl, k, Da, Db, e, P⟩
  unfold isE at e
  split at e
  · split at e
    · exact od_is pins s σ _ _ _ v u Q I rx ry ⟨c, _, _, z, rfl, k, Da, Db, e, P⟩
    · cases e; cases Db; cases Da; cases rx; cases ry
      exact PySem.wpAny_is_other rfl (fun q => by cases q) ⟨.bl false, c.H, I, rfl, P.here k (.bl _)⟩
    · cases e; cases Db; cases Da; cases ry
      obtain ⟨t, rfl⟩ := rx
      exact PySem.wpAny_is_other rfl (fun q => by cases q) ⟨.bl false, c.H, I, rfl, P.here k (.bl _)⟩
    · cases e; cases Db; cases Da; cases ry
      obtain ⟨t, rfl⟩ := rx
      exact PySem.wpAny_is_other rfl (fun q => by cases q) ⟨.bl false, c.H, I, rfl, P.here k (.bl _)⟩
    · cases e
  · exact od_is pins s σ _ _ _ v u Q I rx ry ⟨c, _, _, z, rfl, k, Da, Db, e, P⟩
section
variable {X : Cx} {f g : EvF}
theorem mt_din {pos : Pos} {ek ed : Expr} (hr : X.A.units + 1 < cLine) (hk : ME X ek g) (hd : ME X ed f) (hm : behindInMarks .In ed = false := by rfl) : MT X (.Compare ek [.In] [ed] pos) (mTv (mDIn g f)) := by
  have go : ∀ σ H Q, tM X.K X.mg (mDIn g f) σ H Q → tDIn (tM X.K X.mg g) (tM X.K X.mg f) σ H Q := by
    rintro σ H Q ⟨c, ρ, d, S', ⟨rfl, k, en⟩, q, p⟩
    obtain ⟨⟨y, S1⟩, h1, q⟩ := bd q
    obtain ⟨⟨x, S2⟩, h2, q⟩ := bd q
    obtain ⟨kvs, h3, q⟩ := bd q
    obtain ⟨kk, h4, q⟩ := mp q
    cases q
    refine ⟨c, ρ, y, S1, .of k en, h1, fun v c1 l1 k1 e1 D1 => ⟨c1, ρ, x, S2, .of k1 (en.mono l1), by rw [e1]; exact h2, fun u c2 l2 k2 e2 D2 => ?_⟩⟩
    subst e2
    obtain ⟨pp, vs, rfl, hv, t⟩ := dct_go k2 D2 h3
    have a := den_gv (k := kk) t
    have ky := key_go D1 h4
    subst ky
    refine ⟨pp, valV vs kk, rfl, .k hv, ?_⟩
    have : (valV vs kk).isSome = (gv kvs kk).isSome := by
      cases eg : gv kvs kk with
      | none => rw [eg] at a; rw [a]; rfl
      | some w => rw [eg] at a; obtain ⟨wv, g1, _⟩ := a; rw [g1]; rfl
    rw [this]
    exact p.mono (l1.trans l2) |>.here k2 (.bl _)
  exact mt_of (pt_cmp (pc_din hr hk hd) hm) go
end
end M

namespace M
open PySem L2
section
variable {a b c d e f g h : D} {xs : List D}
theorem at0 : atI (a :: xs) 0 = some a := atI_nat (j := 0) rfl
theorem at1 : atI (a :: b :: xs) 1 = some b := atI_nat (j := 1) rfl
theorem at2 : atI (a :: b :: c :: xs) 2 = some c := atI_nat (j := 2) rfl
theorem at3 : atI (a :: b :: c :: d :: xs) 3 = some d := atI_nat (j := 3) rfl
theorem at4 : atI (a :: b :: c :: d :: e :: xs) 4 = some e := atI_nat (j := 4) rfl
theorem at5 : atI (a :: b :: c :: d :: e :: f :: xs) 5 = some f := atI_nat (j := 5) rfl
theorem at6 : atI (a :: b :: c :: d :: e :: f :: g :: xs) 6 = some g := atI_nat (j := 6) rfl
theorem at7 : atI (a :: b :: c :: d :: e :: f :: g :: h :: xs) 7 = some h := atI_nat (j := 7) rfl
end
def iI : D → Bool
  | .int _ => true
  | .bl _ => true
  | _ => false
def iB : D → Bool
  | .bl _ => true
  | _ => false
def iS : D → Bool
  | .str _ => true
  | _ => false
def iT : D → Bool
  | .tup _ => true
  | _ => false
def sg (c : Nat) : D := .str ⟨#[c]⟩
theorem mapL_filter {te : EvF} {tt : EtF} {j : Nat} {ρ : En} {S : Sto} {p : Nat → Bool} : ∀ cs : List Nat, (∀ c ∈ cs, tt (ρ.set j (some (sg c))) S = some (p c, S) ∧ te (ρ.set j (some (sg c))) S = some (sg c, S)) →
    mapL te tt j ρ (cs.map sg) S = some ((cs.filter p).map sg, S)
  | [], _ => rfl
  | c :: cs, hh => by
    obtain ⟨h1, h2⟩ := hh c List.mem_cons_self
    have ih := mapL_filter cs fun x hx => hh x (List.mem_cons_of_mem _ hx)
    rw [List.map_cons]
    unfold mapL
    rw [h1]
    show (if p c = true then _ else _) = _
    cases e : p c with
    | true =>
      rw [if_pos rfl, h2]
      show Option.map _ (mapL te tt j ρ (cs.map sg) S) = _
      rw [ih, List.filter_cons, e]
      rfl
    | false =>
      rw [if_neg (by simp), List.filter_cons, e]
      exact ih
theorem toPA_sg : ∀ cs : List Nat, toPA (cs.map sg) = some (cs.map fun c => PyData.str ⟨#[c]⟩)
  | [] => by rw [List.map_nil, toPA]; rfl
  | c :: cs => by
    rw [List.map_cons, toPA, toPA_sg cs]
    show (toP (.str ⟨#[c]⟩)).bind _ = _
    rw [toP]
    rfl
theorem lay_sg : ∀ {cs : List Nat}, (∀ c ∈ cs, c < 1114112) → PyData.canLayAll0 (cs.map fun c => PyData.str ⟨#[c]⟩) = true ∧ PyData.depthAll (cs.map fun c => PyData.str ⟨#[c]⟩) = 0
  | [], _ => ⟨by rw [List.map_nil, PyData.canLayAll0], by rw [List.map_nil, PyData.depthAll]⟩
  | c :: cs, h => by
    obtain ⟨h1, h2⟩ := lay_sg fun x hx => h x (List.mem_cons_of_mem _ hx)
    have hc := h c List.mem_cons_self
    refine ⟨?_, ?_⟩
    · rw [List.map_cons, PyData.canLayAll0, h1, PyData.canLay0]
      simp [PyData.strOk, hc]
    · rw [List.map_cons, PyData.depthAll, h2, PyData.depth] <;> simp
theorem eq_nil {cs : List Nat} (h : ∀ c ∈ cs, c < 1114112) : eqD (.lst (cs.map sg)) (.lst []) = some (.bl cs.isEmpty) := by
  show eqD0 _ _ = _
  unfold eqD0
  rw [toP, toPA_sg, toP, toPA]
  obtain ⟨h1, h2⟩ := lay_sg h
  have s1 : SeqAt.shaped (.list (cs.map fun c => PyData.str ⟨#[c]⟩)) = true := by
    unfold SeqAt.shaped
    rw [PyData.canLay0, h1, PyData.depth, h2]
    rfl
  have s2 : SeqAt.shaped (.list []) = true := by decide +kernel
  show (if SeqAt.shaped (.list _) = true ∧ SeqAt.shaped (.list []) = true then some (D.bl (PyData.eqv (.list _) (.list []))) else none) = _
  rw [if_pos ⟨s1, s2⟩]
  cases cs with
  | nil => rw [List.map_nil, PyData.eqv, PyData.eqvAll]; rfl
  | cons c cs => rw [List.map_cons, PyData.eqv, PyData.eqvAll]; rfl
theorem e_ninS {x y : Str} : ninD (.str x) (.str y) = if x.cps.size = 1 then some (.bl (!decide (x.cps.getD 0 0 ∈ y.cps.toList))) else none := by
  unfold ninD
  show (match (if x.cps.size = 1 then some (D.bl (decide (x.cps.getD 0 0 ∈ y.cps.toList))) else none) with | some (.bl x) => some (D.bl (!x)) | _ => none) = _
  split <;> rename_i h <;> split at h <;> simp_all
theorem filter_empty {p : Nat → Bool} {cs : List Nat} : (cs.filter p).isEmpty = cs.all fun c => !p c := by
  induction cs with
  | nil => rfl
  | cons c cs ih =>
    rw [List.filter_cons, List.all_cons, ← ih]
    cases p c <;> simp
end M

namespace M
open PySem L2
theorem atI_mem {α : Type} {xs : List α} {r : Int} (h0 : 0 ≤ r) (h1 : r < xs.length) : ∃ d, atI xs r = some d ∧ d ∈ xs := by
  obtain ⟨n, rfl⟩ := Int.eq_ofNat_of_zero_le h0
  have hn : n < xs.length := by omega
  exact ⟨xs[n], atI_nat (List.getElem?_eq_getElem hn), List.getElem_mem hn⟩
theorem wp_at {α : Type} {xs : List α} {r : Int} {Q : α → Prop} (h0 : 0 ≤ r) (h1 : r < xs.length) (h : ∀ d ∈ xs, Q d) : wp (atI xs r) Q := by
  obtain ⟨d, e, m⟩ := atI_mem h0 h1
  exact ⟨d, e, h d m⟩
theorem app_list (a b : Str) : (a ++ b).cps.toList = a.cps.toList ++ b.cps.toList := by
  show (a.cps ++ b.cps).toList = _
  simp
theorem join_empty : ∀ ys : List Str, (Txt.join ("" : Str) ys).cps.toList = (ys.map fun y => y.cps.toList).flatten := by
  intro ys
  rw [show Txt.join ("" : Str) ys = Str.join ("" : Str) ys from TL.join_eq _ _]
  induction ys with
  | nil => rfl
  | cons x r ih =>
    cases r with
    | nil => simp [Str.join]
    | cons z r =>
      show (x ++ ("" : Str) ++ Str.join ("" : Str) (z :: r)).cps.toList = _
      rw [app_list, app_list, ih]
      have : ("" : Str).cps.toList = [] := by decide +kernel
      rw [this]
      simp
theorem strsOf_map : ∀ cs : List Nat, strsOf (cs.map sg) = some (cs.map fun c => (⟨#[c]⟩ : Str))
  | [] => rfl
  | c :: cs => by
    show (strsOf (cs.map sg)).map _ = _
    rw [strsOf_map cs]
    rfl
theorem join_sg (cs : List Nat) : (Txt.join ("" : Str) (cs.map fun c => (⟨#[c]⟩ : Str))).cps.toList = cs := by
  rw [join_empty, List.map_map]
  induction cs with
  | nil => rfl
  | cons c cs ih =>
    rw [List.map_cons, List.flatten_cons, ih]
    rfl
theorem e_join {S : Sto} {cs : List Nat} (h : cs.length ≤ 1000000) : ∃ x, joinD S (.str "") (.lst (cs.map sg)) = some (.str x) ∧ x.cps.toList = cs := by
  refine ⟨Txt.join ("" : Str) (cs.map fun c => (⟨#[c]⟩ : Str)), ?_, join_sg cs⟩
  show (strsOf (cs.map sg)).bind _ = _
  rw [strsOf_map]
  have e : ((cs.map fun c => (⟨#[c]⟩ : Str)).map (·.length)).sum = cs.length := by
    rw [List.map_map]
    clear h
    induction cs with
    | nil => rfl
    | cons c cs ih =>
      rw [List.map_cons, List.sum_cons, ih]
      show 1 + cs.length = cs.length + 1
      omega
  have e2 : ("" : Str).length = 0 := by decide +kernel
  show (if _ then _ else _) = _
  rw [if_pos]
  rw [e, e2]
  omega
theorem foldl_app_list : ∀ (l : List (Array Nat)) (a : Array Nat), (l.foldl (· ++ ·) a).toList = a.toList ++ (l.map (·.toList)).flatten
  | [], a => by simp
  | x :: l, a => by
    rw [List.foldl_cons, foldl_app_list l]
    simp
theorem smul_list (x : Str) (n : Nat) : (smul x n).cps.toList = (List.replicate n x.cps.toList).flatten := by
  show ((List.replicate n x.cps).foldl (· ++ ·) #[]).toList = _
  rw [foldl_app_list]
  simp [List.map_replicate]
theorem len_list (x : Str) : x.length = x.cps.toList.length := by simp [Str.length]
theorem e_mulS {a : Str} {b : Int} (h1 : 1 ≤ b) (h2 : b ≤ 1000000) (h3 : a.length * b.toNat ≤ 1000000) : ∃ x, mulD (.str a) (.int b) = some (.str x) ∧ x.cps.toList = (List.replicate b.toNat a.cps.toList).flatten := by
  have e : mulD (.str a) (.int b) = if 1 ≤ b ∧ b ≤ 1000000 ∧ a.length * b.toNat ≤ 1000000 then some (.str (if b = 1 ∨ a.length = 0 then a else smul a b.toNat)) else if b ≤ 0 ∧ -1000000 ≤ b then some (.str Str.empty) else none := rfl
  rw [e, if_pos ⟨h1, h2, h3⟩]
  refine ⟨_, rfl, ?_⟩
  by_cases z : b = 1 ∨ a.length = 0
  · rw [if_pos z]
    rcases z with z | z
    · rw [z]; simp
    · have : a.cps.toList = [] := by
        rw [len_list] at z
        exact List.length_eq_zero_iff.mp z
      rw [this]
      simp
  · rw [if_neg z, smul_list]
theorem flat_all {p : Nat → Bool} {l : List Nat} (n : Nat) (h : l.all p = true) : (List.replicate n l).flatten.all p = true := by
  induction n with
  | zero => rfl
  | succ n ih => rw [List.replicate_succ, List.flatten_cons, List.all_append, h, ih]; rfl
theorem flat_len {l : List Nat} (n : Nat) : (List.replicate n l).flatten.length = n * l.length := by
  induction n with
  | zero => simp
  | succ n ih => rw [List.replicate_succ, List.flatten_cons, List.length_append, ih, Nat.add_mul]; omega
theorem okS_of {x : Str} (h : x.cps.toList.all sgn = true) : okS x = true := by
  unfold okS
  rw [List.all_eq_true] at h ⊢
  intro c hc
  have := h c hc
  unfold sgn at this
  simp at this ⊢
  omega
end M

namespace M
open PySem L2
section
variable {ρ : En} {S : Sto} {Q : D × Sto → Prop} {B : Bool × Sto → Prop} {O : Out × Sto → Prop} {f g h : EvF} {t : EtF} {fa : EaF} {s1 s2 : StF}
theorem w_app : wp (mApp f g ρ S) Q ↔ wp (f ρ S) fun x => wp (match x.1 with
  | .ref j => (stLst x.2 j).bind fun _ => (g ρ x.2).bind fun y => (stLst y.2 j).bind fun xs => if xs.length < 100000 then some (.non, y.2.set j (.lst (xs ++ [y.1]))) else none
  | _ => none) Q := by unfold mApp; rw [wp_bind] <;> exact Iff.rfl
theorem w_ext : wp (mExt f g ρ S) Q ↔ wp (f ρ S) fun x => wp (match x.1 with
  | .ref j => (stLst x.2 j).bind fun _ => (g ρ x.2).bind fun y => match y.1 with
    | .lst zs => (stLst y.2 j).bind fun xs => if xs.length + zs.length < 100000 then some (.non, y.2.set j (.lst (xs ++ zs))) else none
    | _ => none
  | _ => none) Q := by unfold mExt; rw [wp_bind] <;> exact Iff.rfl
theorem w_pop : wp (mPop f ρ S) Q ↔ wp (f ρ S) fun x => wp (match x.1 with
  | .ref j => (stLst x.2 j).bind fun xs => (xs[xs.length - 1]?).map fun d => (d, x.2.set j (.lst xs.dropLast))
  | _ => none) Q := by unfold mPop; rw [wp_bind] <;> exact Iff.rfl
theorem w_tr : wp (mTr f ρ S) B ↔ wp (f ρ S) fun x => wp (truD x.2 x.1) fun b => B (b, x.2) := by unfold mTr; simp only [wp_bind, wp_map]
theorem w_newc {op : CbF} : wp (mNewC op fa ρ S) Q ↔ wp (fa ρ S) fun x => wp (op x.2 x.1) fun z => wp (match z with
  | .lst ds => some (.ref x.2.length, x.2 ++ [.lst ds])
  | _ => none) Q := by unfold mNewC; simp only [wp_bind] <;> exact Iff.rfl
theorem w_s1 {k : Str → Str → Str} : wp (mS1 k f h ρ S) Q ↔ wp (f ρ S) fun x => wp (match x.1 with
  | .str a => (h ρ x.2).bind fun y => match y.1 with
    | .str b => if a.length ≤ 1000000 then some (.str (k a b), y.2) else none
    | _ => none
  | _ => none) Q := by unfold mS1; rw [wp_bind] <;> exact Iff.rfl
theorem w_repl {y z : Str} : wp (mRepl y z f ρ S) Q ↔ wp (f ρ S) fun x => wp (match x.1 with
  | .str a => if a.length + (a.length + 1) * z.length ≤ 16777216 then some (.str (Txt.replace a y z), x.2) else none
  | _ => none) Q := by unfold mRepl; rw [wp_bind] <;> exact Iff.rfl
theorem w_mu {op : D → Option D} : wp (mU op f ρ S) Q ↔ wp (f ρ S) fun x => wp (op x.1) fun z => Q (z, x.2) := by unfold mU; simp only [wp_bind, wp_map]
theorem w_addn : wp (mAddN f g ρ S) Q ↔ wp (f ρ S) fun x => wp (g ρ x.2) fun y => wp (match x.1, y.1 with
  | .lst a, .lst b => if a.length + b.length ≤ 100000 then some (.ref y.2.length, y.2 ++ [.lst (a ++ b)]) else none
  | _, _ => none) Q := by unfold mAddN; simp only [wp_bind] <;> exact Iff.rfl
theorem w_dget : wp (mDGet f g ρ S) Q ↔ wp (f ρ S) fun x => wp (g ρ x.2) fun y => wp (dctOf y.2 x.1) fun kvs => wp (keyOf y.1) fun k => wp (gv kvs k) fun d => Q (d, y.2) := by unfold mDGet; simp only [wp_bind, wp_map]
theorem w_din : wp (mDIn g f ρ S) Q ↔ wp (g ρ S) fun y => wp (f ρ y.2) fun x => wp (dctOf x.2 x.1) fun kvs => wp (keyOf y.1) fun k => Q (.bl (gv kvs k).isSome, x.2) := by unfold mDIn; simp only [wp_bind, wp_map]
theorem w_dget2 : wp (mDGet2 f g h ρ S) Q ↔ wp (f ρ S) fun x => wp (dctOf x.2 x.1) fun _ => wp (g ρ x.2) fun y => wp (h ρ y.2) fun z => wp (dctOf z.2 x.1) fun kvs => wp (keyOf y.1) fun k => Q ((gv kvs k).getD z.1, z.2) := by unfold mDGet2; simp only [wp_bind, wp_map]
theorem w_dictn : wp (mDictN fa ρ S) Q ↔ wp (fa ρ S) fun x => wp (dictP x.2 x.1) fun z => wp (match z with
  | .dct kvs => some (.ref x.2.length, x.2 ++ [.dct kvs])
  | _ => none) Q := by unfold mDictN; simp only [wp_bind] <;> exact Iff.rfl
theorem w_asgs {g : TgSF} : wp (mAsgS f g ρ S) O ↔ wp (f ρ S) fun x => wp (g ρ x.2 x.1) fun r => O (.nx r.1, r.2) := by unfold mAsgS; simp only [wp_bind, wp_map]
theorem w_attr {cns : List Str} {n : Str} : wp (mAttr cns n f ρ S) Q ↔ wp (f ρ S) fun x => wp (match x.1 with
  | .err cn fs => if cn ∈ cns then (fs.lookup n).map fun d => (d, x.2) else none
  | _ => none) Q := by unfold mAttr; rw [wp_bind] <;> exact Iff.rfl
/-! ### what may raise -/
section
variable {α β : Type} {W : RX β × Sto → Prop} {V : RX α × Sto → Prop} {P : OX × Sto → Prop} {g1 g2 : SxF} {fx fy : RxF D} {ax : RxF (List D)} {tx : RxF Bool}
theorem w_xo {u : En → Sto → Option (α × Sto)} : wp (xo u ρ S) V ↔ wp (u ρ S) fun x => V (.ok x.1, x.2) := by unfold xo; simp only [wp_map]
theorem w_lx : wp (lx s1 ρ S) P ↔ wp (s1 ρ S) fun x => P (outX x.1, x.2) := by unfold lx; simp only [wp_map]
theorem w_bx {o : Option (RX α × Sto)} {k : α → Sto → Option (RX β × Sto)} : wp (bx o k) W ↔ wp o fun x => wp (match x.1 with
  | .ok a => k a x.2
  | .ex cn fs => some (.ex cn fs, x.2)) W := by unfold bx; rw [wp_bind] <;> exact Iff.rfl
theorem w_sxr {o : Option (RX α × Sto)} {k : α → Sto → Option (OX × Sto)} : wp (sxR ρ o k) P ↔ wp o fun x => wp (match x.1 with
  | .ok a => k a x.2
  | .ex cn fs => some (.ex cn fs ρ, x.2)) P := by unfold sxR; rw [wp_bind] <;> exact Iff.rfl
theorem w_xdef {n : Nat} {ds : List D} {W : RX D × Sto → Prop} : wp (mxDef n g1 ds S) W ↔ wp (g1 (ds.map some ++ List.replicate (n - ds.length) none) S) fun x => wp (match x.1 with
  | .rt d => some (.ok d, x.2)
  | .nx _ => some (.ok .non, x.2)
  | .ex cn fs _ => some (.ex cn fs, x.2)
  | _ => none) W := by unfold mxDef; simp only [wp_bind] <;> exact Iff.rfl
theorem w_xseq : wp (mxSeq g1 g2 ρ S) P ↔ wp (g1 ρ S) fun x => wp (match x.1 with | .nx r => g2 r x.2 | o => some (o, x.2)) P := by unfold mxSeq; simp only [wp_bind] <;> exact Iff.rfl
theorem w_xraise {cn n : Str} : wp (mxRaise cn n f ρ S) P ↔ wp (f ρ S) fun x => P (.ex cn [(n, x.1)] ρ, x.2) := by unfold mxRaise; simp only [wp_map]
theorem w_xtry {hs : List HdM} : wp (mxTry g1 hs ρ S) P ↔ wp (g1 ρ S) fun x => wp (match x.1 with
  | .ex cn fs r => handle hs cn fs r x.2
  | o => some (o, x.2)) P := by unfold mxTry; simp only [wp_bind] <;> exact Iff.rfl
theorem w_qus : wp (quS g1 ρ S) O ↔ wp (g1 ρ S) fun x => wp (match x.1 with
  | .nx ρ => some (.nx ρ, x.2)
  | .rt d => some (.rt d, x.2)
  | .bk ρ => some (.bk ρ, x.2)
  | .ct ρ => some (.ct ρ, x.2)
  | .ex _ _ _ => none) O := by unfold quS; simp only [wp_bind] <;> exact Iff.rfl
theorem w_okf {F : FnR} {ds : List D} : wp (okF F ds S) Q ↔ wp (F ds S) fun x => wp (match x.1 with
  | .ok d => some (d, x.2)
  | _ => none) Q := by unfold okF; simp only [wp_bind] <;> exact Iff.rfl
theorem w_xkw {F : FnR} {W : RX D × Sto → Prop} : wp (mxKw F f ρ S) W ↔ wp (f ρ S) fun x => wp (F [x.1] x.2) W := by unfold mxKw; simp only [wp_bind] <;> exact Iff.rfl
end
/-- a while by an invariant and a measure -/
theorem wp_whl {t : EtF} {g : StF} {O : Out × Sto → Prop} (W : Nat → En → Sto → Prop)
    (hs : ∀ m ρ S, W m ρ S → wp (t ρ S) fun b => if b.1 = true then 0 < m ∧ wp (g ρ b.2) fun x => match x.1 with
      | .nx r => ∃ m', m' < m ∧ W m' r x.2
      | .ct r => ∃ m', m' < m ∧ W m' r x.2
      | .bk r => O (.nx r, x.2)
      | .rt v => O (.rt v, x.2) else O (.nx ρ, b.2)) : ∀ (n m : Nat) (ρ : En) (S : Sto), m < n → W m ρ S → wp (whl t g n ρ S) O
  | 0, m, ρ, S, l, w => absurd l (Nat.not_lt_zero m)
  | n + 1, m, ρ, S, l, w => by
    unfold whl
    rw [wp_bind]
    refine wp_mono (hs m ρ S w) fun b q => ?_
    rw [wp_ite]
    by_cases z : b.1 = true
    · rw [if_pos z] at q ⊢
      rw [wp_bind]
      refine wp_mono q.2 fun x q2 => ?_
      obtain ⟨x, S1⟩ := x
      cases x with
      | nx r =>
        obtain ⟨m', hm, w'⟩ := q2
        exact wp_whl W hs n m' r S1 (by omega) w'
      | ct r =>
        obtain ⟨m', hm, w'⟩ := q2
        exact wp_whl W hs n m' r S1 (by omega) w'
      | bk r => exact wp_some.mpr q2
      | rt v => exact wp_some.mpr q2
    · rw [if_neg z] at q ⊢
      exact wp_some.mpr q
theorem stLst_of {S : Sto} {j : Nat} {xs : List D} (h : S[j]? = some (.lst xs)) : stLst S j = some xs := by unfold stLst; rw [h]
end
end M

namespace M
open PySem PySem.Spec L2 W2 RZ

/-! ### a statement that is never reached -/
def mNone : StF := fun _ _ => none
theorem ms_none {X : Cx} {st : Stmt} : MS X st mNone := ⟨fun pins s σ H D I q => by
  obtain ⟨c, ρ, o, S', _, q, _⟩ := q
  cases q⟩

/-! ### lists, also of the store -/
def lsOf (S : Sto) : D → Option (List D)
  | .lst xs => some xs
  | .ref j => stLst S j
  | _ => none
def sqOf (S : Sto) : D → Option (List D)
  | .lst xs => some xs
  | .tup xs => some xs
  | .ref j => stLst S j
  | _ => none
theorem stLst_get {S : Sto} {j : Nat} {xs : List D} (h : stLst S j = some xs) : S[j]? = some (.lst xs) := by
  unfold stLst at h
  split at h
  · cases h; assumption
  · cases h
section
variable {K : PySem.W.Frag} {mg : Str → Option Value} {c : Cfg}
theorem den_ls (k : Ok K mg c) {v : V} {d : D} {xs : List D} (D1 : Den K mg c v d) (h : lsOf c.S d = some xs) : ∃ a vs, v = .ref a ∧ Rd c.H a (.lst vs) ∧ DenA K mg c vs xs := by
  cases d <;> try (cases h)
  · cases D1 with
    | lst s t => exact ⟨_, _, rfl, s.2, t⟩
  · rename_i j
    cases D1 with
    | ref hj =>
      obtain ⟨vs, hv, t⟩ := k.at_ _ _ (stLst_get h)
      exact ⟨_, _, rfl, .inl hv, t⟩
end

/-! ### what two values give, by the store -/
def r2S (K : PySem.W.Frag) (mg : Str → Option Value) (op : Sto → D → D → Option D) : R2 := fun x y H Q => ∃ c a b z, c.H = H ∧ Ok K mg c ∧ Den K mg c x a ∧ Den K mg c y b ∧ op c.S a b = some z ∧ Post K mg c c.S z Q
abbrev OpS (X : Cx) (fn : Value → Value → Sem Value) (op : Sto → D → D → Option D) : Prop := OpR X fn (r2S X.K X.mg op)
def mBinS (op : Sto → D → D → Option D) (f g : EvF) : EvF := fun ρ S => (f ρ S).bind fun x => (g ρ x.2).bind fun y => (op y.2 x.1 y.1).map fun z => (z, y.2)
section
variable {X : Cx} {a b : Expr} {f g : EvF} {pos : Pos} {op : Sto → D → D → Option D}
theorem opS_go {σ : L2.St} {H : Hp} {Q : VK} (q : tM X.K X.mg (mBinS op f g) σ H Q) : tOp (r2S X.K X.mg op) (tM X.K X.mg f) (tM X.K X.mg g) σ H Q := by
  obtain ⟨c, ρ, d, S', ⟨rfl, k, en⟩, q, p⟩ := q
  obtain ⟨x, h1, q⟩ := bd q
  obtain ⟨y, h2, q⟩ := bd q
  obtain ⟨z, h3, q⟩ := mp q
  cases q
  refine ⟨c, ρ, x.1, x.2, .of k en, h1, fun v c1 l1 k1 e1 D1 => ?_⟩
  refine ⟨c1, ρ, y.1, y.2, .of k1 (en.mono l1), by rw [e1]; exact h2, fun w c2 l2 k2 e2 D2 => ?_⟩
  exact ⟨c2, x.1, y.1, d, rfl, k2, D1.mono l2, D2, by rw [e2]; exact h3, by rw [e2]; exact p.mono (l1.trans l2)⟩
theorem me_binS {o : Operator} (ho : OpS X (binaryOp o) op) (ha : ME X a f) (hb : ME X b g) : ME X (.BinOp a o b pos) (mBinS op f g) :=
  pe_imp (pe_op ho ha hb) fun _ _ _ => opS_go
theorem me_cmpS {o : CmpOp} (ho : OpS X (compareOp o) op) (ha : ME X a f) (hb : ME X b g) (hm : behindInMarks o b = false) : ME X (.Compare a [o] [b] pos) (mBinS op f g) :=
  pe_imp (pe_cmpR ho ha hb hm) fun _ _ _ => opS_go
theorem mt_cmpS {o : CmpOp} (ho : OpS X (compareOp o) op) (ha : ME X a f) (hb : ME X b g) (hm : behindInMarks o b = false) : MT X (.Compare a [o] [b] pos) (mTv (mBinS op f g)) :=
  mt_of (pt_cmpR ho ha hb hm) fun _ _ _ => opS_go
end
/-- + of lists, one of which may be a thing of the store -/
def addS (S : Sto) (a b : D) : Option D := (lsOf S a).bind fun xs => (lsOf S b).bind fun ys => if xs.length + ys.length ≤ 100000 then some (.lst (xs ++ ys)) else none
theorem od_addS {X : Cx} : OpS X (binaryOp .Add) addS := by
  rintro pins s σ H x y v u Q I rx ry ⟨c, a, b, z, rfl, k, Da, Db, e, P⟩
  unfold addS at e
  obtain ⟨i, h1, e⟩ := bd e
  obtain ⟨j, h2, e⟩ := bd e
  by_cases l : i.length + j.length ≤ 100000
  · rw [if_pos l] at e; cases e
    obtain ⟨p1, vs1, rfl, s1, t1⟩ := den_ls k Da h1
    obtain ⟨p2, vs2, rfl, s2, t2⟩ := den_ls k Db h2
    obtain ⟨z1, its, n, r, g⟩ := s1.ok I.hok
    obtain ⟨z2, its2, n2, r2, g2⟩ := s2.ok I.hok
    cases rx
    cases ry
    have q1 := r.length
    have q2 := r2.length
    have q3 := t1.length
    have q4 := t2.length
    refine PySem.P.add_list g g2 ?_ (by rw [List.size_toArray, List.size_toArray, sizeLine_eq]; omega)
    rw [show its.toArray ++ its2.toArray = (its ++ its2).toArray by simp]
    exact ⟨.ref _, _, I.lnew (t' := s.toks) (r.append r2) (by rw [List.length_append, sizeLine_eq]; omega), rfl, post_lst P k (t1.app t2) _ I.fresh⟩
  · rw [if_neg l] at e; cases e

/-! ### equality that looks into the store -/
mutual
def toPS (S : Sto) : D → Option PyData
  | .non => some .none
  | .bl b => some (.bool b)
  | .int i => some (.int i)
  | .str x => some (.str x)
  | .lst ds => (toPSA S ds).map .list
  | .tup ds => (toPSA S ds).map .tuple
  | .ref j => (stLst S j).bind fun ds => (toPA ds).map .list
  | .dct _ => none
  | .fn _ => none
  | .ty _ => none
  | .seq _ => none
  | .cls _ => none
  | .err _ _ => none
def toPSA (S : Sto) : List D → Option (List PyData)
  | [] => some []
  | d :: ds => (toPS S d).bind fun x => (toPSA S ds).map fun r => x :: r
end
section
variable {X : Cx}
mutual
theorem den_dpS {K : PySem.W.Frag} {mg : Str → Option Value} {c : Cfg} (k : Ok K mg c) : ∀ {d : D} {v : V} {x : PyData}, Den K mg c v d → toPS c.S d = some x → Dp K c.H v x
  | .non, _, _, h, e => by cases h; rw [toPS] at e; cases e; exact .non
  | .bl b, _, _, h, e => by cases h; rw [toPS] at e; cases e; exact .bl b
  | .int b, _, _, h, e => by cases h; rw [toPS] at e; cases e; exact .int b
  | .str b, _, _, h, e => by cases h; rw [toPS] at e; cases e; exact .str b
  | .lst ds, _, _, h, e => by
    cases h with
    | lst s t =>
      rw [toPS] at e
      obtain ⟨xs, e1, rfl⟩ := mp e
      exact .lst s.get (den_dpSA k t e1)
  | .tup ds, _, _, h, e => by
    cases h with
    | tup s t =>
      rw [toPS] at e
      obtain ⟨xs, e1, rfl⟩ := mp e
      exact .tup s.get (den_dpSA k t e1)
  | .ref j, _, _, h, e => by
    rw [toPS] at e
    obtain ⟨ds, e0, e⟩ := bd e
    obtain ⟨xs, e1, rfl⟩ := mp e
    cases h with
    | ref hj =>
      obtain ⟨vs, hv, t⟩ := k.at_ _ _ (stLst_get e0)
      exact .lst (.inl (.inl hv)) (den_dpA t e1)
  | .dct _, _, _, _, e => by rw [toPS] at e; cases e
  | .fn _, _, _, _, e => by rw [toPS] at e; cases e
  | .ty _, _, _, _, e => by rw [toPS] at e; cases e
  | .seq _, _, _, _, e => by rw [toPS] at e; cases e
  | .cls _, _, _, _, e => by rw [toPS] at e; cases e
  | .err _ _, _, _, _, e => by rw [toPS] at e; cases e
theorem den_dpSA {K : PySem.W.Frag} {mg : Str → Option Value} {c : Cfg} (k : Ok K mg c) : ∀ {ds : List D} {vs : List V} {xs : List PyData}, DenA K mg c vs ds → toPSA c.S ds = some xs → DpAll K c.H vs xs
  | [], _, _, h, e => by cases h; rw [toPSA] at e; cases e; exact .nil
  | d :: ds, _, _, h, e => by
    cases h with
    | cons a b =>
      rw [toPSA] at e
      obtain ⟨x, e1, e⟩ := bd e
      obtain ⟨xs, e2, rfl⟩ := mp e
      exact .cons (den_dpS k a e1) (den_dpSA k b e2)
end
def eqS (S : Sto) (a b : D) : Option D := (toPS S a).bind fun x => (toPS S b).bind fun y => if SeqAt.shaped x = true ∧ SeqAt.shaped y = true then some (.bl (PyData.eqv x y)) else none
def neS (S : Sto) (a b : D) : Option D := (toPS S a).bind fun x => (toPS S b).bind fun y => if SeqAt.shaped x = true ∧ SeqAt.shaped y = true then some (.bl (!PyData.eqv x y)) else none
theorem od_eqS (hr : Rg X.A) : OpS X (compareOp .Eq) eqS := by
  rintro pins s σ H x y v u Q I rx ry ⟨c, a, b, z, rfl, k, Da, Db, e, P⟩
  unfold eqS at e
  obtain ⟨p, h1, e⟩ := bd e
  obtain ⟨q, h2, e⟩ := bd e
  by_cases l : SeqAt.shaped p = true ∧ SeqAt.shaped q = true
  · rw [if_pos l] at e; cases e
    exact op_eqD hr.units pins s σ _ _ _ v u Q I rx ry ⟨_, _, den_dpS k Da h1, den_dpS k Db h2, l.1, l.2, P.here k (.bl _)⟩
  · rw [if_neg l] at e; cases e
theorem od_neS (hr : Rg X.A) : OpS X (compareOp .NotEq) neS := by
  rintro pins s σ H x y v u Q I rx ry ⟨c, a, b, z, rfl, k, Da, Db, e, P⟩
  unfold neS at e
  obtain ⟨p, h1, e⟩ := bd e
  obtain ⟨q, h2, e⟩ := bd e
  by_cases l : SeqAt.shaped p = true ∧ SeqAt.shaped q = true
  · rw [if_pos l] at e; cases e
    exact op_neD hr.units pins s σ _ _ _ v u Q I rx ry ⟨_, _, den_dpS k Da h1, den_dpS k Db h2, l.1, l.2, P.here k (.bl _)⟩
  · rw [if_neg l] at e; cases e
end

/-! ### isinstance with two classes -/
def tyN (S : Sto) : D → Option String
  | .non => some "NoneType"
  | .bl _ => some "bool"
  | .int _ => some "int"
  | .str _ => some "str"
  | .lst _ => some "list"
  | .tup _ => some "tuple"
  | .dct _ => some "dict"
  | .ref j => match S[j]? with
    | some (.lst _) => some "list"
    | some (.dct _) => some "dict"
    | _ => none
  | _ => none
def Seven (t : String) : Prop := t = "NoneType" ∨ t = "bool" ∨ t = "int" ∨ t = "str" ∨ t = "list" ∨ t = "tuple" ∨ t = "dict"
theorem den_tyN {K : PySem.W.Frag} {mg : Str → Option Value} {c : Cfg} {v : V} {d : D} {t : String} (k : Ok K mg c) (h : Den K mg c v d) (e : tyN c.S d = some t) : TyX K c.H v (.type t) ∧ Seven t := by
  cases d with
  | non => cases h; cases e; exact ⟨.base .non, by simp [Seven]⟩
  | bl x => cases h; cases e; exact ⟨.base (.bl x), by simp [Seven]⟩
  | int x => cases h; cases e; exact ⟨.base (.int x), by simp [Seven]⟩
  | str x => cases h; cases e; exact ⟨.base (.str x), by simp [Seven]⟩
  | lst x => cases e; cases h with | lst s u => exact ⟨tyx_lst s, by simp [Seven]⟩
  | tup x => cases e; cases h with | tup s u => exact ⟨tyx_tup s, by simp [Seven]⟩
  | dct x => cases e; cases h with | dct n s u => exact ⟨.base (.dK s), by simp [Seven]⟩
  | ref j =>
    cases h with
    | ref hj =>
      have e' : (match c.S[j]? with | some (.lst _) => some "list" | some (.dct _) => some "dict" | _ => none) = some t := e
      clear e
      split at e'
      · rename_i xs hS
        cases e'
        obtain ⟨vs, hv, _⟩ := k.at_ _ _ hS
        exact ⟨.base (.lst hv), by simp [Seven]⟩
      · rename_i xs hS
        cases e'
        obtain ⟨vs, hv, _⟩ := k.at_ _ _ hS
        exact ⟨.base (.dK hv), by simp [Seven]⟩
      · cases e'
  | fn x => cases e
  | ty x => cases e
  | seq x => cases e
  | cls x => cases e
  | err x y => cases e
theorem kit_lt {K : PySem.W.Frag} {t : String} (h : Seven t) : PySem.W.kitAny K (.type t) [.type "list", .type "tuple"] = some (t == "list" || t == "tuple") := by
  have go : ∀ p q, kitB t "list" = some p → kitB t "tuple" = some q → PySem.W.kitAny K (.type t) [.type "list", .type "tuple"] = some (p || q) := by
    intro p q h1 h2
    refine kitAny_cons (kit_ty h1) (fun hp => ?_) fun hp => by rw [hp]; rfl
    refine kitAny_cons (kit_ty h2) (fun hq => ?_) fun hq => by rw [hq, Bool.or_true]
    rw [hp, hq]
    exact kitAny_nil
  rcases h with rfl | rfl | rfl | rfl | rfl | rfl | rfl <;> exact go _ _ (by decide +kernel) (by decide +kernel)
def mIsLT (f : EvF) : EvF := fun ρ S => (f ρ S).bind fun x => (tyN x.2 x.1).map fun t => (.bl (t == "list" || t == "tuple"), x.2)
theorem me_isLT {X : Cx} {e : Expr} {f : EvF} {n : Nat} {p p1 p2 tp pos : Pos} (hg : Gl X "isinstance") (hm : X.mg "isinstance" = none) (hl : Gl X "list") (ml : X.mg "list" = none) (ht : Gl X "tuple") (mt : X.mg "tuple" = none) (he : ME X e f)
    (n1 : starEach [e, .Tuple [.Name "list" p1, .Name "tuple" p2] n tp] X.env = (false, eval e X.env) :: starEach [.Tuple [.Name "list" p1, .Name "tuple" p2] n tp] X.env := by rfl)
    (n2 : (backTo pos (starEach [.Tuple [.Name "list" p1, .Name "tuple" p2] n tp] X.env)).any (·.1) = false := by rfl) :
    ME X (.Call (.Name "isinstance" p) [e, .Tuple [.Name "list" p1, .Name "tuple" p2] n tp] [] pos) (mIsLT f) := by
  have b1 : PE X (.Name "list" p1) (tC (.ty "list")) := pe_bltn (v := .ty "list") (u := .type "list") hl ml (by decide +kernel) rfl (by decide) (by decide)
  have b2 : PE X (.Name "tuple" p2) (tC (.ty "tuple")) := pe_bltn (v := .ty "tuple") (u := .type "tuple") ht mt (by decide +kernel) rfl (by decide) (by decide)
  refine pe_imp (pe_callB call_isiT hg hm PyProof.Rows.boot_isinstance (pa_cons he (pa_cons (pe_tup (pa_cons b1 (pa_cons b2 pa_nil))) pa_nil) n1) (by decide) (by decide) n1 n2) ?_
  rintro σ H Q ⟨c, ρ, d, S', ⟨rfl, k, en⟩, q, P⟩
  obtain ⟨⟨x, S1⟩, h1, q⟩ := bd q
  obtain ⟨t, h2, q⟩ := mp q
  cases q
  refine ⟨c, ρ, x, S1, .of k en, h1, fun v c1 l1 k1 e1 D1 => ⟨by show 2 ≤ sizeLine; rw [sizeLine_eq]; omega, fun T hT => ?_⟩⟩
  have lw := lay_le (o := .tup [.ty "list", .ty "tuple"]) hT
  have k2 := lay_ok (o := .tup [.ty "list", .ty "tuple"]) k1 hT
  obtain ⟨ty, sv⟩ := den_tyN k2 (D1.mono lw) (show tyN c1.S x = some t by rw [e1]; exact h2)
  exact ⟨v, T, [.ty "list", .ty "tuple"], .type t, [.type "list", .type "tuple"], _, rfl, upd_same, .cons (.ty _) (.cons (.ty _) .nil), ty, kit_lt sv, P _ (c1.lay T (.tup [.ty "list", .ty "tuple"])) (l1.trans lw) k2 e1 (.bl _)⟩

/-! ### slices of what may lie in the store -/
def mSlR (f : EvF) (l h : EoF) : EvF := fun ρ S => (f ρ S).bind fun x => (l ρ x.2).bind fun y => (h ρ y.2).bind fun z => (lsOf z.2 x.1).map fun w => (.lst (cut w y.1 z.1), z.2)
theorem me_slR {X : Cx} {e : Expr} {f : EvF} {l h : EoF} (hx : PE X e (tSl (rSl3 X.K) (tM X.K X.mg f) (tO X.K X.mg l) (tO X.K X.mg h))) : ME X e (mSlR f l h) := pe_imp hx <| by
  rintro σ H Q ⟨c, ρ, d, S', ⟨rfl, k, en⟩, q, p⟩
  obtain ⟨⟨x, S1⟩, h1, q⟩ := bd q
  obtain ⟨⟨y, S2⟩, h2, q⟩ := bd q
  obtain ⟨⟨z, S3⟩, h3, q⟩ := bd q
  obtain ⟨w, h4, q⟩ := mp q
  cases q
  refine ⟨c, ρ, x, S1, .of k en, h1, fun v c1 l1 k1 e1 D1 => ⟨c1, ρ, y, S2, .of k1 (en.mono l1), by rw [e1]; exact h2, fun c2 l2 k2 e2 => ?_⟩⟩
  refine ⟨c2, ρ, z, S3, .of k2 (en.mono (l1.trans l2)), by rw [e2]; exact h3, fun c3 l3 k3 e3 => ?_⟩
  have P := p.mono ((l1.trans l2).trans l3)
  subst e3
  obtain ⟨a, vs, rfl, s, t⟩ := den_ls k3 (D1.mono (l2.trans l3)) h4
  exact .inl (.inl ⟨a, vs, rfl, .inl s, post_lst P k3 (den_cut t)⟩)

/-! ### zfill -/
def mZf (f h : EvF) : EvF := fun ρ S => (f ρ S).bind fun x => match x.1 with
  | .str a => (h ρ x.2).bind fun y => match y.1 with
    | .int i => if i ≤ 1000000 ∧ -1000000 ≤ i then some (.str (Txt.zfill a i), y.2) else none
    | _ => none
  | _ => none
theorem padOk {i : Int} (h : i ≤ 1000000 ∧ -1000000 ≤ i) : PadOk i = true := by
  unfold PadOk fitsSsize Builtin.Str.tooLong
  simp only [Bool.and_eq_true, Bool.not_eq_true', decide_eq_true_eq, Bool.or_eq_false_iff, decide_eq_false_iff_not, sizeLine_eq]
  omega
theorem me_zf {X : Cx} {e : Expr} {f h : EvF} (he : PE X e (tBM X.K "str" (fun x xs H Q => ∃ (a : Str) (i : Int), x = .str a ∧ xs = [.int i] ∧ PadOk i = true ∧ Q (.str (Txt.zfill a i)) H) (tM X.K X.mg f) (tAs X.K X.mg (mCons h mNil)))) : ME X e (mZf f h) := pe_imp he <| by
  rintro σ H Q ⟨c, ρ, d, S', ⟨rfl, k, en⟩, q, p⟩
  obtain ⟨⟨x, S1⟩, h1, q2⟩ := bd q
  clear q
  refine ⟨c, ρ, x, S1, .of k en, h1, fun v c1 l1 k1 e1 D1 => ?_⟩
  cases x <;> try (cases q2)
  rename_i a
  obtain ⟨⟨y, S2⟩, h2, q2⟩ := bd (show (h ρ S1).bind _ = some (d, S') from q2)
  cases y <;> try (cases q2)
  rename_i b
  have q3 : (if b ≤ 1000000 ∧ -1000000 ≤ b then some (D.str (Txt.zfill a b), S2) else none) = some (d, S') := q2
  by_cases z : b ≤ 1000000 ∧ -1000000 ≤ b
  · rw [if_pos z] at q3
    cases q3
    cases D1
    refine ⟨rfl, c1, ρ, _, _, .of k1 (en.mono l1), by rw [e1]; exact one_arg h2, fun vs c2 l2 k2 e2 D2 => ?_⟩
    obtain ⟨w, rfl, dw⟩ := da1 D2
    cases dw
    exact ⟨a, b, rfl, rfl, padOk z, p _ c2 (l1.trans l2) k2 e2 (.str _)⟩
  · rw [if_neg z] at q3; cases q3

/-! ### a walk over a list, a tuple or a thing of the store, which must stay while it is walked -/
def holdsG (g : Option Nat) (ds : List D) (S : Sto) : Prop := match g with
  | none => True
  | some j => S[j]? = some (.lst ds)
def EnumG (K : PySem.W.Frag) (mg : Str → Option Value) (c : Cfg) (J : It) (ds : List D) (g : Option Nat) : Prop := ∀ i c1, Lw c c1 → Ok K mg c1 → holdsG g ds c1.S →
  (∀ d, ds[i]? = some d → J.go i c1.H ∧ ∀ x H', J.yld i c1.H x H' → ∃ c2, c2.H = H' ∧ Le c1 c2 ∧ Ok K mg c2 ∧ c2.S = c1.S ∧ Den K mg c2 x d) ∧ (ds.length ≤ i → J.stop i c1.H)
abbrev SqF := En → Sto → Option ((List D × Option Nat) × Sto)
def tIG (K : PySem.W.Frag) (mg : Str → Option Value) (f : SqF) : TI := fun σ H R => ∃ c ρ ds g S', At K mg c ρ σ H ∧ f ρ c.S = some ((ds, g), S') ∧ ∀ J c1, Le c c1 → Ok K mg c1 → c1.S = S' → EnumG K mg c1 J ds g → R J c1.H
abbrev MIG (X : Cx) (tg it : Expr) (f : SqF) : Prop := PI X tg it (tIG X.K X.mg f)
def sQ (f : EvF) : SqF := fun ρ S => (f ρ S).bind fun x => match x.1 with
  | .lst ds => some ((ds, none), x.2)
  | .tup ds => some ((ds, none), x.2)
  | .ref j => (stLst x.2 j).map fun ds => ((ds, some j), x.2)
  | _ => none
/-- what is walked is a list or a tuple -/
def iSq (K : PySem.W.Frag) (tl : TE) : TI := fun σ H R => tl σ H fun x H1 => (∃ a, x = .ref a ∧ (∃ xs, SqL K H1 a xs) ∧ R (Itl K a) H1) ∨ (∃ a, x = .ref a ∧ (∃ xs, SqT K H1 a xs) ∧ R (Itt K a) H1)
theorem pi_sq {X : Cx} {tg l : Expr} {tl : TE} (hl : PE X l tl) : PI X tg l (iSq X.K tl) := ⟨fun pins s σ H R I h => thn (hl.run pins s σ H _ I h) fun v s1 w => by
  obtain ⟨x, H1, I1, r1, w⟩ := w
  have fp : ∀ b ∈ [s1.heap.objs.size], FpOk X pins H1 b := fun b hb => by
    rw [List.mem_singleton.mp hb]
    exact I1.fpOk (Nat.le_refl _) (I1.hok.fresh (Nat.le_refl _))
  rcases w with ⟨a, rfl, ⟨xs, hq⟩, q⟩ | ⟨a, rfl, ⟨xs, hq⟩, q⟩
  · cases r1
    obtain ⟨ys, rv, p, _⟩ := I1.list hq
    exact wpAny_pyIter_list p.isList ⟨s1.heap.objs.size, [s1.heap.objs.size], _, _, H1, rfl, I1.kept (t' := s1.toks) fun b o e => Heap.get?_push_of_some _ e, turn_list a _, ⟨_, Heap.get?_push_size _ rfl, rfl, rfl⟩, fp, q⟩
  · cases r1
    obtain ⟨ys, rv, p, _⟩ := I1.tuple hq
    exact wpAny_pyIter_tuple (show s1.heap.IsTuple a ys.toArray from p) ⟨s1.heap.objs.size, [s1.heap.objs.size], _, _, H1, rfl, I1.kept (t' := s1.toks) fun b o e => Heap.get?_push_of_some _ e, turn_tuple a _, ⟨_, Heap.get?_push_size _ rfl, rfl, rfl⟩, fp, q⟩⟩
section
variable {X : Cx} {tg it : Expr} {f : EvF}
theorem enumG_of {K : PySem.W.Frag} {mg : Str → Option Value} {c : Cfg} {J : It} {ds : List D} (h : Enum K mg c J ds) : EnumG K mg c J ds none := fun i c1 l k _ => h i c1 l k
theorem enumG_ref {K : PySem.W.Frag} {mg : Str → Option Value} {c : Cfg} {j : Nat} {ds : List D} (hj : j < c.S.length) : EnumG K mg c (Itl K (c.π j)) ds (some j) := by
  intro i c1 l k hg
  obtain ⟨vs, hv, t⟩ := k.at_ _ _ (show c1.S[j]? = some (.lst ds) from hg)
  rw [l.pi j hj] at hv
  have s1 : SqL K c1.H (c.π j) vs := .inl (.inl hv)
  refine ⟨fun d e => ?_, fun h => ⟨vs, s1, by rw [t.length]; exact h⟩⟩
  obtain ⟨v, h1, h2⟩ := t.get e
  refine ⟨⟨vs, v, s1, h1⟩, ?_⟩
  rintro x H' ⟨rfl, q⟩
  have w := q vs s1
  rw [h1] at w
  cases w
  exact ⟨c1, rfl, .refl _, k, rfl, h2⟩
theorem mi_sq (h : PI X tg it (iSq X.K (tM X.K X.mg f))) : MIG X tg it (sQ f) := pi_imp h <| by
  rintro σ H R ⟨c, ρ, ds, g, S', ⟨rfl, k, en⟩, q, p⟩
  obtain ⟨⟨x, S1⟩, h1, q⟩ := bd q
  refine ⟨c, ρ, x, S1, .of k en, h1, fun v c1 l1 k1 e1 D1 => ?_⟩
  cases x <;> try (cases q)
  · cases D1 with
    | lst s t => exact .inl ⟨_, rfl, ⟨_, s.get⟩, p _ c1 l1 k1 e1 (enumG_of (enum_l (.inl s) t))⟩
  · cases D1 with
    | tup s t => exact .inr ⟨_, rfl, ⟨_, s.get⟩, p _ c1 l1 k1 e1 (enumG_of (enum_t s t))⟩
  · rename_i j
    obtain ⟨xs, h2, q⟩ := mp (show (stLst S1 j).map _ = some ((ds, g), S') from q)
    cases q
    cases D1 with
    | ref hj =>
      obtain ⟨vs, hv, t⟩ := k1.at_ _ _ (show c1.S[j]? = some (.lst ds) by rw [e1]; exact stLst_get h2)
      exact .inl ⟨_, rfl, ⟨_, .inl (.inl hv)⟩, p _ c1 l1 k1 e1 (enumG_ref hj)⟩
end
open Classical in
noncomputable def loopG (tg : TgF) (gd : StF) (all : List D) (g : Option Nat) : List D → StF
  | [], ρ, S => if holdsG g all S then some (.nx ρ, S) else none
  | d :: ds, ρ, S => if holdsG g all S then (tg ρ d).bind fun ρ1 => (gd ρ1 S).bind fun x => match x.1 with
    | .nx ρ' => loopG tg gd all g ds ρ' x.2
    | .ct ρ' => loopG tg gd all g ds ρ' x.2
    | .bk ρ' => some (.nx ρ', x.2)
    | .rt d => some (.rt d, x.2)
    else none
noncomputable def mForG (sr : SqF) (tg : TgF) (gd : StF) : StF := fun ρ S => (sr ρ S).bind fun x => loopG tg gd x.1.1 x.1.2 x.1.1 ρ x.2
theorem loopG_in {tg : TgF} {gd : StF} {all ds : List D} {g : Option Nat} {ρ : En} {S : Sto} {z : Out × Sto} (q : loopG tg gd all g ds ρ S = some z) : holdsG g all S := by
  cases ds with
  | nil =>
    unfold loopG at q
    by_cases h : holdsG g all S
    · exact h
    · rw [if_neg h] at q; cases q
  | cons d ds =>
    unfold loopG at q
    by_cases h : holdsG g all S
    · exact h
    · rw [if_neg h] at q; cases q
theorem loopG_nil {tg : TgF} {gd : StF} {all : List D} {g : Option Nat} {ρ : En} {S : Sto} (h : holdsG g all S) : loopG tg gd all g [] ρ S = some (.nx ρ, S) := by
  unfold loopG
  rw [if_pos h]
theorem loopG_cons {tg : TgF} {gd : StF} {all ds : List D} {d : D} {g : Option Nat} {ρ : En} {S : Sto} (h : holdsG g all S) : loopG tg gd all g (d :: ds) ρ S = (tg ρ d).bind fun ρ1 => (gd ρ1 S).bind fun x => match x.1 with
    | .nx ρ' => loopG tg gd all g ds ρ' x.2
    | .ct ρ' => loopG tg gd all g ds ρ' x.2
    | .bk ρ' => some (.nx ρ', x.2)
    | .rt d => some (.rt d, x.2) := by
  rw [loopG, if_pos h]
section
variable {X : Cx} {st : Stmt} {sr : SqF} {tg : TgF} {gd : StF}
theorem ms_forG (h : PS X st (tFor (tIG X.K X.mg sr) (tG X.K X.mg tg) (tS X.K X.mg gd))) : MS X st (mForG sr tg gd) := ps_imp h <| by
  rintro Dd σ H ⟨c, ρ, o, S', ⟨rfl, k, en⟩, q, p⟩
  obtain ⟨⟨⟨ds, g⟩, S1⟩, h1, q⟩ := bd q
  refine ⟨c, ρ, ds, g, S1, .of k en, h1, fun J c1 l1 k1 e1 En => ?_⟩
  let W : Nat → L2.St → Hp → Prop := fun i σ H => ∃ c2 ρ2, At X.K X.mg c2 ρ2 σ H ∧ Le c1 c2 ∧ i ≤ ds.length ∧ loopG tg gd ds g (ds.drop i) ρ2 c2.S = some (o, S')
  refine ⟨fun i m σ H => m = ds.length - i ∧ W i σ H, ⟨_, rfl, c1, ρ, .of k1 (en.mono l1), .refl _, Nat.zero_le _, by rw [e1]; exact q⟩, ?_⟩
  rintro i m σ' H' ⟨rfl, c2, ρ2, ⟨rfl, k2, en2⟩, l2, hi, q2⟩
  have hG := loopG_in q2
  obtain ⟨Eg, Es⟩ := En i c2 l2.lw k2 hG
  rcases Nat.lt_or_ge i ds.length with z | z
  · right
    obtain ⟨hg, hy⟩ := Eg _ (List.getElem?_eq_getElem z)
    rw [List.drop_eq_getElem_cons z, loopG_cons hG] at q2
    obtain ⟨ρ3, g1, q2⟩ := bd q2
    obtain ⟨⟨x, S3⟩, g2, q2⟩ := bd q2
    refine ⟨hg, W (i + 1), fun σ3 H3 w => ⟨ds.length - (i + 1), by omega, rfl, w⟩, fun v H3 y => ?_⟩
    obtain ⟨c3, rfl, l3, k3, e3, D3⟩ := hy v H3 y
    refine ⟨c3, ρ2, _, ρ3, .of k3 (en2.mono l3), D3, g1, fun σ4 en4 => ⟨c3, ρ3, x, S3, .of k3 en4, by rw [e3]; exact g2, fun c4 l4 k4 e4 => ?_⟩⟩
    have l5 := l2.trans (l3.trans l4)
    cases x with
    | nx ρ' => exact fun σ5 en5 => ⟨c4, ρ', .of k4 en5, l5, z, by rw [e4]; exact q2⟩
    | ct ρ' => exact fun σ5 en5 => ⟨c4, ρ', .of k4 en5, l5, z, by rw [e4]; exact q2⟩
    | bk ρ' => cases q2; exact p c4 (l1.trans l5) k4 e4
    | rt d => cases q2; exact p c4 (l1.trans l5) k4 e4
  · left
    refine ⟨Es z, ?_⟩
    rw [List.drop_eq_nil_of_le z, loopG_nil hG] at q2
    cases q2
    exact p c2 (l1.trans l2) k2 rfl σ' en2
end
open Classical in
noncomputable def mapG (te : EvF) (tt : EtF) (j : Nat) (all : List D) (g : Option Nat) (ρ : En) : List D → Sto → Option (List D × Sto)
  | [], S => if holdsG g all S then some ([], S) else none
  | d :: ds, S => if holdsG g all S then (tt (ρ.set j (some d)) S).bind fun b => if b.1 = true then
      (te (ρ.set j (some d)) b.2).bind fun y => (mapG te tt j all g ρ ds y.2).map fun r => (y.1 :: r.1, r.2)
    else mapG te tt j all g ρ ds b.2
    else none
noncomputable def mLcG (sr : SqF) (j : Nat) (tt : EtF) (te : EvF) : EvF := fun ρ S => (sr ρ S).bind fun x => (mapG te tt j x.1.1 x.1.2 (ρ.set j none) x.1.1 x.2).bind fun r => if r.1.length ≤ 100000 then some (.lst r.1, r.2) else none
theorem mapG_in {te : EvF} {tt : EtF} {j : Nat} {all ds : List D} {g : Option Nat} {ρ : En} {S : Sto} {z : List D × Sto} (q : mapG te tt j all g ρ ds S = some z) : holdsG g all S := by
  cases ds with
  | nil =>
    unfold mapG at q
    by_cases h : holdsG g all S
    · exact h
    · rw [if_neg h] at q; cases q
  | cons d ds =>
    unfold mapG at q
    by_cases h : holdsG g all S
    · exact h
    · rw [if_neg h] at q; cases q
theorem mapG_nil {te : EvF} {tt : EtF} {j : Nat} {all : List D} {g : Option Nat} {ρ : En} {S : Sto} (h : holdsG g all S) : mapG te tt j all g ρ [] S = some ([], S) := by
  rw [mapG, if_pos h]
theorem mapG_cons {te : EvF} {tt : EtF} {j : Nat} {all ds : List D} {d : D} {g : Option Nat} {ρ : En} {S : Sto} (h : holdsG g all S) : mapG te tt j all g ρ (d :: ds) S = (tt (ρ.set j (some d)) S).bind fun b => if b.1 = true then
      (te (ρ.set j (some d)) b.2).bind fun y => (mapG te tt j all g ρ ds y.2).map fun r => (y.1 :: r.1, r.2)
    else mapG te tt j all g ρ ds b.2 := by
  rw [mapG, if_pos h]
section
variable {X : Cx} {e : Expr} {sr : SqF} {tt : EtF} {te : EvF} {j : Nat}
theorem lcG_go {σ : L2.St} {H : Hp} {Q : VK} (h : tM X.K X.mg (mLcG sr j tt te) σ H Q) : tLc (tIG X.K X.mg sr) (gName j) (tT X.K X.mg tt) (tM X.K X.mg te) [j] σ H Q := by
  obtain ⟨c, ρ, d, S', ⟨rfl, k, en⟩, q, p⟩ := h
  obtain ⟨⟨⟨ds, g⟩, S1⟩, h1, q⟩ := bd q
  obtain ⟨⟨rs, S2⟩, h2, q⟩ := bd q
  have hz : rs.length ≤ 100000 := by
    by_cases z : rs.length ≤ 100000
    · exact z
    · rw [if_neg z] at q; cases q
  rw [if_pos hz] at q
  cases q
  refine ⟨c, ρ, ds, g, S1, .of k en, h1, fun J c1 l1 k1 e1 En Dl hD => ?_⟩
  let ρ0 := ρ.set j none
  -- while the list grows, Dl is shut out
  let W : Nat → Hp → Prop := fun i H => ∃ (c2 : Cfg) (acc : List V) (as bs : List D), c2.H = H ∧ Ok X.K X.mg c2 ∧ Lw c1 c2 ∧ (∀ a o, ¬ c1.Rg a → c1.H a = some o → c2.H a = some o ∧ ¬ c2.Rg a) ∧ c2.T = (fun a => c1.T a ∨ a = Dl) ∧
    c2.H Dl = some (.lst acc) ∧ DenA X.K X.mg c2 acc as ∧ i ≤ ds.length ∧ mapG te tt j ds g ρ0 (ds.drop i) c2.S = some (bs, S2) ∧ as ++ bs = rs
  have c1n : ¬ c1.Rg Dl := fun q => ok_some k1 q hD
  have l0 : Lw c1 { c1 with H := upd c1.H Dl (.lst []), T := fun a => c1.T a ∨ a = Dl } := ⟨Nat.le_refl _, fun _ _ => rfl, fun a o n e => ⟨by show upd c1.H Dl _ a = _; rw [upd_ne (ne_of_none e hD)]; exact e, fun q => q.elim (fun q => n (.inl q)) fun q => q.elim (fun q => n (.inr q)) fun q => ne_of_none e hD q⟩⟩
  refine ⟨fun i m H => m = ds.length - i ∧ W i H, ⟨_, rfl, { c1 with H := upd c1.H Dl (.lst []), T := fun a => c1.T a ∨ a = Dl }, [], [], rs, rfl, ?_, l0, ?_, rfl, upd_same, .nil, Nat.zero_le _, by rw [← e1] at h2; exact h2, rfl⟩, ?_⟩
  · refine ⟨fun i xs q => ?_, k1.inj, fun a t => ?_⟩
    · obtain ⟨u, q1, _⟩ := rg_mu k1 ⟨i, lt_of_get q, rfl⟩
      exact ob_mw k1 l0 (upd_ne (ne_of_none q1 hD)) (k1.at_ i xs q)
    · rcases t with t | t
      · obtain ⟨n, xs, e⟩ := k1.nT a t
        exact ⟨n, xs, (upd_ne (ne_of_none e hD)).trans e⟩
      · rw [t]
        exact ⟨c1n, [], upd_same⟩
  · exact fun a o n e => ⟨by show upd c1.H Dl _ a = _; rw [upd_ne (ne_of_none e hD)]; exact e, n⟩
  rintro i m H' ⟨rfl, c2, acc, as, bs, rfl, k2, lw, kp, hT, hDl, Da, hi, q2, hr⟩
  have nD : ¬ c2.Rg Dl := (k2.nT Dl (by rw [hT]; exact .inr rfl)).1
  have hG := mapG_in q2
  obtain ⟨Eg, Es⟩ := En i c2 lw k2 hG
  rcases Nat.lt_or_ge i ds.length with z | z
  · right
    obtain ⟨hg, hy⟩ := Eg _ (List.getElem?_eq_getElem z)
    rw [List.drop_eq_getElem_cons z, mapG_cons hG] at q2
    obtain ⟨⟨b, S3⟩, g1, q2⟩ := bd q2
    refine ⟨hg, W (i + 1), fun H3 w => ⟨ds.length - (i + 1), by omega, rfl, w⟩, fun v H3 y => ?_⟩
    obtain ⟨c3, rfl, l3, k3, e3, D3⟩ := hy v H3 y
    refine ⟨wipe_one σ j v, ?_⟩
    have en0 : EnD X.K X.mg c2 (wipe σ [j]) ρ0 := (EnD.mw ((l1.lw).trans lw) en).wipe [j]
    have en3 : EnD X.K X.mg c3 ((wipe σ [j]).set j (some v)) (ρ0.set j (some ds[i])) := (en0.mono l3).set D3
    refine ⟨c3, _, b, S3, .of k3 en3, by rw [e3]; exact g1, fun c4 l4 k4 e4 => ?_⟩
    have l24 : Le c2 c4 := l3.trans l4
    cases b with
    | false =>
      have q2 : mapG te tt j ds g ρ0 (ds.drop (i + 1)) S3 = some (bs, S2) := q2
      refine ⟨c4, acc, as, bs, rfl, k4, lw.trans l24.lw, fun a o n e => ?_, l24.T.trans hT, (l24.keep Dl _ nD hDl).1, Da.mono l24, z, by rw [e4]; exact q2, hr⟩
      obtain ⟨a1, a2⟩ := kp a o n e
      exact l24.keep a o a2 a1
    | true =>
      obtain ⟨⟨y, S4⟩, g2, q2⟩ := bd q2
      obtain ⟨⟨ys, S5⟩, g3, q2⟩ := mp q2
      cases q2
      refine ⟨c4, _, y, S4, .of k4 (en3.mono l4), by rw [e4]; exact g2, fun u c5 l5 k5 e5 D5 => ?_⟩
      have l25 : Le c2 c5 := l24.trans l5
      obtain ⟨hDl5, nD5⟩ := l25.keep Dl _ nD hDl
      have hlen : acc.length < sizeLine := by
        have w : as.length ≤ rs.length := by rw [← hr]; simp
        rw [Da.length]
        exact Nat.lt_of_le_of_lt (Nat.le_trans w hz) (by decide)
      refine ⟨acc, hDl5, hlen, ?_⟩
      have lw6 : Lw c5 { c5 with H := upd c5.H Dl (.lst (acc ++ [u])) } := ⟨Nat.le_refl _, fun _ _ => rfl, fun a o n e => ⟨(upd_ne (fun q => n (.inr (by rw [l25.T, hT]; exact .inr q)))).trans e, n⟩⟩
      refine ⟨{ c5 with H := upd c5.H Dl (.lst (acc ++ [u])) }, acc ++ [u], as ++ [y], ys, rfl, ?_, (lw.trans l25.lw).trans lw6, fun a o n e => ?_, l25.T.trans hT, upd_same, ((Da.mono l25).mw lw6).app (.cons (D5.mw lw6) .nil), z, by show mapG te tt j ds g ρ0 _ c5.S = _; rw [e5]; exact g3, by rw [List.append_assoc]; exact hr⟩
      · refine ⟨fun i xs q => ?_, k5.inj, fun a t => ⟨(k5.nT a t).1, ?_⟩⟩
        · exact ob_mw k5 lw6 (upd_ne (fun q' => nD5 ⟨i, lt_of_get q, q'⟩)) (k5.at_ i xs q)
        · by_cases z : a = Dl
          · rw [z]; exact ⟨_, upd_same⟩
          · obtain ⟨_, xs, e⟩ := k5.nT a t
            exact ⟨xs, (upd_ne z).trans e⟩
      · have ne : a ≠ Dl := fun q => by rw [q, hD] at e; cases e
        obtain ⟨a1, a2⟩ := kp a o n e
        obtain ⟨b1, b2⟩ := l25.keep a o a2 a1
        exact ⟨(upd_ne ne).trans b1, b2⟩
  · left
    refine ⟨Es z, ?_⟩
    rw [List.drop_eq_nil_of_le z, mapG_nil hG] at q2
    cases q2
    rw [List.append_nil] at hr
    subst hr
    -- Dl is let in again
    have lw7 : Lw c2 { c2 with T := c1.T } := ⟨Nat.le_refl _, fun _ _ => rfl, fun a o n e => ⟨e, fun q => q.elim (fun q => n (.inl q)) fun q => n (.inr (by rw [hT]; exact .inl q))⟩⟩
    have nT1 : ¬ c1.T Dl := fun t => by
      obtain ⟨_, xs, e⟩ := k1.nT Dl t
      rw [hD] at e; cases e
    refine p _ { c2 with T := c1.T } ?_ ?_ rfl (.lst ⟨fun q => q.elim nD nT1, .inl hDl⟩ (Da.mw lw7))
    · exact ⟨Nat.le_trans l1.len lw.len, fun j h => (lw.pi j (Nat.lt_of_lt_of_le h l1.len)).trans (l1.pi j h), fun a o n e => let ⟨x1, x2⟩ := l1.keep a o n e; kp a o x2 x1, l1.T⟩
    · exact ⟨fun i xs q => ob_mw k2 lw7 rfl (k2.at_ i xs q), k2.inj, fun a t => k2.nT a (by rw [hT]; exact .inl t)⟩
theorem me_lcG (h : PE X e (tLc (tIG X.K X.mg sr) (gName j) (tT X.K X.mg tt) (tM X.K X.mg te) [j])) : ME X e (mLcG sr j tt te) := pe_imp h fun _ _ _ => lcG_go
end
end M

namespace M
open PySem PySem.Spec L2 W2 RZ

/-! ### a def of two parameters that is called by their names, the second one first -/
structure CalR (P : Program) (w : World) (K : PySem.W.Frag) (mg : Str → Option Value) (base : Heap) (k : Nat) (x p q : Str) (F : Fn) : Prop where
  ex : ∃ (f : Addr) (fd : FuncData), mg x = some (.ref f) ∧ PySem.W.keepIn K (.ref f) = true ∧ (∀ (s : Shared) (u v : Value), BindsTo s fd ⟨[], [(q, u), (p, v)]⟩ [(p, v), (q, u)]) ∧ FnG P w K mg base k f fd [p, q] (spM K mg 2 F)
theorem calR_mk {P : Program} {w : World} {K : PySem.W.Frag} {mg : Str → Option Value} {base : Heap} {x p q : Str} {st : Stmt} {f : Addr} {fd : FuncData} {k : Nat} {F : Fn} (Z : Fun K x x st f fd) (m : mg x = some (.ref f))
    (b : ∀ (s : Shared) (u v : Value), BindsTo s fd ⟨[], [(q, u), (p, v)]⟩ [(p, v), (q, u)]) (G : FnG P w K mg base k f fd [p, q] (spM K mg 2 F)) : CalR P w K mg base k x p q F := ⟨⟨f, fd, m, Z.kp, b, G⟩⟩
def mKwR (F : Fn) (f g : EvF) : EvF := fun ρ S => (f ρ S).bind fun x => (g ρ x.2).bind fun y => F [y.1, x.1] y.2
section
variable {X : Cx} {pos p kpos kpos2 : Pos} {e e2 : Expr} {f g : EvF} {k : Nat} {x y z : Str} {F : Fn}
theorem me_kwR (C : CalR X.prog X.w X.K X.mg X.base k x y z F) (hr : Rm k X.A) (hg : Gl X x) (he : ME X e f) (he2 : ME X e2 g)
    (hall : (backToKw pos (keywordEach [⟨some z, e, kpos⟩, ⟨some y, e2, kpos2⟩] X.env)).all (·.1.isSome) = true := by rfl) (hks : (backToKw pos (keywordEach [⟨some z, e, kpos⟩, ⟨some y, e2, kpos2⟩] X.env)).filterMap (·.1) = [z, y] := by rfl)
    (hdb : (x == ("__debug__" : Str)) = false := by decide) (hpl : ((backTo pos (starEach [] X.env)).any (·.1) || (backToKw pos (keywordEach [⟨some z, e, kpos⟩, ⟨some y, e2, kpos2⟩] X.env)).any (·.1.isNone)) = false := by rfl) :
    ME X (.Call (.Name x p) [] [⟨some z, e, kpos⟩, ⟨some y, e2, kpos2⟩] pos) (mKwR F f g) := by
  obtain ⟨fa, fd, hm, hk, hb, G⟩ := C.ex
  constructor
  rintro pins s σ H Q I ⟨c, ρ, d, S', ⟨rfl, k, en⟩, q, P⟩
  obtain ⟨⟨a, S1⟩, h1, q⟩ := bd q
  obtain ⟨⟨b, S2⟩, h2, q1⟩ := bd q
  refine wpAny_Call_Name_kw (ld_glob I hg hm ?_ hdb)
  refine PySem.W.callWith_KW0 (h₀ := X.base) I.ok.mod.kin hk hall ?_ hpl
  refine thn ((pk_cons he (pk_cons he2 pk_nil)).run pos pins s σ c.H (fun vs H' => ∃ v1 v2, vs = [v1, v2] ∧ spM X.K X.mg 2 F [v2, v1] H' Q E0) I ?_) ?_
  · refine ⟨c, ρ, a, S1, .of k en, h1, fun v c1 l1 k1 e1 D1 => ⟨c1, ρ, b, S2, .of k1 (en.mono l1), by rw [e1]; exact h2, fun w c2 l2 k2 e2 D2 => ⟨v, w, rfl, rfl, c2, [b, a], d, S', rfl, k2, .cons D2 (.cons (D1.mono l2) .nil), by rw [e2]; exact q1, P.mono (l1.trans l2)⟩⟩⟩
  · rintro ws s2 ⟨zs, H2, I2, rz, v1, v2, rfl, hsp⟩
    refine ⟨I2.kIn, ?_⟩
    rw [hks]
    obtain ⟨u1, u2, rfl, r1, r2⟩ := vals2 rz
    refine wpAny_call (codeAny_mono (run_X (us := [u2, u1]) (vs := [v2, v1]) (ar := ⟨[], [(z, u1), (y, u2)]⟩) G hr takes_none5 (hb s2 u1 u2) I2 (.cons r2 (.cons r1 .nil)) hsp) fun r s' hq => ?_)
    match r, hq with
    | .error _, hq => exact hq
    | .ok (.ret u), hq => exact hq
end

/-! ### list(range(n)) -/
def mLr (fa : EvF) : EvF := fun ρ S => (fa ρ S).bind fun x => match x.1 with
  | .int n => if n ≤ 1000000 ∧ -1000000 ≤ n then some (.lst (upto n.toNat), x.2) else none
  | _ => none
theorem rg_den {K : PySem.W.Frag} {mg : Str → Option Value} {c : Cfg} (n : Int) : DenA K mg c (rgV 0 n) (upto n.toNat) := by
  unfold rgV upto
  rw [Int.sub_zero]
  generalize List.range n.toNat = l
  induction l with
  | nil => exact .nil
  | cons i l ih => exact .cons (by show Den K mg c (V.int (0 + (i : Int))) (.int (i : Int)); rw [Int.zero_add]; exact .int _) ih
theorem me_lr {X : Cx} {a : Expr} {f : EvF} {p p2 pos pos2 : Pos} (hc : X.calm = true) (hg : Gl X "list") (hm : X.mg "list" = none) (hg2 : Gl X "range") (hm2 : X.mg "range" = none) (ha : ME X a f)
    (na : starEach [a] X.env = (false, eval a X.env) :: starEach [] X.env := by rfl) (nb : starEach [.Call (.Name "range" p2) [a] [] pos2] X.env = (false, eval (.Call (.Name "range" p2) [a] [] pos2) X.env) :: starEach [] X.env := by rfl) :
    ME X (.Call (.Name "list" p) [.Call (.Name "range" p2) [a] [] pos2] [] pos) (mLr f) := by
  refine pe_imp (pe_listRg hc hg hm (prg_1 hg2 hm2 ha na) nb) ?_
  rintro σ H Q ⟨c, ρ, d, S', ⟨rfl, k, en⟩, q, P⟩
  obtain ⟨⟨x, S1⟩, h1, q⟩ := bd q
  obtain ⟨n, rfl⟩ : ∃ n, x = .int n := by cases x <;> first | exact ⟨_, rfl⟩ | cases q
  have q2 : (if n ≤ 1000000 ∧ -1000000 ≤ n then some (D.lst (upto n.toNat), S1) else none) = some (d, S') := q
  by_cases z : n ≤ 1000000 ∧ -1000000 ≤ n
  · rw [if_pos z] at q2
    cases q2
    refine ⟨c, ρ, _, _, .of k en, h1, fun v c1 l1 k1 e1 D1 => ?_⟩
    cases D1
    exact ⟨n, rfl, ⟨by omega, by omega, by omega, by omega, by omega⟩, post_lst (by rw [e1]; exact P.mono l1) k1 (rg_den n)⟩
  · rw [if_neg z] at q2; cases q2

/-! ### [..] * n -/
def mMulL (fa : EaF) (g : EvF) : EvF := fun ρ S => (fa ρ S).bind fun x => (g ρ x.2).bind fun y => match y.1 with
  | .int k => if 0 ≤ k ∧ k ≤ 10000 ∧ x.1.length ≤ 10 then some (.lst (List.replicate k.toNat x.1).flatten, y.2) else none
  | _ => none
theorem me_mulL {X : Cx} {es : List Expr} {b : Expr} {fa : EaF} {g : EvF} {pos lpos : Pos} (ha : MA X es fa) (hb : ME X b g) : ME X (.BinOp (.List es lpos) .Mult b pos) (mMulL fa g) := by
  refine pe_imp (pe_op op_rep (pe_lst ha) hb) ?_
  rintro σ H Q ⟨c, ρ, d, S', ⟨rfl, k, en⟩, q, P⟩
  obtain ⟨⟨x, S1⟩, h1, q⟩ := bd q
  obtain ⟨⟨y, S2⟩, h2, q⟩ := bd q
  obtain ⟨n, rfl⟩ : ∃ n, y = .int n := by cases y <;> first | exact ⟨_, rfl⟩ | cases q
  have q2 : (if 0 ≤ n ∧ n ≤ 10000 ∧ x.length ≤ 10 then some (D.lst (List.replicate n.toNat x).flatten, S2) else none) = some (d, S') := q
  by_cases z : 0 ≤ n ∧ n ≤ 10000 ∧ x.length ≤ 10
  · rw [if_pos z] at q2
    cases q2
    refine ⟨c, ρ, x, S1, .of k en, h1, fun vs c1 l1 k1 e1 D1 => ⟨by rw [D1.length, sizeLine_eq]; omega, fun p hp => ?_⟩⟩
    have l2 := lay_le (o := .lst vs) hp
    have k2 := lay_ok (o := .lst vs) k1 hp
    refine ⟨c1.lay p (.lst vs), ρ, .int n, _, .of k2 ((en.mono l1).mono l2), by show g ρ c1.S = _; rw [e1]; exact h2, fun w c3 l3 k3 e3 D3 => ?_⟩
    cases D3
    have np : ¬ (c1.lay p (.lst vs)).Rg p := fun q => ok_some k1 (show c1.Rg p from q) hp
    have h3 := (l3.keep p (.lst vs) np upd_same).1
    refine ⟨p, n, vs, rfl, rfl, h3, by omega, by omega, ?_, post_lst (by rw [e3]; exact P.mono ((l1.trans l2).trans l3)) k3 (den_rep ((D1.mono l2).mono l3) _)⟩
    rw [D1.length, sizeLine_eq]
    have : x.length * n.toNat ≤ 10 * 10000 := Nat.mul_le_mul z.2.2 (by omega)
    omega
  · rw [if_neg z] at q2; cases q2
end M

namespace M
open PySem PySem.Spec L2 W2 RZ

/-! ### a walk whose body may raise -/
open Classical in
noncomputable def loopX (tg : TgF) (gd : SxF) (all : List D) (g : Option Nat) : List D → SxF
  | [], ρ, S => if holdsG g all S then some (.nx ρ, S) else none
  | d :: ds, ρ, S => if holdsG g all S then (tg ρ d).bind fun ρ1 => (gd ρ1 S).bind fun x => match x.1 with
    | .nx ρ' => loopX tg gd all g ds ρ' x.2
    | .ct ρ' => loopX tg gd all g ds ρ' x.2
    | .bk ρ' => some (.nx ρ', x.2)
    | .rt d => some (.rt d, x.2)
    | .ex cn fs ρ' => some (.ex cn fs ρ', x.2)
    else none
noncomputable def mxForG (sr : SqF) (tg : TgF) (gd : SxF) : SxF := fun ρ S => (sr ρ S).bind fun x => loopX tg gd x.1.1 x.1.2 x.1.1 ρ x.2
theorem loopX_in {tg : TgF} {gd : SxF} {all ds : List D} {g : Option Nat} {ρ : En} {S : Sto} {z : OX × Sto} (q : loopX tg gd all g ds ρ S = some z) : holdsG g all S := by
  cases ds with
  | nil =>
    unfold loopX at q
    by_cases h : holdsG g all S
    · exact h
    · rw [if_neg h] at q; cases q
  | cons d ds =>
    unfold loopX at q
    by_cases h : holdsG g all S
    · exact h
    · rw [if_neg h] at q; cases q
theorem loopX_nil {tg : TgF} {gd : SxF} {all : List D} {g : Option Nat} {ρ : En} {S : Sto} (h : holdsG g all S) : loopX tg gd all g [] ρ S = some (.nx ρ, S) := by
  unfold loopX
  rw [if_pos h]
theorem loopX_cons {tg : TgF} {gd : SxF} {all ds : List D} {d : D} {g : Option Nat} {ρ : En} {S : Sto} (h : holdsG g all S) : loopX tg gd all g (d :: ds) ρ S = (tg ρ d).bind fun ρ1 => (gd ρ1 S).bind fun x => match x.1 with
    | .nx ρ' => loopX tg gd all g ds ρ' x.2
    | .ct ρ' => loopX tg gd all g ds ρ' x.2
    | .bk ρ' => some (.nx ρ', x.2)
    | .rt d => some (.rt d, x.2)
    | .ex cn fs ρ' => some (.ex cn fs ρ', x.2) := by
  rw [loopX, if_pos h]
section
variable {X : Cx} {W : WX} {st : Stmt} {sr : SqF} {tg : TgF} {gd : SxF}
theorem mx_forG (h : PS X st (tFor (tIG X.K X.mg sr) (tG X.K X.mg tg) (tSx X.K X.mg W gd))) : MX X W st (mxForG sr tg gd) := ps_imp h <| by
  rintro Dd σ H ⟨c, ρ, o, S', ⟨rfl, k, en⟩, q, p⟩
  obtain ⟨⟨⟨ds, g⟩, S1⟩, h1, q⟩ := bd q
  refine ⟨c, ρ, ds, g, S1, .of k en, h1, fun J c1 l1 k1 e1 En => ?_⟩
  let Wn : Nat → L2.St → Hp → Prop := fun i σ H => ∃ c2 ρ2, At X.K X.mg c2 ρ2 σ H ∧ Le c1 c2 ∧ i ≤ ds.length ∧ loopX tg gd ds g (ds.drop i) ρ2 c2.S = some (o, S')
  refine ⟨fun i m σ H => m = ds.length - i ∧ Wn i σ H, ⟨_, rfl, c1, ρ, .of k1 (en.mono l1), .refl _, Nat.zero_le _, by rw [e1]; exact q⟩, ?_⟩
  rintro i m σ' H' ⟨rfl, c2, ρ2, ⟨rfl, k2, en2⟩, l2, hi, q2⟩
  have hG := loopX_in q2
  obtain ⟨Eg, Es⟩ := En i c2 l2.lw k2 hG
  rcases Nat.lt_or_ge i ds.length with z | z
  · right
    obtain ⟨hg, hy⟩ := Eg _ (List.getElem?_eq_getElem z)
    rw [List.drop_eq_getElem_cons z, loopX_cons hG] at q2
    obtain ⟨ρ3, g1, q2⟩ := bd q2
    obtain ⟨⟨x, S3⟩, g2, q2⟩ := bd q2
    refine ⟨hg, Wn (i + 1), fun σ3 H3 w => ⟨ds.length - (i + 1), by omega, rfl, w⟩, fun v H3 y => ?_⟩
    obtain ⟨c3, rfl, l3, k3, e3, D3⟩ := hy v H3 y
    refine ⟨c3, ρ2, _, ρ3, .of k3 (en2.mono l3), D3, g1, fun σ4 en4 => ⟨c3, ρ3, x, S3, .of k3 en4, by rw [e3]; exact g2, fun c4 l4 k4 e4 => ?_⟩⟩
    have l5 := l2.trans (l3.trans l4)
    cases x with
    | nx ρ' => exact fun σ5 en5 => ⟨c4, ρ', .of k4 en5, l5, z, by rw [e4]; exact q2⟩
    | ct ρ' => exact fun σ5 en5 => ⟨c4, ρ', .of k4 en5, l5, z, by rw [e4]; exact q2⟩
    | bk ρ' => cases q2; exact p c4 (l1.trans l5) k4 e4
    | rt d => cases q2; exact p c4 (l1.trans l5) k4 e4
    | ex cn fs ρ' => cases q2; exact p c4 (l1.trans l5) k4 e4
  · left
    refine ⟨Es z, ?_⟩
    rw [List.drop_eq_nil_of_le z, loopX_nil hG] at q2
    cases q2
    exact p c2 (l1.trans l2) k2 rfl σ' en2
end

/-! ### a list with a thing that may raise -/
def mxLst (fa : RxF (List D)) : RxF D := fun ρ S => bx (fa ρ S) fun xs S1 => if xs.length ≤ 100000 then some (.ok (.lst xs), S1) else none
theorem mex_lst {X : Cx} {W : WX} {pos : Pos} {es : List Expr} {fa : RxF (List D)} (ha : MAx X W es fa) : MEx X W (.List es pos) (mxLst fa) := by
  refine pe_imp (pe_lst ha) ?_
  rintro σ H Q ⟨c, ρ, ⟨rfl, k, en⟩, r, S', h1, h2⟩
  obtain ⟨⟨ds, S1⟩, h3, h4⟩ := bd h1
  refine ⟨c, ρ, .of k en, ds, S1, h3, fun c1 l1 k1 e1 => ?_⟩
  cases ds with
  | ok ds =>
    have h5 : (if ds.length ≤ 100000 then some (RX.ok (D.lst ds), S1) else none) = some (r, S') := h4
    by_cases z : ds.length ≤ 100000
    · rw [if_pos z] at h5
      cases h5
      intro vs D1
      refine ⟨by rw [D1.length]; exact sz5 z, post_lst (c := c1) (ds := ds) (K := X.K) (mg := X.mg) (fun v c2 l2 k2 e2 D2 => h2 c2 (l1.trans l2) k2 (e2.trans e1) v D2) k1 D1⟩
    · rw [if_neg z] at h5; cases h5
  | ex cn fs =>
    cases h4
    exact h2 c1 l1 k1 e1

/-! ### two names, the second one first, of a def that may raise -/
structure CalXR (P : Program) (w : World) (K : PySem.W.Frag) (mg : Str → Option Value) (base : Heap) (k : Nat) (x p q : Str) (F : FnR) : Prop where
  ex : ∃ (f : Addr) (fd : FuncData), mg x = some (.ref f) ∧ PySem.W.keepIn K (.ref f) = true ∧ (∀ (s : Shared) (u v : Value), BindsTo s fd ⟨[], [(q, u), (p, v)]⟩ [(p, v), (q, u)]) ∧ FnX P w K mg base k f fd [p, q] (spX K mg 2 F)
theorem calXR_mk {P : Program} {w : World} {K : PySem.W.Frag} {mg : Str → Option Value} {base : Heap} {x p q : Str} {st : Stmt} {f : Addr} {fd : FuncData} {k : Nat} {F : FnR} (Z : Fun K x x st f fd) (m : mg x = some (.ref f))
    (b : ∀ (s : Shared) (u v : Value), BindsTo s fd ⟨[], [(q, u), (p, v)]⟩ [(p, v), (q, u)]) (G : FnX P w K mg base k f fd [p, q] (spX K mg 2 F)) : CalXR P w K mg base k x p q F := ⟨⟨f, fd, m, Z.kp, b, G⟩⟩
theorem CalXR.ok {P : Program} {w : World} {K : PySem.W.Frag} {mg : Str → Option Value} {base : Heap} {k : Nat} {x p q : Str} {F : FnR} (h : CalXR P w K mg base k x p q F) : CalR P w K mg base k x p q (okF F) := by
  obtain ⟨f, fd, a, b, c, d⟩ := h.ex
  exact ⟨f, fd, a, b, c, fnX_toOk d⟩
def mxKwR (F : FnR) (f g : EvF) : RxF D := fun ρ S => (f ρ S).bind fun x => (g ρ x.2).bind fun y => F [y.1, x.1] y.2
theorem mex_kwR {X : Cx} {W : WX} {pos p kpos kpos2 : Pos} {e e2 : Expr} {f g : EvF} {k : Nat} {x y z : Str} {F : FnR} (C : CalXR X.prog X.w X.K X.mg X.base k x y z F) (hr : Rm k X.A) (tk : Takes X W) (hg : Gl X x) (he : ME X e f) (he2 : ME X e2 g)
    (hall : (backToKw pos (keywordEach [⟨some z, e, kpos⟩, ⟨some y, e2, kpos2⟩] X.env)).all (·.1.isSome) = true := by rfl) (hks : (backToKw pos (keywordEach [⟨some z, e, kpos⟩, ⟨some y, e2, kpos2⟩] X.env)).filterMap (·.1) = [z, y] := by rfl)
    (hdb : (x == ("__debug__" : Str)) = false := by decide) (hpl : ((backTo pos (starEach [] X.env)).any (·.1) || (backToKw pos (keywordEach [⟨some z, e, kpos⟩, ⟨some y, e2, kpos2⟩] X.env)).any (·.1.isNone)) = false := by rfl) :
    MEx X W (.Call (.Name x p) [] [⟨some z, e, kpos⟩, ⟨some y, e2, kpos2⟩] pos) (mxKwR F f g) := by
  obtain ⟨fa, fd, hm, hk, hb, G⟩ := C.ex
  constructor
  rintro pins s σ H Q I ⟨c, ρ, ⟨rfl, k, en⟩, r, S', h1, h2⟩
  obtain ⟨⟨a, S1⟩, h3, h1⟩ := bd h1
  obtain ⟨⟨b, S2⟩, h4, h5⟩ := bd h1
  refine wpAny_Call_Name_kw (ld_glob I hg hm ?_ hdb)
  refine PySem.W.callWith_KW0 (h₀ := X.base) I.ok.mod.kin hk hall ?_ hpl
  refine thn ((pk_cons he (pk_cons he2 pk_nil)).run pos pins s σ c.H (fun vs H' => ∃ v1 v2, vs = [v1, v2] ∧ spX X.K X.mg 2 F [v2, v1] H' Q fun cls d H' => W cls d σ H') I ?_) ?_
  · refine ⟨c, ρ, a, S1, .of k en, h3, fun v c1 l1 k1 e1 D1 => ⟨c1, ρ, b, S2, .of k1 (en.mono l1), by rw [e1]; exact h4, fun w c2 l2 k2 e2 D2 => ⟨v, w, rfl, rfl, c2, [b, a], rfl, k2, .cons D2 (.cons (D1.mono l2) .nil), r, S', by rw [e2]; exact h5, fun c3 l3 => h2 c3 ((l1.trans l2).trans l3)⟩⟩⟩
  · rintro ws s2 ⟨zs, H2, I2, rz, v1, v2, rfl, hsp⟩
    refine ⟨I2.kIn, ?_⟩
    rw [hks]
    obtain ⟨u1, u2, rfl, r1, r2⟩ := vals2 rz
    refine wpAny_call (codeAny_mono (run_X (us := [u2, u1]) (vs := [v2, v1]) (ar := ⟨[], [(z, u1), (y, u2)]⟩) G hr tk (hb s2 u1 u2) I2 (.cons r2 (.cons r1 .nil)) hsp) fun r s' hq => ?_)
    match r, hq with
    | .error _, hq => exact hq
    | .ok (.ret u), hq => exact hq

/-! ### isinstance of an error -/
structure ExK (K : PySem.W.Frag) (C : Addr) : Prop where
  cl : (PySem.W.clsIn K C).isSome = true
  ga : PySem.W.findIn K (.ref C) "__getattribute__" = some (some (.builtin "BaseException.__getattribute__"))
  gt : PySem.W.findIn K (.ref C) "__getattr__" = some none
  sb : PySem.W.subIn K (.ref C) (.type "BaseException") = some true
  ha : PySem.W.findIn K (.ref C) "__class__" = some (some (.builtin "object.__class__"))
  hn : PySem.W.specialIn K (.builtin "object.__class__") "__get__" = some (some (.builtin "getset_descriptor.__get__"))
  ht : PySem.W.takesIn K (.builtin "object.__class__") = some true
  hm : PySem.W.mroIn K C (.type "object") = some true
/-- what is known of cn's place beneath a class -/
structure IsK (K : PySem.W.Frag) (mg : Str → Option Value) (cn cls : Str) (b : Bool) : Prop where
  ex : ∀ C C', mg cn = some (.ref C) → mg cls = some (.ref C') → ExK K C ∧ PySem.W.kitOne K (.ref C) (.ref C') = some b
def mIsX (tab : List (Str × Bool)) (f : EvF) : EvF := fun ρ S => (f ρ S).bind fun x => match x.1 with
  | .err cn _ => (tab.lookup cn).map fun b => (.bl b, x.2)
  | _ => none
theorem me_isX {X : Cx} {e : Expr} {f : EvF} {cls : Str} {C' : Addr} {tab : List (Str × Bool)} {p p2 pos : Pos} (hg : Gl X "isinstance") (hm : X.mg "isinstance" = none) (hgc : Gl X cls) (hmc : X.mg cls = some (.ref C')) (T : ∀ cn b, tab.lookup cn = some b → IsK X.K X.mg cn cls b) (he : ME X e f)
    (hd : (cls == ("__debug__" : Str)) = false := by decide)
    (n1 : starEach [e, .Name cls p2] X.env = (false, eval e X.env) :: starEach [.Name cls p2] X.env := by rfl) (n2 : (backTo pos (starEach [.Name cls p2] X.env)).any (·.1) = false := by rfl) :
    ME X (.Call (.Name "isinstance" p) [e, .Name cls p2] [] pos) (mIsX tab f) := by
  have hc : CallR X (.builtin "isinstance") (fun xs H Q => ∃ (c : Cfg) (v : V) (cn : Str) (fs : Fs) (b : Bool), c.H = H ∧ Den X.K X.mg c v (.err cn fs) ∧ xs = [v, .ref C'] ∧ tab.lookup cn = some b ∧ Q (.bl b) H) := by
    rintro pins s σ H xs us Q I r ⟨c, v, cn, fs, b, rfl, D1, rfl, hb, q⟩
    obtain ⟨u1, u2, rfl, r1, r2⟩ := vals2 r
    obtain rfl : u2 = Value.ref C' := r2
    cases D1 with
    | @err a C od vs _ _ nb hmn ea ed q' =>
      obtain rfl : u1 = Value.ref a := r1
      obtain ⟨Z, kb⟩ := (T cn b hb).ex C C' hmn hmc
      obtain ⟨oe, ha, hz1, hz2, fl, hd⟩ : ∃ oe, s.heap.get? a = some oe ∧ oe.cls = .ref C ∧ oe.dict = od ∧ ∃ w, oe.data = .fields w := by
        rcases ea with ea | ⟨oe, u, ea, hz, hf⟩
        · obtain ⟨t1, ho⟩ := exo_at I.hok ea
          exact ⟨_, ho, rfl, rfl, _, rfl⟩
        · exact ⟨oe, (I.hok a _ ea).1, hz.1, hz.2, hf⟩
      have nc : PySem.W.notCls oe := by unfold PySem.W.notCls; rw [hd] <;> rfl
      cases od with
      | none =>
        have J : PySem.W.InstAt s.heap a oe C none := ⟨ha, hz1, nc, by rw [hz2]; trivial⟩
        exact PySem.W.kia_one (PySem.W.kitx_exc Z.cl Z.ga Z.gt Z.sb Z.ha Z.hn Z.ht Z.hm) I.kIn J kb (fun z => nomatch z) fun tk => ⟨.bl b, c.H, I.tok tk, rfl, q⟩
      | some dd =>
        obtain ⟨ndd, ed⟩ := ed
        obtain ⟨mA, hns⟩ : ∃ mA, s.heap.Ns1 dd mA := by
          rcases ed with ed | ed
          · obtain ⟨mA, h1, _⟩ := exd_at I.hok ed
            exact ⟨mA, h1⟩
          · obtain ⟨mA, h1, _⟩ := (show ObjOk X.prog X.w c.H s.heap dd (.xd vs) from I.hok dd _ ed)
            exact ⟨mA, h1⟩
        obtain ⟨odd, ho, hl⟩ := lookIn_ns hns
        have J : PySem.W.InstAt s.heap a oe C (some odd) := ⟨ha, hz1, nc, by rw [hz2]; exact ho⟩
        exact PySem.W.kia_one (PySem.W.kitx_exc Z.cl Z.ga Z.gt Z.sb Z.ha Z.hn Z.ht Z.hm) I.kIn J kb (fun z => nomatch z) fun tk => ⟨.bl b, c.H, I.tok tk, rfl, q⟩
  refine pe_imp (pe_callB hc hg hm PyProof.Rows.boot_isinstance (pa_cons he (pa_cons (pe_glob (v := .ref C') (u := .ref C') hgc hmc rfl hd) pa_nil) n1) (by decide) (by decide) n1 n2) ?_
  rintro σ H Q ⟨c, ρ, d, S', ⟨rfl, k, en⟩, q, P⟩
  obtain ⟨⟨x, S1⟩, h1, h2⟩ := bd q
  clear q
  cases x <;> try (cases h2)
  rename_i cn fs
  obtain ⟨b, h3, h4⟩ := mp (show (tab.lookup cn).map _ = some (d, S') from h2)
  cases h4
  exact ⟨c, ρ, _, _, .of k en, h1, fun v c1 l1 k1 e1 D1 => ⟨c1, v, cn, fs, b, rfl, D1, rfl, h3, P _ c1 l1 k1 e1 (.bl b)⟩⟩

/-! ### dict(d), a new thing of the store -/
def mDctN (fa : EvF) : EvF := fun ρ S => (fa ρ S).bind fun x => match x.1 with
  | .dct kvs => some (.ref x.2.length, x.2 ++ [.dct kvs])
  | _ => none
theorem me_dctN {X : Cx} {e : Expr} {f : EvF} (h : PE X e (tCB (fun xs H Q => ∃ (a : Addr) (kvs : List (Key × V)), xs = [.ref a] ∧ Rd H a (.dK kvs) ∧ ∀ p, H p = none → Q (.ref p) (upd H p (.dK kvs))) (tAs X.K X.mg (mCons f mNil)))) : ME X e (mDctN f) := pe_imp h <| by
  rintro σ H Q ⟨c, ρ, d, S', ⟨rfl, k, en⟩, q, p⟩
  obtain ⟨⟨x, S1⟩, h1, q1⟩ := bd q
  obtain ⟨kvs, rfl⟩ : ∃ kvs, x = .dct kvs := by cases x <;> first | exact ⟨_, rfl⟩ | cases q1
  cases q1
  refine ⟨c, ρ, [.dct kvs], S1, .of k en, one_arg h1, fun vs c1 l1 k1 e1 D1 => ?_⟩
  subst e1
  obtain ⟨v, rfl, q1⟩ := da1 D1
  cases q1 with
  | dct n s1 t1 => exact ⟨_, _, rfl, .inl s1, fun a ha => post_new (ob := .dct _) (p.mono l1) k1 ha (upd_keep ha) ⟨_, upd_same, t1.mono (new_le ha (upd_keep ha))⟩⟩
end M

namespace M
open PySem PySem.Spec L2 W2 RZ
/-! ### repr that looks into the store -/
mutual
def toQS (S : Sto) : D → Option PyData
  | .non => some .none
  | .bl b => some (.bool b)
  | .int i => some (.int i)
  | .str x => some (.str x)
  | .lst ds => (toQSA S ds).map .list
  | .tup ds => (toQSA S ds).map .tuple
  | .dct kvs => (toQK kvs).map .dict
  | .ref j => match S[j]? with
    | some (.lst ds) => (toQA ds).map .list
    | some (.dct kvs) => (toQK kvs).map .dict
    | _ => none
  | .fn _ => none
  | .ty _ => none
  | .seq _ => none
  | .cls _ => none
  | .err _ _ => none
def toQSA (S : Sto) : List D → Option (List PyData)
  | [] => some []
  | d :: ds => (toQS S d).bind fun x => (toQSA S ds).map fun r => x :: r
end
section
variable {X : Cx} {pins : List (Addr × Obj)} {σ : L2.St} {s : Shared} {mg : Str → Option Value} {c : Cfg}
theorem toQ_dct {kvs : List (Key × D)} : toQ (.dct kvs) = (toQK kvs).map .dict := by rw [toQ]
mutual
theorem den_readsS (k : Ok X.K mg c) (I : Inv X pins σ c.H s) (hs : ∃ mm, X.base.Ns sysModules mm) : ∀ {d : D} {v : V} {u : Value} {p : PyData}, Den X.K mg c v d → RelV v u → toQS c.S d = some p → ∃ as, Reads s.heap u p as ∧ sysModules ∉ as
  | .non, _, _, _, h, r, e => by cases h; cases r; rw [toQS] at e; cases e; exact ⟨[], .none, List.not_mem_nil⟩
  | .bl b, _, _, _, h, r, e => by cases h; cases r; rw [toQS] at e; cases e; exact ⟨[], .bool b, List.not_mem_nil⟩
  | .int b, _, _, _, h, r, e => by cases h; obtain ⟨t, rfl⟩ := r; rw [toQS] at e; cases e; exact ⟨[], .int b t, List.not_mem_nil⟩
  | .str b, _, _, _, h, r, e => by cases h; obtain ⟨t, rfl⟩ := r; rw [toQS] at e; cases e; exact ⟨[], .str b t, List.not_mem_nil⟩
  | .lst ds, _, _, _, h, r, e => by
    rw [toQS] at e
    obtain ⟨xs, e1, rfl⟩ := mp e
    cases h with
    | lst s1 t1 =>
      cases r
      obtain ⟨its, rv, ⟨o, z, ho, hc, _, hd⟩, _⟩ := I.list s1.get
      obtain ⟨as, hr, kk⟩ := den_readsSA k I hs t1 rv e1
      refine ⟨_, Reads.list ho hc hd hr, ?_⟩
      rcases s1.2 with s2 | ⟨ob, s2⟩
      · exact sys_no I hs s2 kk
      · exact sys_no I hs s2 kk
  | .tup ds, _, _, _, h, r, e => by
    rw [toQS] at e
    obtain ⟨xs, e1, rfl⟩ := mp e
    cases h with
    | tup s1 t1 =>
      cases r
      obtain ⟨its, rv, ⟨o, ho, hc, z, hd⟩, _⟩ := I.tuple s1.get
      obtain ⟨as, hr, kk⟩ := den_readsSA k I hs t1 rv e1
      exact ⟨_, Reads.tuple ho hc hd hr, kk⟩
  | .dct ds, _, _, _, h, r, e => by
    rw [toQS] at e
    exact den_reads I hs h r (by rw [toQ_dct]; exact e)
  | .ref j, _, _, _, h, r, e => by
    rw [toQS] at e
    cases h with
    | ref hj =>
      cases r
      split at e
      · rename_i ds hS
        obtain ⟨xs, e1, rfl⟩ := mp e
        obtain ⟨vs, hv, t⟩ := k.at_ _ _ hS
        obtain ⟨its, rv, ⟨o, z, ho, hc, _, hd⟩, _⟩ := I.list (.inl (.inl hv))
        obtain ⟨as, hr, kk⟩ := den_readsA I hs t rv e1
        exact ⟨_, Reads.list ho hc hd hr, sys_no I hs hv kk⟩
      · rename_i kvs hS
        obtain ⟨xs, e1, rfl⟩ := mp e
        obtain ⟨vs0, hv, t⟩ := k.at_ _ _ hS
        obtain ⟨_, hm, vs, kv, o, es, ep, ho, hx, hd, hes⟩ := dk_of I.hok hv
        obtain ⟨as, hr, kk⟩ := den_readsK I hs t kv e1
        obtain ⟨_, hp, _⟩ := hes
        obtain ⟨r1, e2⟩ := pairs_reads (h := s.heap) hp
        rw [← e2] at hr
        rw [keys_q t kv e1] at r1
        exact ⟨_, Reads.dict ho hx.1 hd r1 hr, sys_no I hs hv (by simpa using kk)⟩
      · cases e
  | .fn _, _, _, _, _, _, e => by rw [toQS] at e; cases e
  | .ty _, _, _, _, _, _, e => by rw [toQS] at e; cases e
  | .seq _, _, _, _, _, _, e => by rw [toQS] at e; cases e
  | .cls _, _, _, _, _, _, e => by rw [toQS] at e; cases e
  | .err _ _, _, _, _, _, _, e => by rw [toQS] at e; cases e
theorem den_readsSA (k : Ok X.K mg c) (I : Inv X pins σ c.H s) (hs : ∃ mm, X.base.Ns sysModules mm) : ∀ {ds : List D} {vs : List V} {us : List Value} {ps : List PyData}, DenA X.K mg c vs ds → Vals vs us → toQSA c.S ds = some ps → ∃ as, ReadsAll s.heap us ps as ∧ sysModules ∉ as
  | [], _, _, _, h, r, e => by cases h; cases r; rw [toQSA] at e; cases e; exact ⟨[], .nil, List.not_mem_nil⟩
  | d :: ds, _, _, _, h, r, e => by
    rw [toQSA] at e
    obtain ⟨x, e1, e⟩ := bd e
    obtain ⟨xs, e2, rfl⟩ := mp e
    cases h with
    | cons h1 h2 =>
      cases r with
      | cons r1 r2 =>
        obtain ⟨as, q1, k1⟩ := den_readsS k I hs h1 r1 e1
        obtain ⟨bs, q2, k2⟩ := den_readsSA k I hs h2 r2 e2
        exact ⟨_, ReadsAll.cons q1 q2, fun q => (List.mem_append.mp q).elim k1 k2⟩
end
end
def reprS : CbF := fun S ds => match ds with
  | [d] => (toQS S d).bind fun p => if fitB p = true ∨ fitL p = true then some (.str p.shown) else none
  | _ => none
theorem cd_reprS {X : Cx} (hr : Rg X.A) (hs : ∃ mm, X.base.Ns sysModules mm) : CallD X (.builtin "repr") reprS := by
  rintro pins s σ H xs us Q I r ⟨c, ds, z, rfl, k, D1, e, P⟩
  have hu := hr.un
  unfold reprS at e
  split at e
  · obtain ⟨v, rfl, q⟩ := da1 D1
    obtain ⟨p, h1, e⟩ := bd e
    by_cases F : fitB p = true ∨ fitL p = true
    · rw [if_pos F] at e
      cases e
      obtain ⟨f1, f3, hz⟩ := fit_go F
      obtain ⟨u, rfl, r1⟩ := vals1 r
      obtain ⟨as, R, ns⟩ := den_readsS k I hs q r1 h1
      have P' := P.here k (.str _)
      cases R with
      | none => exact PySem.P.repr_of_none ⟨.str _, c.H, I.tok _, ⟨_, rfl⟩, P'⟩
      | bool b =>
        refine PySem.P.repr_of_bool ⟨.str _, c.H, I.tok _, ⟨_, rfl⟩, ?_⟩
        cases b <;> exact P'
      | int i t => exact PySem.P.repr_of_int (by simpa [PyData.showable] using f1) ⟨.str _, c.H, I.tok _, ⟨_, rfl⟩, P'⟩
      | str x t => exact PySem.P.repr_of_str ⟨.str _, c.H, I.tok _, ⟨_, rfl⟩, P'⟩ hz
      | list g1 g2 g3 g4 => exact repr_of_reads' (Reads.list g1 g2 g3 g4) f1 (fun _ => ns) hr.g (by omega) (fun _ _ e => e) (fun h' t tk k => ⟨.str _, c.H, I.kept k, ⟨_, rfl⟩, P'⟩) hz
      | tuple g1 g2 g3 g4 => exact repr_of_reads' (Reads.tuple g1 g2 g3 g4) f1 (fun _ => ns) hr.g (by omega) (fun _ _ e => e) (fun h' t tk k => ⟨.str _, c.H, I.kept k, ⟨_, rfl⟩, P'⟩) hz
      | dict g1 g2 g3 g4 g5 => exact repr_of_reads' (Reads.dict g1 g2 g3 g4 g5) f1 (fun _ => ns) hr.g (by omega) (fun _ _ e => e) (fun h' t tk k => ⟨.str _, c.H, I.kept k, ⟨_, rfl⟩, P'⟩) hz
    · rw [if_neg F] at e; cases e
  · cases e
end M

namespace M
open PySem PySem.Spec L2 W2 RZ
theorem isx1 {K : PySem.W.Frag} {mg : Str → Option Value} {cn cls : Str} {b : Bool} (h : IsK K mg cn cls b) : ∀ cn' b', List.lookup cn' [(cn, b)] = some b' → IsK K mg cn' cls b' := by
  intro cn' b' e
  by_cases z : cn' = cn
  · subst z
    rw [List.lookup_cons_self] at e
    cases e
    exact h
  · have z2 : (cn' == cn) = false := by simpa using z
    rw [List.lookup, z2] at e
    cases e
theorem isK_mk {K : PySem.W.Frag} {mg : Str → Option Value} {cn cls : Str} {b : Bool} {C C' : Addr} (h1 : mg cn = some (.ref C)) (h2 : mg cls = some (.ref C')) (z : ExK K C) (kb : PySem.W.kitOne K (.ref C) (.ref C') = some b) : IsK K mg cn cls b :=
  ⟨fun D D' q1 q2 => by
    rw [h1] at q1
    rw [h2] at q2
    cases q1
    cases q2
    exact ⟨z, kb⟩⟩
end M

namespace M
open PySem PySem.Spec L2 W2 RZ
/-! ### range(a, b) -/
def fromto (a b : Int) : List D := (List.range (b - a).toNat).map fun (i : Nat) => D.int (a + (i : Int))
def sR2 (f g : EvF) : SrF := fun ρ S => (f ρ S).bind fun x => (g ρ x.2).bind fun y => match x.1, y.1 with
  | .int a, .int b => if -1000000 ≤ a ∧ a ≤ 1000000 ∧ -1000000 ≤ b ∧ b ≤ 1000000 then some (fromto a b, y.2) else none
  | _, _ => none
theorem mi_range2 {X : Cx} {tg it : Expr} {f g : EvF} (h : PI X tg it (iRng2 (tAs X.K X.mg (mCons f (mCons g mNil))))) : MI X tg it (sR2 f g) := pi_imp h <| by
  rintro σ H R ⟨c, ρ, ds, S', ⟨rfl, k, en⟩, q, p⟩
  obtain ⟨⟨x, S1⟩, h1, q⟩ := bd q
  obtain ⟨⟨y, S2⟩, h2, q⟩ := bd q
  obtain ⟨a, rfl⟩ : ∃ a, x = .int a := by cases x <;> first | exact ⟨_, rfl⟩ | (cases y <;> cases q)
  obtain ⟨b, rfl⟩ : ∃ b, y = .int b := by cases y <;> first | exact ⟨_, rfl⟩ | cases q
  have q' : (if -1000000 ≤ a ∧ a ≤ 1000000 ∧ -1000000 ≤ b ∧ b ≤ 1000000 then some (fromto a b, S2) else none) = some (ds, S') := q
  by_cases z : -1000000 ≤ a ∧ a ≤ 1000000 ∧ -1000000 ≤ b ∧ b ≤ 1000000
  · rw [if_pos z] at q'
    cases q'
    have hh : mCons f (mCons g mNil) ρ c.S = some ([.int a, .int b], S') := by
      show (f ρ c.S).bind _ = _
      rw [h1]
      show Option.map _ ((g ρ S1).bind _) = _
      rw [h2]
      rfl
    refine ⟨c, ρ, _, _, .of k en, hh, fun vs c1 l1 k1 e1 D1 => ?_⟩
    obtain ⟨v1, v2, rfl, d1, d2⟩ := da2 D1
    cases d1
    cases d2
    refine ⟨a, b, rfl, ⟨by omega, by omega, by omega, by omega⟩, p _ c1 l1 k1 e1 fun i c2 l2 k2 => ⟨fun d e => ?_, fun hl => ?_⟩⟩
    · unfold fromto at e
      rw [List.getElem?_map] at e
      obtain ⟨j, e1, e2⟩ := Option.map_eq_some_iff.mp e
      have l := lt_of_get e1
      rw [List.getElem?_range (by simpa using l)] at e1
      cases e1
      subst e2
      refine ⟨by show i < (b - a).toNat; simpa using l, ?_⟩
      rintro x H' ⟨rfl, rfl⟩
      exact ⟨c2, rfl, .refl _, k2, rfl, .int _⟩
    · show (b - a).toNat ≤ i
      have : (fromto a b).length = (b - a).toNat := by simp [fromto]
      omega
  · rw [if_neg z] at q'
    cases q'
theorem w_sr2 {f g : EvF} {ρ : En} {S : Sto} {L : List D × Sto → Prop} : wp (sR2 f g ρ S) L ↔ wp (f ρ S) fun x => wp (g ρ x.2) fun y => wp (match x.1, y.1 with
  | .int a, .int b => if -1000000 ≤ a ∧ a ≤ 1000000 ∧ -1000000 ≤ b ∧ b ≤ 1000000 then some (fromto a b, y.2) else none
  | _, _ => none) L := by unfold sR2; simp only [wp_bind] <;> exact Iff.rfl
end M
namespace M
open PySem PySem.Spec L2 W2 RZ
theorem me_call0 {X : Cx} {pos p : Pos} {k : Nat} {x : Str} {F : Fn} (C : Cal X.prog X.w X.K X.mg X.base k x 0 F) (hr : Rm k X.A) (hg : Gl X x)
    (hdb : (x == ("__debug__" : Str)) = false := by decide) : ME X (.Call (.Name x p) [] [] pos) (mCall F mNil) := by
  obtain ⟨f, fd, ps, hm, hk, hb, G, hl⟩ := C.ex
  refine pe_imp (pe_X0 G hr takes_none5 hg hm hk hb hdb) ?_
  rintro σ H Q ⟨c, ρ, d, S', ⟨rfl, k, en⟩, q, p⟩
  exact ⟨rfl, c, [], d, S', rfl, k, .nil, q, p⟩
end M
namespace M
open PySem PySem.Spec L2 W2 RZ
/-! ### clauses that some errors pass by -/
def sbT (cn : Str) (no : List Str) : Str → Option Bool := fun x => if x = cn then some true else if x ∈ no then some false else none
structure XnK (K : PySem.W.Frag) (mg : Str → Option Value) (cn cls : Str) : Prop where
  ex : ∀ C C', mg cn = some (.ref C) → mg cls = some (.ref C') → PySem.W.exmOne K (.ref C) (.ref C') = some false
theorem xn1 {K : PySem.W.Frag} {mg : Str → Option Value} {x cn : Str} (h : XnK K mg x cn) : ∀ y ∈ [x], XnK K mg y cn := fun y m => by rw [List.mem_singleton.mp m]; exact h
theorem xnK_mk {K : PySem.W.Frag} {mg : Str → Option Value} {cn cls : Str} {C C' : Addr} (h1 : mg cn = some (.ref C)) (h2 : mg cls = some (.ref C')) (z : PySem.W.exmOne K (.ref C) (.ref C') = some false) : XnK K mg cn cls :=
  ⟨fun D D' q1 q2 => by
    rw [h1] at q1
    rw [h2] at q2
    cases q1
    cases q2
    exact z⟩
theorem subOk_t {K : PySem.W.Frag} {mg : Str → Option Value} {cn f : Str} {C : Addr} {no : List Str} (F : ErF K mg cn f C) (h : ∀ x ∈ no, XnK K mg x cn) : SubOk K mg (sbT cn no) (.ref C) := by
  intro x b C' e hm
  unfold sbT at e
  split at e
  · rename_i q
    subst q
    cases e
    rw [F.m] at hm
    cases hm
    exact F.me
  · split at e
    · rename_i q
      cases e
      exact (h x q).ex C' C hm F.m
    · cases e
end M

namespace Ln
open PySem PySem.StrLaws L2 M
/-! ### texts as lists of codes -/
abbrev cs (x : Str) : List Nat := x.cps.toList
def mk (l : List Nat) : Str := ⟨l.toArray⟩
theorem cs_mk (l : List Nat) : cs (mk l) = l := by simp [cs, mk]
theorem mk_cs (x : Str) : mk (cs x) = x := by
  obtain ⟨a⟩ := x
  simp [cs, mk]
theorem str_ext {x y : Str} (h : cs x = cs y) : x = y := by rw [← mk_cs x, ← mk_cs y, h]
theorem len_cs (x : Str) : x.length = (cs x).length := by simp [cs, Str.length]
theorem cs_app (x y : Str) : cs (x ++ y) = cs x ++ cs y := by
  show (x.cps ++ y.cps).toList = _
  simp [cs]
/-! ### a sign for a sign -/
theorem repl1 {k : Nat} {z : List Nat} : ∀ l : List Nat, replL [k] z l = l.flatMap fun c => if c = k then z else [c]
  | [] => by rw [replL_nil]; rfl
  | c :: r => by
    have ih := repl1 (k := k) (z := z) r
    by_cases h : c = k
    · rw [replL_hit (by simp) (by simp [h]), List.flatMap_cons, if_pos h]
      show z ++ replL [k] z r = _
      rw [ih]
    · rw [replL_miss (by simp [h]), List.flatMap_cons, if_neg h, ih]
      rfl
def esc1 (c : Nat) : List Nat := if c = 92 then [92, 92] else if c = 34 then [92, 34] else [c]
def esc (l : List Nat) : List Nat := l.flatMap esc1
theorem esc_cons (c : Nat) (r : List Nat) : esc (c :: r) = esc1 c ++ esc r := by rw [esc, List.flatMap_cons]; rfl
theorem esc_eq (l : List Nat) : replL [34] [92, 34] (replL [92] [92, 92] l) = esc l := by
  rw [repl1, repl1, List.flatMap_assoc]
  unfold esc
  congr 1
  funext c
  unfold esc1
  by_cases h : c = 92
  · subst h; rfl
  · rw [if_neg h, if_neg h]
    by_cases h2 : c = 34
    · subst h2; rfl
    · simp [h2]
def dbl2 (l : List Nat) : List Nat := l.flatMap fun c => if c = 92 then [92, 92] else [c]
theorem esc_head {l r : List Nat} {c : Nat} (h : esc l = c :: r) : c ≠ 34 := by
  cases l with
  | nil => cases h
  | cons d t =>
    rw [esc_cons] at h
    unfold esc1 at h
    by_cases h1 : d = 92
    · rw [if_pos h1] at h; cases h; decide
    · rw [if_neg h1] at h
      by_cases h2 : d = 34
      · rw [if_pos h2] at h; cases h; decide
      · rw [if_neg h2] at h; cases h; exact h2
theorem un1 : ∀ l : List Nat, replL [92, 34] [34] (esc l) = dbl2 l
  | [] => by show replL [92, 34] [34] [] = _; rw [replL_nil]; rfl
  | c :: r => by
    have ih := un1 r
    rw [esc_cons]
    have e : dbl2 (c :: r) = (if c = 92 then [92, 92] else [c]) ++ dbl2 r := by unfold dbl2; rw [List.flatMap_cons]
    rw [e]
    unfold esc1
    by_cases h1 : c = 92
    · rw [if_pos h1, if_pos h1]
      show replL [92, 34] [34] (92 :: 92 :: esc r) = 92 :: 92 :: dbl2 r
      rw [replL_miss (by simp), replL_miss, ih]
      cases er : esc r with
      | nil => simp
      | cons d t =>
        have := esc_head er
        simp [this]
    · rw [if_neg h1, if_neg h1]
      by_cases h2 : c = 34
      · rw [if_pos h2]
        subst h2
        show replL [92, 34] [34] (92 :: 34 :: esc r) = 34 :: dbl2 r
        rw [replL_hit (by simp) (by simp)]
        show 34 :: replL [92, 34] [34] (esc r) = _
        rw [ih]
      · rw [if_neg h2]
        show replL [92, 34] [34] (c :: esc r) = c :: dbl2 r
        rw [replL_miss, ih]
        cases er : esc r with
        | nil => simp
        | cons d t => simp [h1]
theorem un2 : ∀ l : List Nat, replL [92, 92] [92] (dbl2 l) = l
  | [] => by show replL [92, 92] [92] [] = _; rw [replL_nil]
  | c :: r => by
    have ih := un2 r
    have e : dbl2 (c :: r) = (if c = 92 then [92, 92] else [c]) ++ dbl2 r := by unfold dbl2; rw [List.flatMap_cons]
    rw [e]
    by_cases h1 : c = 92
    · rw [if_pos h1]
      subst h1
      show replL [92, 92] [92] (92 :: 92 :: dbl2 r) = _
      rw [replL_hit (by simp) (by simp)]
      show 92 :: replL [92, 92] [92] (dbl2 r) = _
      rw [ih]
    · rw [if_neg h1]
      show replL [92, 92] [92] (c :: dbl2 r) = _
      rw [replL_miss, ih]
      cases er : dbl2 r with
      | nil => simp
      | cons d t => simp [h1]
def unesc (l : List Nat) : List Nat := replL [92, 92] [92] (replL [92, 34] [34] l)
theorem unesc_esc (l : List Nat) : unesc (esc l) = l := by unfold unesc; rw [un1, un2]
theorem esc_len (l : List Nat) : (esc l).length ≤ 2 * l.length := by
  induction l with
  | nil => simp [esc]
  | cons c r ih =>
    rw [esc_cons, List.length_append, List.length_cons]
    have : (esc1 c).length ≤ 2 := by unfold esc1; split <;> (try split) <;> simp
    omega
theorem replL_len {y z : List Nat} (h : z.length ≤ y.length) (hy : y ≠ []) : ∀ (n : Nat) (l : List Nat), l.length ≤ n → (replL y z l).length ≤ l.length
  | _, [], _ => by rw [replL_nil]; simp
  | 0, c :: r, hl => by simp at hl
  | n + 1, c :: r, hl => by
    by_cases q : (c :: r).take y.length = y
    · rw [replL_hit hy q, List.length_append]
      have hyl : y.length ≤ (c :: r).length := by rw [← q, List.length_take]; exact Nat.min_le_right _ _
      have hp : 0 < y.length := by cases y with
        | nil => exact absurd rfl hy
        | cons a b => simp
      have hd : ((c :: r).drop y.length).length = (c :: r).length - y.length := List.length_drop
      have ih := replL_len h hy n ((c :: r).drop y.length) (by rw [hd]; simp at hl ⊢; omega)
      rw [hd] at ih
      omega
    · rw [replL_miss q, List.length_cons, List.length_cons]
      have ih := replL_len h hy n r (by simp at hl; omega)
      omega
theorem unesc_len (l : List Nat) : (unesc l).length ≤ l.length :=
  Nat.le_trans (replL_len (by decide) (by decide) _ _ (Nat.le_refl _)) (replL_len (by decide) (by decide) _ _ (Nat.le_refl _))

/-! ### values, and their lines -/
mutual
def valD : D → Bool
  | .non => true
  | .bl _ => true
  | .int i => decide (i.natAbs < 10 ^ 15)
  | .str _ => true
  | .tup ds => decide (ds.length ≤ 100000) && valA ds
  | _ => false
def valA : List D → Bool
  | [] => true
  | d :: ds => valD d && valA ds
end
def numC (i : Int) : List Nat := cs (Str.ofString (toString i))
mutual
def wrD : D → List Nat
  | .non => [126]
  | .bl b => if b then [43] else [33]
  | .int i => numC i
  | .str x => 34 :: esc (cs x) ++ [34]
  | .tup ds => 40 :: wrA ds ++ [41]
  | _ => []
def wrA : List D → List Nat
  | [] => []
  | [d] => wrD d
  | d :: ds => wrD d ++ 32 :: wrA ds
end
end Ln

namespace Ln
open PySem PySem.StrLaws L2 TL M
theorem num_nat (n : Nat) : numC (n : Int) = numL n := tl_num n
theorem sjoin_cs (sep : Str) : ∀ l : List Str, cs (Str.join sep l) = List.flatten ((l.map cs).intersperse (cs sep))
  | [] => rfl
  | [x] => by show cs x = _; simp
  | x :: y :: r => by
    have ih := sjoin_cs sep (y :: r)
    show cs (x ++ sep ++ Str.join sep (y :: r)) = _
    rw [cs_app, cs_app, ih]
    simp [List.intersperse]
theorem join_cs (sep : Str) (l : List Str) : cs (Txt.join sep l) = List.flatten ((l.map cs).intersperse (cs sep)) := by
  have e : Txt.join sep l = Str.join sep l := glued_eq_join sep l
  rw [e, sjoin_cs]
theorem strs_mk : ∀ ls : List (List Nat), strsOf (ls.map fun l => D.str (mk l)) = some (ls.map mk)
  | [] => rfl
  | l :: ls => by
    show (strsOf (ls.map fun l => D.str (mk l))).map (fun y => mk l :: y) = _
    rw [strs_mk ls]; rfl
theorem mk_len (l : List Nat) : (mk l).length = l.length := by rw [len_cs, cs_mk]
theorem mk_app (a b : List Nat) : mk a ++ mk b = mk (a ++ b) := by
  apply str_ext
  rw [cs_app, cs_mk, cs_mk, cs_mk]
theorem one_mk (c : Nat) : (⟨#[c]⟩ : Str) = mk [c] := rfl
theorem mk_inj {a b : List Nat} : mk a = mk b ↔ a = b := ⟨fun h => by rw [← cs_mk a, h, cs_mk], fun h => by rw [h]⟩
theorem drop_get {l : List Nat} {p : Nat} (h : p < l.length) : ∃ c, l[p]? = some c ∧ l.drop p = c :: l.drop (p + 1) := ⟨l[p], List.getElem?_eq_getElem h, List.drop_eq_getElem_cons h⟩
theorem w_while {n : Nat} {t : EtF} {g : StF} {ρ : En} {S : Sto} {O : Out × Sto → Prop} : wp (mWhile n t g ρ S) O ↔ wp (whl t g n ρ S) O := Iff.rfl
theorem e_inC {c : Nat} {z : Str} : inD (.str ⟨#[c]⟩) (.str z) = some (.bl (decide (c ∈ cs z))) := rfl
theorem e_ninC {c : Nat} {z : Str} : ninD (.str ⟨#[c]⟩) (.str z) = some (.bl (!decide (c ∈ cs z))) := rfl
def digs (l : List Nat) : Bool := l.all fun c => decide (48 ≤ c) && decide (c ≤ 57)
theorem digs_all {l : List Nat} : digs l = true ↔ PySem.NumText.AllDigits l := by
  unfold digs PySem.NumText.AllDigits
  rw [List.all_eq_true]
  constructor
  · intro h c hc
    have := h c hc
    simpa using this
  · intro h c hc
    have := h c hc
    simpa using this
theorem isDig_ascii {c : Nat} (h : c < 128) : Unicode.isDigit c = (decide (48 ≤ c) && decide (c ≤ 57)) := by
  have k : ∀ n : _root_.Fin 128, Unicode.isDigit n.val = (decide (48 ≤ n.val) && decide (n.val ≤ 57)) := by decide +kernel
  exact k ⟨c, h⟩
theorem t_digit {x : Str} (h : ∀ c ∈ cs x, c < 128) : Txt.isdigit x = (decide (0 < x.length) && digs (cs x)) := by
  unfold Txt.isdigit digs
  congr 1
  rw [← Array.all_toList]
  have : ∀ l : List Nat, (∀ c ∈ l, c < 128) → l.all Unicode.isDigit = l.all fun c => decide (48 ≤ c) && decide (c ≤ 57) := by
    intro l
    induction l with
    | nil => intro _; rfl
    | cons c r ih =>
      intro hl
      rw [List.all_cons, List.all_cons, ih fun d hd => hl d (List.mem_cons_of_mem _ hd), isDig_ascii (hl c List.mem_cons_self)]
  exact this _ h
theorem str_int {S : Sto} {i : Int} (h : i.natAbs.log2 < 1920) : strD S [.int i] = some (.str (mk (numC i))) := by
  show (if i.natAbs.log2 < 1920 then some (D.str (Str.ofString (toString i))) else none) = _
  rw [if_pos h, numC, mk_cs]
theorem slA {x : Str} {S : Sto} {a k : Nat} (hx : x.length ≤ 1000000) : slD S (.str x) (some ((a : Nat) : Int)) (some ((a + k : Nat) : Int)) = some (.str (mk (((cs x).drop a).take k))) := by
  show (if x.length ≤ 1000000 then some (D.str (cutS x (some (a : Int)) (some ((a + k : Nat) : Int)))) else none) = _
  rw [if_pos hx]
  congr 2
  refine str_ext ?_
  rw [cs_mk]
  unfold cutS
  rw [HT.sIx_nat, HT.sIx_nat]
  show List.take _ (List.drop _ (cs x)) = _
  rw [len_cs]
  generalize cs x = l
  have h1 : l.drop (min a l.length) = l.drop a := by
    by_cases h : a ≤ l.length
    · rw [Nat.min_eq_left h]
    · rw [Nat.min_eq_right (by omega), List.drop_length, List.drop_eq_nil_of_le (by omega)]
  rw [h1]
  by_cases h : a + k ≤ l.length
  · rw [Nat.min_eq_left h, Nat.min_eq_left (by omega)]
    congr 1
    omega
  · rw [Nat.min_eq_right (by omega : l.length ≤ a + k), List.take_of_length_le (i := k) (by rw [List.length_drop]; omega)]
    apply List.take_of_length_le
    rw [List.length_drop]
    omega
theorem lenR {S : Sto} {j : Nat} {xs : List D} (h : S[j]? = some (.lst xs)) : lenD S [.ref j] = some (.int xs.length) := by
  show (match S[j]? with | some (.lst xs) => some (D.int xs.length) | _ => none) = _
  rw [h]
theorem get_set_ne {S : Sto} {i j : Nat} {o o2 : Ob} (h : S[i]? = some o) (n : i ≠ j) : (S.set j o2)[i]? = some o := by
  rw [List.getElem?_set_ne (fun z => n z.symm)]; exact h
theorem get_set_eq {S : Sto} {j : Nat} {o o2 : Ob} (h : S[j]? = some o) : (S.set j o2)[j]? = some o2 := List.getElem?_set_self (lt_of_get h)

theorem numL_dig (n : Nat) : digs (numL n) = true := digs_all.mpr fun c hc => numL_digits n c hc
/-- so many noughts ahead of a number that it has five signs -/
def z5 (n : Nat) : List Nat := List.replicate (5 - (numL n).length) 48 ++ numL n
theorem z5_dig (n : Nat) : digs (z5 n) = true := by
  unfold z5 digs
  rw [List.all_append]
  have h := numL_dig n
  unfold digs at h
  rw [h, Bool.and_true, List.all_replicate]
  split <;> simp
theorem t_zfill {l : List Nat} (h : digs l = true) : Txt.zfill (mk l) 5 = mk (List.replicate (5 - l.length) 48 ++ l) := by
  unfold Txt.zfill
  rw [mk_len]
  by_cases q : (5 : Int) ≤ (l.length : Int)
  · rw [if_pos q, show 5 - l.length = 0 by omega]
    rfl
  · rw [if_neg q]
    have e : (5 : Int).toNat = 5 := rfl
    rw [e]
    have pd : Builtin.Str.padded (mk l) (5 - l.length) 0 48 = mk (List.replicate (5 - l.length) 48 ++ l) := by
      refine str_ext ?_
      rw [cs_mk]
      unfold Builtin.Str.padded cs
      simp [mk]
    unfold zfilled
    have hc : ∀ c, (mk l).cps[0]? = some c → 48 ≤ c := by
      intro c hc
      have e2 : l[0]? = some c := by rw [← hc]; simp [mk]
      have m := List.mem_of_getElem? e2
      have := List.all_eq_true.mp h c m
      simp at this
      exact this.1
    split
    · rename_i e2; have := hc _ e2; omega
    · rename_i e2; have := hc _ e2; omega
    · exact pd
/-- the frame of a text -/
def frL (l : List Nat) : List Nat := z5 l.length ++ 58 :: (l ++ [59])
def fr (x : Str) : Str := mk (frL (cs x))
theorem z5_len {n : Nat} (h : n < 100000) : (z5 n).length = 5 := by
  unfold z5
  have := numL_len (k := 5) (by decide) (show n < 10 ^ 5 from h)
  rw [List.length_append, List.length_replicate]
  omega
theorem frL_len {l : List Nat} (h : l.length < 100000) : (frL l).length = l.length + 7 := by
  unfold frL
  rw [List.length_append, z5_len h, List.length_cons, List.length_append, List.length_singleton]
  omega
theorem dig_sgn {l : List Nat} (h : digs l = true) : l.all sgn = true := by
  unfold digs at h
  rw [List.all_eq_true] at h ⊢
  intro c hc
  have := h c hc
  unfold sgn
  simp at this ⊢
  omega
theorem frL_sgn {l : List Nat} (h : l.all sgn = true) : (frL l).all sgn = true := by
  unfold frL
  rw [List.all_append, dig_sgn (z5_dig _), List.all_cons, List.all_append, h]
  rfl
theorem sgn_lt {l : List Nat} (h : l.all sgn = true) : ∀ c ∈ l, c < 128 := by
  intro c hc
  have := List.all_eq_true.mp h c hc
  unfold sgn at this
  simp at this
  omega
/-! ### adding texts -/
theorem add_mk {a b : List Nat} : addD (.str (mk a)) (.str (mk b)) = if a.length + b.length ≤ 1000000 then some (.str (mk (a ++ b))) else none := by
  rw [e_addS, mk_len, mk_len, mk_app]
theorem mul_mk {a : List Nat} {b : Int} (h : b ≤ 1000000) (h2 : -1000000 ≤ b) (h3 : a.length * b.toNat ≤ 1000000) : mulD (.str (mk a)) (.int b) = some (.str (mk (List.replicate b.toNat a).flatten)) := by
  by_cases q : 1 ≤ b
  · obtain ⟨x, e, hx⟩ := e_mulS (a := mk a) q h (by rw [mk_len]; exact h3)
    rw [e]
    congr 2
    refine str_ext ?_
    rw [cs_mk]
    have : (mk a).cps.toList = a := cs_mk a
    rw [this] at hx
    exact hx
  · have e : mulD (.str (mk a)) (.int b) = if 1 ≤ b ∧ b ≤ 1000000 ∧ (mk a).length * b.toNat ≤ 1000000 then some (.str (if b = 1 ∨ (mk a).length = 0 then (mk a) else smul (mk a) b.toNat)) else if b ≤ 0 ∧ -1000000 ≤ b then some (.str Str.empty) else none := rfl
    rw [e, if_neg (fun z => q z.1), if_pos ⟨by omega, h2⟩, show b.toNat = 0 by omega]
    rfl
theorem flat_rep (n c : Nat) : (List.replicate n [c]).flatten = List.replicate n c := by
  induction n with
  | zero => rfl
  | succ n ih => rw [List.replicate_succ, List.flatten_cons, ih, List.replicate_succ]; rfl
theorem len_mk {S : Sto} {a : List Nat} : lenD S [.str (mk a)] = if a.length ≤ 1000000 then some (.int a.length) else none := by
  rw [e_lenS, mk_len]
/-! ### int of figures -/
theorem int_digs {S : Sto} {l : List Nat} (h : digs l = true) (h1 : l ≠ []) (h2 : l.length ≤ 640) : intS S [.str (mk l)] = some (.int ((PySem.NumText.digitsVal l : Nat) : Int)) := by
  show (if (mk l).length ≤ 640 then (PySem.intText? (mk l)).map D.int else none) = _
  have ecs : (mk l).cps.toList = l := cs_mk l
  rw [if_pos (by rw [mk_len]; exact h2), PySem.intText_digits (x := mk l) (by rw [ecs]; exact digs_all.mp h) (by rw [ecs]; exact h1) (by rw [mk_len]; omega), ecs]
  rfl
/-! ### joins without a text between -/
theorem inter_nil : ∀ ls : List (List Nat), List.flatten (ls.intersperse []) = ls.flatten
  | [] => rfl
  | [a] => rfl
  | a :: b :: r => by
    rw [List.intersperse_cons₂, List.flatten_cons, List.flatten_cons, inter_nil (b :: r)]
    rfl
theorem join_mk {S : Sto} {ls : List (List Nat)} (h : ls.flatten.length ≤ 1000000) : joinD S (.str "") (.lst (ls.map fun l => D.str (mk l))) = some (.str (mk ls.flatten)) := by
  show (strsOf (ls.map fun l => D.str (mk l))).bind _ = _
  rw [strs_mk]
  have e2 : ("" : Str).length = 0 := by decide +kernel
  have e1 : ((ls.map mk).map (·.length)).sum = ls.flatten.length := by
    rw [List.length_flatten, List.map_map]
    have e : ls.map ((fun x : Str => x.length) ∘ mk) = ls.map List.length := List.map_congr_left fun l _ => mk_len l
    exact congrArg List.sum e
  show (if _ then _ else _) = _
  rw [if_pos (by rw [e1, e2]; omega)]
  congr 2
  refine str_ext ?_
  rw [join_cs, cs_mk, show cs ("" : Str) = [] by decide +kernel, inter_nil]
  congr 1
  rw [List.map_map]
  conv => rhs; rw [← List.map_id ls]
  exact List.map_congr_left fun l _ => cs_mk l
end Ln

namespace M
open PySem L2
section
variable {ρ : En} {S : Sto} {Q : D × Sto → Prop} {B : Bool × Sto → Prop} {O : Out × Sto → Prop} {f g h : EvF} {l u : EoF} {s1 : StF}
theorem w_none' : wp (mNone ρ S) O ↔ False := wp_none
theorem w_binS {op : Sto → D → D → Option D} : wp (mBinS op f g ρ S) Q ↔ wp (f ρ S) fun x => wp (g ρ x.2) fun y => wp (op y.2 x.1 y.1) fun z => Q (z, y.2) := by unfold mBinS; simp only [wp_bind, wp_map]
theorem w_islt : wp (mIsLT f ρ S) Q ↔ wp (f ρ S) fun x => wp (tyN x.2 x.1) fun t => Q (.bl (t == "list" || t == "tuple"), x.2) := by unfold mIsLT; simp only [wp_bind, wp_map]
theorem w_zf : wp (mZf f h ρ S) Q ↔ wp (f ρ S) fun x => wp (match x.1 with
  | .str a => (h ρ x.2).bind fun y => match y.1 with
    | .int i => if i ≤ 1000000 ∧ -1000000 ≤ i then some (.str (Txt.zfill a i), y.2) else none
    | _ => none
  | _ => none) Q := by unfold mZf; rw [wp_bind] <;> exact Iff.rfl
theorem w_slR : wp (mSlR f l u ρ S) Q ↔ wp (f ρ S) fun x => wp (l ρ x.2) fun y => wp (u ρ y.2) fun z => wp (lsOf z.2 x.1) fun w => Q (.lst (cut w y.1 z.1), z.2) := by unfold mSlR; simp only [wp_bind, wp_map]
theorem w_forG {sr : SqF} {tg : TgF} : wp (mForG sr tg s1 ρ S) O ↔ wp (sr ρ S) fun x => wp (loopG tg s1 x.1.1 x.1.2 x.1.1 ρ x.2) O := by unfold mForG; simp only [wp_bind] <;> exact Iff.rfl
theorem w_lcG {sr : SqF} {j : Nat} {tt : EtF} {te : EvF} : wp (mLcG sr j tt te ρ S) Q ↔ wp (sr ρ S) fun x => wp (mapG te tt j x.1.1 x.1.2 (ρ.set j none) x.1.1 x.2) fun r => r.1.length ≤ 100000 ∧ Q (.lst r.1, r.2) := by
  unfold mLcG; simp only [wp_bind]
  refine ⟨fun h => wp_mono h fun a q => wp_mono q fun b q => ?_, fun h => wp_mono h fun a q => wp_mono q fun b q => ?_⟩
  · split at q
    · rw [wp_some] at q; exact ⟨by assumption, q⟩
    · rw [wp_none] at q; exact q.elim
  · rw [if_pos q.1, wp_some]; exact q.2
theorem w_sq {L : (List D × Option Nat) × Sto → Prop} : wp (sQ f ρ S) L ↔ wp (f ρ S) fun x => wp (match x.1 with
  | .lst ds => some ((ds, none), x.2)
  | .tup ds => some ((ds, none), x.2)
  | .ref j => (stLst x.2 j).map fun ds => ((ds, some j), x.2)
  | _ => none) L := by unfold sQ; rw [wp_bind] <;> exact Iff.rfl
end
/-- the items of a list, a tuple, a list of the store -/
def SqAt (S : Sto) (d : D) (ds : List D) : Prop := d = .lst ds ∨ d = .tup ds ∨ ∃ j, d = .ref j ∧ S[j]? = some (.lst ds)
theorem SqAt.go {S : Sto} {d : D} {ds : List D} (h : SqAt S d ds) : ∃ g, holdsG g ds S ∧ ∀ {L : (List D × Option Nat) × Sto → Prop}, L ((ds, g), S) → wp (match d with
  | .lst ds => some ((ds, none), S)
  | .tup ds => some ((ds, none), S)
  | .ref j => (stLst S j).map fun ds => ((ds, some j), S)
  | _ => none) L := by
  rcases h with rfl | rfl | ⟨j, rfl, hj⟩
  · exact ⟨none, trivial, fun h => wp_some.mpr h⟩
  · exact ⟨none, trivial, fun h => wp_some.mpr h⟩
  · exact ⟨some j, hj, fun h => by
      show wp ((stLst S j).map _) _
      rw [stLst_of hj]
      exact wp_some.mpr h⟩
theorem SqAt.ty {S : Sto} {d : D} {ds : List D} (h : SqAt S d ds) : ∃ t, tyN S d = some t ∧ (t == "list" || t == "tuple") = true := by
  rcases h with rfl | rfl | ⟨j, rfl, hj⟩
  · exact ⟨"list", rfl, by decide⟩
  · exact ⟨"tuple", rfl, by decide⟩
  · refine ⟨"list", ?_, by decide⟩
    unfold tyN
    simp only [hj]
/-- a walk that changes nothing but names -/
theorem loopG_pure {tg : TgF} {gd : StF} {all : List D} {g : Option Nat} {S : Sto} {O : Out × Sto → Prop} (hG : holdsG g all S) (W : List D → En → Prop) (hd : ∀ ρ, W [] ρ → O (.nx ρ, S))
    (hs : ∀ d ds ρ, W (d :: ds) ρ → wp (tg ρ d) fun ρ1 => wp (gd ρ1 S) fun x => x.2 = S ∧ match x.1 with
      | .nx r => W ds r
      | .ct r => W ds r
      | .bk r => O (.nx r, S)
      | .rt v => O (.rt v, S)) : ∀ (ds : List D) (ρ : En), W ds ρ → wp (loopG tg gd all g ds ρ S) O
  | [], ρ, w => by rw [loopG_nil hG]; exact wp_some.mpr (hd ρ w)
  | d :: ds, ρ, w => by
    rw [loopG_cons hG, wp_bind]
    refine wp_mono (hs d ds ρ w) fun ρ1 q => ?_
    rw [wp_bind]
    refine wp_mono q fun x q => ?_
    obtain ⟨x, S1⟩ := x
    obtain ⟨e, q⟩ := q
    subst e
    cases x with
    | nx r => exact loopG_pure hG W hd hs ds r q
    | ct r => exact loopG_pure hG W hd hs ds r q
    | bk r => exact wp_some.mpr q
    | rt v => exact wp_some.mpr q
/-- a comprehension that changes nothing: each thing gives its own -/
theorem mapG_pure {te : EvF} {j : Nat} {all : List D} {g : Option Nat} {ρ : En} {S : Sto} {k : D → D} (hG : holdsG g all S) : ∀ ds : List D, (∀ d ∈ ds, te (ρ.set j (some d)) S = some (k d, S)) → mapG te mYes j all g ρ ds S = some (ds.map k, S)
  | [], _ => mapG_nil hG
  | d :: ds, h => by
    rw [mapG_cons hG]
    show (Option.bind (te (ρ.set j (some d)) S) _) = _
    rw [h d List.mem_cons_self]
    show (Option.map _ (mapG te mYes j all g ρ ds S)) = _
    rw [mapG_pure hG ds fun x hx => h x (List.mem_cons_of_mem _ hx)]
    rfl
theorem mapL_pure {te : EvF} {j : Nat} {ρ : En} {S : Sto} {k : D → D} : ∀ ds : List D, (∀ d ∈ ds, te (ρ.set j (some d)) S = some (k d, S)) → mapL te mYes j ρ ds S = some (ds.map k, S)
  | [], _ => rfl
  | d :: ds, h => by
    unfold mapL
    show (Option.bind (te (ρ.set j (some d)) S) _) = _
    rw [h d List.mem_cons_self]
    show (Option.map _ (mapL te mYes j ρ ds S)) = _
    rw [mapL_pure ds fun x hx => h x (List.mem_cons_of_mem _ hx)]
    rfl
/-! ### equality of texts and lists of texts -/
def strsD (ls : List (List Nat)) : List D := ls.map fun l => D.str (Ln.mk l)
theorem toPSA_strs (S : Sto) : ∀ ls : List (List Nat), toPSA S (strsD ls) = some (ls.map fun l => PyData.str (Ln.mk l))
  | [] => by rw [strsD, List.map_nil, toPSA]; rfl
  | l :: ls => by
    have ih := toPSA_strs S ls
    unfold strsD at ih ⊢
    rw [List.map_cons, toPSA, ih, toPS]
    rfl
theorem toPA_strs : ∀ ls : List (List Nat), toPA (strsD ls) = some (ls.map fun l => PyData.str (Ln.mk l))
  | [] => by rw [strsD, List.map_nil, toPA]; rfl
  | l :: ls => by
    have ih := toPA_strs ls
    unfold strsD at ih ⊢
    rw [List.map_cons, toPA, ih, toP]
    rfl
theorem lay_strs : ∀ {ls : List (List Nat)}, (∀ l ∈ ls, l.all sgn = true) → PyData.canLayAll0 (ls.map fun l => PyData.str (Ln.mk l)) = true ∧ PyData.depthAll (ls.map fun l => PyData.str (Ln.mk l)) = 0
  | [], _ => ⟨by rw [List.map_nil, PyData.canLayAll0], by rw [List.map_nil, PyData.depthAll]⟩
  | l :: ls, h => by
    obtain ⟨h1, h2⟩ := lay_strs fun x hx => h x (List.mem_cons_of_mem _ hx)
    have hc := Ln.sgn_lt (h l List.mem_cons_self)
    refine ⟨?_, ?_⟩
    · rw [List.map_cons, PyData.canLayAll0, h1, PyData.canLay0, Bool.and_true]
      unfold PyData.strOk
      rw [← Array.all_toList]
      have e : (Ln.mk l).cps.toList = l := Ln.cs_mk l
      rw [e, List.all_eq_true]
      intro c m
      have := hc c m
      simp
      omega
    · rw [List.map_cons, PyData.depthAll, h2, PyData.depth] <;> simp
theorem str_beq {a b : List Nat} : PyData.eqv (.str (Ln.mk a)) (.str (Ln.mk b)) = decide (a = b) := by
  rw [PyData.eqv]
  by_cases h : a = b
  · subst h
    simp
  · have : ¬ Ln.mk a = Ln.mk b := fun z => h (Ln.mk_inj.mp z)
    rw [decide_eq_false h]
    exact beq_false_of_ne this
theorem eqvA_strs : ∀ as bs : List (List Nat), PyData.eqvAll (as.map fun l => PyData.str (Ln.mk l)) (bs.map fun l => PyData.str (Ln.mk l)) = decide (as = bs)
  | [], [] => by rw [List.map_nil, PyData.eqvAll]; rfl
  | [], b :: bs => by rw [List.map_nil, List.map_cons, PyData.eqvAll] <;> simp
  | a :: as, [] => by rw [List.map_nil, List.map_cons, PyData.eqvAll] <;> simp
  | a :: as, b :: bs => by
    rw [List.map_cons, List.map_cons, PyData.eqvAll, str_beq, eqvA_strs as bs]
    by_cases h1 : a = b <;> by_cases h2 : as = bs <;> simp [h1, h2]
theorem shaped_strs {ls : List (List Nat)} (h : ∀ l ∈ ls, l.all sgn = true) : SeqAt.shaped (.list (ls.map fun l => PyData.str (Ln.mk l))) = true := by
  obtain ⟨h1, h2⟩ := lay_strs h
  unfold SeqAt.shaped
  rw [PyData.canLay0, h1, PyData.depth, h2]
  rfl
/-- a pair of a list of texts and a count -/
theorem shaped_pair {ls : List (List Nat)} {i : Int} (h : ∀ l ∈ ls, l.all sgn = true) : SeqAt.shaped (.tuple [.list (ls.map fun l => PyData.str (Ln.mk l)), .int i]) = true := by
  obtain ⟨h1, h2⟩ := lay_strs h
  unfold SeqAt.shaped
  rw [PyData.canLay0, PyData.canLayAll0, PyData.canLayAll0, PyData.canLayAll0, PyData.canLay0, PyData.canLay0, h1, PyData.depth, PyData.depthAll, PyData.depthAll, PyData.depthAll, PyData.depth, PyData.depth, h2]
  all_goals first | rfl | simp
end M

namespace M
open PySem L2
section
variable {ρ : En} {S : Sto} {Q : D × Sto → Prop} {P : OX × Sto → Prop} {f g : EvF}
theorem w_forx {sr : SqF} {tg : TgF} {gd : SxF} : wp (mxForG sr tg gd ρ S) P ↔ wp (sr ρ S) fun x => wp (loopX tg gd x.1.1 x.1.2 x.1.1 ρ x.2) P := by unfold mxForG; simp only [wp_bind] <;> exact Iff.rfl
theorem w_lstx {fa : RxF (List D)} {W : RX D × Sto → Prop} : wp (mxLst fa ρ S) W ↔ wp (fa ρ S) fun x => wp (match x.1 with
  | .ok xs => if xs.length ≤ 100000 then some (.ok (.lst xs), x.2) else none
  | .ex cn fs => some (.ex cn fs, x.2)) W := by
  unfold mxLst
  rw [w_bx]
  constructor <;> intro h <;> refine wp_mono h fun x q => ?_ <;> obtain ⟨x, S1⟩ := x <;> cases x <;> exact q
theorem w_isx {tab : List (Str × Bool)} : wp (mIsX tab f ρ S) Q ↔ wp (f ρ S) fun x => wp (match x.1 with
  | .err cn _ => (tab.lookup cn).map fun b => (.bl b, x.2)
  | _ => none) Q := by unfold mIsX; rw [wp_bind] <;> exact Iff.rfl
theorem w_dctn' : wp (mDctN f ρ S) Q ↔ wp (f ρ S) fun x => wp (match x.1 with
  | .dct kvs => some (.ref x.2.length, x.2 ++ [.dct kvs])
  | _ => none) Q := by unfold mDctN; rw [wp_bind] <;> exact Iff.rfl
theorem w_kwR' {F : Fn} : wp (mKwR F f g ρ S) Q ↔ wp (f ρ S) fun x => wp (g ρ x.2) fun y => wp (F [y.1, x.1] y.2) Q := by unfold mKwR; simp only [wp_bind] <;> exact Iff.rfl
theorem w_xkwR {F : FnR} {W : RX D × Sto → Prop} : wp (mxKwR F f g ρ S) W ↔ wp (f ρ S) fun x => wp (g ρ x.2) fun y => wp (F [y.1, x.1] y.2) W := by unfold mxKwR; simp only [wp_bind] <;> exact Iff.rfl
theorem w_mulL' {fa : EaF} : wp (mMulL fa g ρ S) Q ↔ wp (fa ρ S) fun x => wp (g ρ x.2) fun y => wp (match y.1 with
  | .int k => if 0 ≤ k ∧ k ≤ 10000 ∧ x.1.length ≤ 10 then some (.lst (List.replicate k.toNat x.1).flatten, y.2) else none
  | _ => none) Q := by unfold mMulL; simp only [wp_bind] <;> exact Iff.rfl
theorem w_gsd {d : D} {L : En × Sto → Prop} : wp (gSD f g ρ S d) L ↔ wp (f ρ S) fun x => wp (g ρ x.2) fun y => wp (match x.1 with
  | .ref j => (dctOf y.2 (.ref j)).bind fun kvs => (keyOf y.1).bind fun k => if kvs.length < 100000 then some (ρ, y.2.set j (.dct (gput kvs k d))) else none
  | _ => none) L := by unfold gSD; simp only [wp_bind] <;> exact Iff.rfl
theorem loopX_pure {tg : TgF} {gd : SxF} {all : List D} {g : Option Nat} {S : Sto} {O : OX × Sto → Prop} (hG : holdsG g all S) (W : List D → En → Prop) (hd : ∀ ρ, W [] ρ → O (.nx ρ, S))
    (hs : ∀ d ds ρ, W (d :: ds) ρ → wp (tg ρ d) fun ρ1 => wp (gd ρ1 S) fun x => x.2 = S ∧ match x.1 with
      | .nx r => W ds r
      | .ct r => W ds r
      | .bk r => O (.nx r, S)
      | .rt v => O (.rt v, S)
      | .ex cn fs r => O (.ex cn fs r, S)) : ∀ (ds : List D) (ρ : En), W ds ρ → wp (loopX tg gd all g ds ρ S) O
  | [], ρ, w => by rw [loopX_nil hG]; exact wp_some.mpr (hd ρ w)
  | d :: ds, ρ, w => by
    rw [loopX_cons hG, wp_bind]
    refine wp_mono (hs d ds ρ w) fun ρ1 q => ?_
    rw [wp_bind]
    refine wp_mono q fun x q => ?_
    obtain ⟨x, S1⟩ := x
    obtain ⟨e, q⟩ := q
    subst e
    cases x with
    | nx r => exact loopX_pure hG W hd hs ds r q
    | ct r => exact loopX_pure hG W hd hs ds r q
    | bk r => exact wp_some.mpr q
    | rt v => exact wp_some.mpr q
    | ex cn fs r => exact wp_some.mpr q
end
end M

namespace M
open PySem PySem.Spec L2 W2 RZ
/-! ### fields of a thing of an own class -/
def mFld (cn n : Str) (f : EvF) : EvF := fun ρ S => (f ρ S).bind fun x => match x.1 with
  | .ref j => match x.2[j]? with
    | some (.ins c fs) => if c = cn then (fs.lookup n).map fun d => (d, x.2) else none
    | _ => none
  | _ => none
def putD (n : Str) (d : D) : Fs → Fs
  | [] => [(n, d)]
  | (g, x) :: r => if g = n then (g, d) :: r else (g, x) :: putD n d r
theorem denF_put {K : PySem.W.Frag} {mg : Str → Option Value} {c : Cfg} {n : Str} {d : D} {v : V} (q : Den K mg c v d) : ∀ {fs : Fs} {vs : List (Str × V)}, DenF K mg c vs fs → DenF K mg c (putF n v vs) (putD n d fs)
  | [], _, h => by cases h; exact .cons q .nil
  | (g, x) :: r, _, h => by
    cases h with
    | cons a b =>
      rw [putF, putD]
      by_cases z : g = n
      · rw [if_pos z, if_pos z]; exact .cons q b
      · rw [if_neg z, if_neg z]; exact .cons a (denF_put q b)
theorem denF_len {K : PySem.W.Frag} {mg : Str → Option Value} {c : Cfg} : ∀ {fs : Fs} {vs : List (Str × V)}, DenF K mg c vs fs → vs.length = fs.length
  | [], _, h => by cases h; rfl
  | _ :: _, _, h => by
    cases h with
    | cons a b => rw [List.length_cons, List.length_cons, denF_len b]
/-- what a class must be for its things to be read and written -/
structure ClF (K : PySem.W.Frag) (mg : Str → Option Value) (cn n : Str) : Prop where
  ex : ∀ C, mg cn = some (.ref C) → Cls K C ∧ NoAttr K C n
theorem me_fld {X : Cx} {e : Expr} {f : EvF} {pos : Pos} {cn n : Str} (hc : ClF X.K X.mg cn n) (he : ME X e f) (hb : attributeBase e n X.env (eval e X.env) = eval e X.env := by rfl) : ME X (.Attribute e n pos) (mFld cn n f) := pe_imp (pe_fld he hb) <| by
  rintro σ H Q ⟨c, ρ, d, S', ⟨rfl, k, en⟩, q, p⟩
  obtain ⟨⟨x, S1⟩, h1, q1⟩ := bd q
  refine ⟨c, ρ, x, S1, .of k en, h1, fun v c1 l1 k1 e1 D1 => ?_⟩
  subst e1
  clear q
  cases x <;> try (cases q1)
  rename_i j
  have q2 : (match c1.S[j]? with | some (.ins c fs) => if c = cn then (fs.lookup n).map fun d => (d, c1.S) else none | _ => none) = some (d, S') := q1
  clear q1
  split at q2
  · rename_i c' fs hS
    by_cases z : c' = cn
    · rw [if_pos z] at q2
      subst z
      obtain ⟨dd, hl, q3⟩ := mp q2
      cases q3
      obtain ⟨C, dx, vs, hm, hv, ho, DF⟩ := k1.at_ _ _ hS
      have g := DF.get (n := n)
      rw [hl] at g
      obtain ⟨v', hl', Dv⟩ := g
      cases D1 with
      | ref hj => exact ⟨_, C, dx, vs, v', rfl, hv, (hc.ex C hm).1, (hc.ex C hm).2, hl', p v' c1 l1 k1 rfl Dv⟩
    · rw [if_neg z] at q2; cases q2
  · cases q2
/-- e.n = value -/
def mSetF (cn n : Str) (g f : EvF) : StF := fun ρ S => (g ρ S).bind fun y => (f ρ y.2).bind fun x => match x.1 with
  | .ref j => match x.2[j]? with
    | some (.ins c fs) => if c = cn ∧ fs.length < 1000 then some (.nx ρ, x.2.set j (.ins c (putD n y.1 fs))) else none
    | _ => none
  | _ => none
theorem ms_setF {X : Cx} {o value : Expr} {f g : EvF} {pos pos' : Pos} {cn n : Str} (hc : ClF X.K X.mg cn n) (ho : ME X o f) (hv : ME X value g) (hs : swapsWith value (some (.Attribute o n pos')) pos.line X.env = pure false := by rfl) :
    MS X (.Assign [.Attribute o n pos'] value pos) (mSetF cn n g f) := ps_imp (ps_fld ho hv hs) <| by
  rintro Dd σ H ⟨c, ρ, o', S', ⟨rfl, k, en⟩, q, p⟩
  obtain ⟨⟨y, S1⟩, h1, q1⟩ := bd q
  obtain ⟨⟨x, S2⟩, h2, q2⟩ := bd q1
  clear q q1
  refine ⟨c, ρ, y, S1, .of k en, h1, fun u c1 l1 k1 e1 D0 => ⟨c1, ρ, x, S2, .of k1 (en.mono l1), by rw [e1]; exact h2, fun w c2 l2 k2 e2 D1 => ?_⟩⟩
  subst e2
  cases x <;> try (cases q2)
  rename_i j
  have q3 : (match c2.S[j]? with | some (.ins c fs) => if c = cn ∧ fs.length < 1000 then some (Out.nx ρ, c2.S.set j (.ins c (putD n y fs))) else none | _ => none) = some (o', S') := q2
  clear q2
  split at q3
  · rename_i c' fs hS
    by_cases z : c' = cn ∧ fs.length < 1000
    · rw [if_pos z] at q3
      obtain ⟨z, zl⟩ := z
      subst z
      cases q3
      obtain ⟨C, dx, vs, hm, hv', ho', DF⟩ := k2.at_ _ _ hS
      have hj := lt_of_get hS
      cases D1 with
      | ref _ =>
        have le := put_le (c := c2) hj (o := .ins C dx (putF n u vs)) (ob := .ins c' (putD n y fs))
        have nr := not_rg k2 ho' rfl
        refine ⟨_, C, dx, vs, rfl, hv', (hc.ex C hm).1, (hc.ex C hm).2, by rw [denF_len DF]; exact zl, ?_⟩
        have ok2 : Ok X.K X.mg (c2.put j (.ins C dx (putF n u vs)) (.ins c' (putD n y fs))) := put_ok k2 hj ⟨C, dx, _, hm, upd_same, (le.keep dx _ nr ho').1, (denF_put (D0.mono l2) DF).mono le⟩
        exact p _ ((l1.trans l2).trans le) ok2 rfl σ (en.mono ((l1.trans l2).trans le))
    · rw [if_neg z] at q3; cases q3
  · cases q3
end M

namespace M
open PySem PySem.Spec L2 W2 RZ
section
variable {X : Cx} {W : WX} {k : Nat} {C f : Addr} {fd : FuncData} {ps : List Str} {sp : Sp} {m : Str} {p pos apos : Pos} {e o : Expr} {es : List Expr} {ta : TE} {t : TA}
/-- o.m(e, ..) of an own class, which may raise -/
theorem pe_methX {pl : Sem Bool} (he : PE X o ta) (c : Cls X.K C) (hm : Meth X.K C m f) (F : FnX X.prog X.w X.K X.mg X.base k f fd ps sp) (hr : Rm k X.A) (tk : Takes X W) (hb : Binds X.K fd ps []) (ha : PA X (e :: es) t)
    (hst : starEach (e :: es) X.env = (false, eval e X.env) :: starEach es X.env := by rfl) (hpl : (backTo pos (starEach es X.env)).any (·.1) = false := by rfl)
    (ht : eval (.Call (.Attribute o m apos) (e :: es) [] pos) X.env = (do
      let ov ← eval o X.env
      standAt apos.atName
      let (f, first) ← holding [ov] (getMethod ov m pl)
      callWith pos f first (backTo pos (starEach (e :: es) X.env)) (backToKw pos (keywordEach [] X.env))) := by rfl) :
    PE X (.Call (.Attribute o m apos) (e :: es) [] pos) (fun σ H Q => ta σ H fun x H1 => ∃ a dx fs, x = .ref a ∧ H1 a = some (.ins C dx fs) ∧ fs.lookup m = none ∧ t σ H1 fun vs H2 => sp (x :: vs) H2 Q (WE W σ)) := by
  refine ⟨fun pins s σ H Q I h => ?_⟩
  refine PySem.W.methodCall_KW (pl := pl) (thn (he.run pins s σ H _ I h) fun u s1 ⟨x, H1, I1, rx, a, dx, fs, ex, ea, l, q⟩ => ?_) ht
  subst ex
  obtain rfl : u = Value.ref a := rx
  refine getmeth_ok I1 ea c hm l ?_
  refine PySem.W.callWith_K (first := [.ref a]) (h₀ := X.base) I.ok.mod.kin hm.kp (thn (ha.run pos pins s1 σ H1 _ I1 q) fun us s2 ⟨vs, H2, I2, r, q2⟩ => ⟨I2.kIn, ?_⟩) hst hpl
  exact run_Xc (us := .ref a :: us) (vs := .ref a :: vs) F hr tk hb I2 (.cons rfl r) q2
/-- o.m() of an own class, which may raise -/
theorem pe_methX0 {pl : Sem Bool} (he : PE X o ta) (c : Cls X.K C) (hm : Meth X.K C m f) (F : FnX X.prog X.w X.K X.mg X.base k f fd ps sp) (hr : Rm k X.A) (tk : Takes X W) (hb : Binds X.K fd ps [])
    (ht : eval (.Call (.Attribute o m apos) [] [] pos) X.env = (do
      let ov ← eval o X.env
      standAt apos.atName
      let (f, first) ← holding [ov] (getMethod ov m pl)
      callWith pos f first (backTo pos (starEach [] X.env)) (backToKw pos (keywordEach [] X.env))) := by rfl) :
    PE X (.Call (.Attribute o m apos) [] [] pos) (fun σ H Q => ta σ H fun x H1 => ∃ a dx fs, x = .ref a ∧ H1 a = some (.ins C dx fs) ∧ fs.lookup m = none ∧ sp [x] H1 Q (WE W σ)) := by
  refine ⟨fun pins s σ H Q I h => ?_⟩
  refine PySem.W.methodCall_KW (pl := pl) (thn (he.run pins s σ H _ I h) fun u s1 ⟨x, H1, I1, rx, a, dx, fs, ex, ea, l, q⟩ => ?_) ht
  subst ex
  obtain rfl : u = Value.ref a := rx
  refine getmeth_ok I1 ea c hm l ?_
  exact PySem.W.callWith_K0 (first := [.ref a]) I1.kIn hm.kp (run_Xc (us := [.ref a]) (vs := [.ref a]) F hr tk hb I1 (.cons rfl .nil) q)
end
/-! ### methods of own classes over data -/
structure CalM (P : Program) (w : World) (K : PySem.W.Frag) (mg : Str → Option Value) (base : Heap) (k : Nat) (cn m : Str) (np : Nat) (F : FnR) : Prop where
  ex : ∃ (C f : Addr) (fd : FuncData) (ps : List Str), mg cn = some (.ref C) ∧ Cls K C ∧ Meth K C m f ∧ Binds K fd ps [] ∧ FnX P w K mg base k f fd ps (spX K mg np F) ∧ ps.length = np
def mxMeth (cn m : Str) (F : FnR) (fo : EvF) (fa : EaF) : RxF D := fun ρ S => (fo ρ S).bind fun x => match x.1 with
  | .ref j => match x.2[j]? with
    | some (.ins c fs) => if c = cn ∧ fs.lookup m = none then (fa ρ x.2).bind fun y => F (.ref j :: y.1) y.2 else none
    | _ => none
  | _ => none
section
variable {X : Cx} {W : WX} {k np : Nat} {cn m : Str} {F : FnR} {fo : EvF} {fa : EaF} {pos apos : Pos} {e o : Expr} {es : List Expr}
theorem mex_meth {pl : Sem Bool} (Cc : CalM X.prog X.w X.K X.mg X.base k cn m np F) (hr : Rm k X.A) (tk : Takes X W) (ho : ME X o fo) (ha : MA X (e :: es) fa) (hn : ∀ ρ S ds S', fa ρ S = some (ds, S') → ds.length + 1 = np)
    (hst : starEach (e :: es) X.env = (false, eval e X.env) :: starEach es X.env := by rfl) (hpl : (backTo pos (starEach es X.env)).any (·.1) = false := by rfl)
    (ht : eval (.Call (.Attribute o m apos) (e :: es) [] pos) X.env = (do
      let ov ← eval o X.env
      standAt apos.atName
      let (f, first) ← holding [ov] (getMethod ov m pl)
      callWith pos f first (backTo pos (starEach (e :: es) X.env)) (backToKw pos (keywordEach [] X.env))) := by rfl) :
    MEx X W (.Call (.Attribute o m apos) (e :: es) [] pos) (mxMeth cn m F fo fa) := by
  obtain ⟨C, f, fd, ps, hm, hc, hM, hb, G, hl⟩ := Cc.ex
  refine pe_imp (pe_methX ho hc hM G hr tk hb ha hst hpl ht) ?_
  rintro σ H Q ⟨c, ρ, ⟨rfl, k, en⟩, r, S', h1, h2⟩
  obtain ⟨⟨x, S1⟩, h3, q1⟩ := bd h1
  clear h1
  refine ⟨c, ρ, x, S1, .of k en, h3, fun v c1 l1 k1 e1 D1 => ?_⟩
  subst e1
  cases x <;> try (cases q1)
  rename_i j
  have q2 : (match c1.S[j]? with | some (.ins c fs) => if c = cn ∧ fs.lookup m = none then (fa ρ c1.S).bind fun y => F (.ref j :: y.1) y.2 else none | _ => none) = some (r, S') := q1
  clear q1
  split at q2
  · rename_i c' fs hS
    by_cases z : c' = cn ∧ fs.lookup m = none
    · rw [if_pos z] at q2
      obtain ⟨z1, z2⟩ := z
      subst z1
      obtain ⟨⟨ys, S2⟩, h4, h5⟩ := bd q2
      obtain ⟨C', dx, vs, hm', hv, ho', DF⟩ := k1.at_ _ _ hS
      rw [hm] at hm'
      cases hm'
      have g := DF.get (n := m)
      rw [z2] at g
      cases D1 with
      | ref hj => exact ⟨_, dx, vs, rfl, hv, g, c1, ρ, ys, S2, .of k1 (en.mono l1), h4, fun us c2 l2 k2 e2 D2 => ⟨by rw [List.length_cons, D2.length]; exact hn _ _ _ _ h4, c2, .ref j :: ys, rfl, k2, .cons ((Den.ref hj).mono l2) D2, r, S', by rw [e2]; exact h5, fun c3 l3 => h2 c3 ((l1.trans l2).trans l3)⟩⟩
    · rw [if_neg z] at q2; cases q2
  · cases q2
theorem mex_meth0 {pl : Sem Bool} (Cc : CalM X.prog X.w X.K X.mg X.base k cn m 1 F) (hr : Rm k X.A) (tk : Takes X W) (ho : ME X o fo)
    (ht : eval (.Call (.Attribute o m apos) [] [] pos) X.env = (do
      let ov ← eval o X.env
      standAt apos.atName
      let (f, first) ← holding [ov] (getMethod ov m pl)
      callWith pos f first (backTo pos (starEach [] X.env)) (backToKw pos (keywordEach [] X.env))) := by rfl) :
    MEx X W (.Call (.Attribute o m apos) [] [] pos) (mxMeth cn m F fo mNil) := by
  obtain ⟨C, f, fd, ps, hm, hc, hM, hb, G, hl⟩ := Cc.ex
  refine pe_imp (pe_methX0 ho hc hM G hr tk hb ht) ?_
  rintro σ H Q ⟨c, ρ, ⟨rfl, k, en⟩, r, S', h1, h2⟩
  obtain ⟨⟨x, S1⟩, h3, q1⟩ := bd h1
  clear h1
  refine ⟨c, ρ, x, S1, .of k en, h3, fun v c1 l1 k1 e1 D1 => ?_⟩
  subst e1
  cases x <;> try (cases q1)
  rename_i j
  have q2 : (match c1.S[j]? with | some (.ins c fs) => if c = cn ∧ fs.lookup m = none then (mNil ρ c1.S).bind fun y => F (.ref j :: y.1) y.2 else none | _ => none) = some (r, S') := q1
  clear q1
  split at q2
  · rename_i c' fs hS
    by_cases z : c' = cn ∧ fs.lookup m = none
    · rw [if_pos z] at q2
      obtain ⟨z1, z2⟩ := z
      subst z1
      have h5 : F [.ref j] c1.S = some (r, S') := q2
      obtain ⟨C', dx, vs, hm', hv, ho', DF⟩ := k1.at_ _ _ hS
      rw [hm] at hm'
      cases hm'
      have g := DF.get (n := m)
      rw [z2] at g
      cases D1 with
      | ref hj => exact ⟨_, dx, vs, rfl, hv, g, rfl, c1, [.ref j], rfl, k1, .cons (.ref hj) .nil, r, S', h5, fun c3 l3 => h2 c3 (l1.trans l3)⟩
    · rw [if_neg z] at q2; cases q2
  · cases q2
end
end M

namespace M
open PySem PySem.Spec L2 W2 RZ
section
variable {X : Cx} {k : Nat} {C f : Addr} {fd : FuncData} {ps : List Str} {sp : Sp}
/-- a thing of an own class is made -/
theorem run_makeG {pins : List (Addr × Obj)} {σ : L2.St} {H : Hp} {s : Shared} {Q : VK} {us : List Value} {vs : List V} (M : Mk X.K C f) (F : FnG X.prog X.w X.K X.mg X.base k f fd ps sp) (hr : Rm (k + 1) X.A) (hb : Binds X.K fd ps [])
    (I : Inv X pins σ H s) (r : Vals vs us)
    (h : ∀ x dx, H x = none → H dx = none → dx ≠ x → sp (.ref x :: vs) (upd (upd H dx (.own x)) x (.ins C dx [])) (fun v H2 => v = .non ∧ Q (.ref x) H2) E0) :
    wpAny (model X.prog X.w) X.A (call (.ref C) us) (EP X pins σ Q) X.xe s := by
  have hq := h (s.heap.objs.size + 1) s.heap.objs.size (I.hok.fresh (Nat.le_succ _)) (I.hok.fresh (Nat.le_refl _)) (Nat.ne_of_lt (Nat.lt_succ_self _))
  have I2 := Inv.made (C := C) I
  have r2 : Vals (V.ref (s.heap.objs.size + 1) :: vs) (Value.ref (s.heap.objs.size + 1) :: us) := .cons rfl r
  have hl : (Value.ref (s.heap.objs.size + 1) :: us ++ []).length = ps.length := by
    rw [List.append_nil, ← r2.length]
    exact F.len _ _ _ _ hq
  have hbz := hb _ (Value.ref (s.heap.objs.size + 1) :: us) I2.kIn hl
  rw [List.append_nil] at hbz
  refine wpAny_call (make_map (f := f) I.kIn M.makes M.init (beq_iff_eq.mp M.fn) (codeAny_mono (F.run _ X.stack _ _ ⟨Value.ref (s.heap.objs.size + 1) :: us, []⟩ _ _ _ _ (hr.make C us [])
    (I2.env0.make C us []) hbz r2 hq) fun r s' hq' => ?_))
  cases r with
  | error e => exact passAt takes_none5 σ pins _ _ e s' I2 hq'
  | ok fl =>
    cases fl with
    | ret u =>
      obtain ⟨v, H', I3, rv, ev, q3⟩ := I2.after hq'
      subst ev
      exact ⟨rv, ⟨V.ref (s.heap.objs.size + 1), H', I3, rfl, q3⟩⟩
    | next => exact False.elim hq'
    | brk => exact False.elim hq'
    | cont => exact False.elim hq'
end
structure MakM (P : Program) (w : World) (K : PySem.W.Frag) (mg : Str → Option Value) (base : Heap) (k : Nat) (cn : Str) (np : Nat) (F : Fn) : Prop where
  ex : ∃ (C f : Addr) (fd : FuncData) (ps : List Str), mg cn = some (.ref C) ∧ Mk K C f ∧ Binds K fd ps [] ∧ FnG P w K mg base k f fd ps (spM K mg np F) ∧ ps.length = np
def mMk (cn : Str) (F : Fn) (fa : EaF) : EvF := fun ρ S => (fa ρ S).bind fun y => (F (.ref y.2.length :: y.1) (y.2 ++ [.ins cn []])).bind fun x => match x.1 with
  | .non => some (.ref y.2.length, x.2)
  | _ => none
section
variable {X : Cx} {k np : Nat} {cn : Str} {F : Fn} {fa : EaF} {p pos : Pos} {e : Expr} {es : List Expr}
theorem make_post {K : PySem.W.Frag} {mg : Str → Option Value} {c : Cfg} {C : Addr} {vs : List V} {ds : List D} {d : D} {S' : Sto} {Q : VK} (k : Ok K mg c) (hm : mg cn = some (.ref C)) (DA : DenA K mg c vs ds) (hn : ds.length + 1 = np)
    (q : (F (.ref c.S.length :: ds) (c.S ++ [.ins cn []])).bind (fun x => match x.1 with
      | .non => some (.ref c.S.length, x.2)
      | _ => none) = some (d, S')) (P : Post K mg c S' d Q) (a dx : Addr) (ha : c.H a = none) (hdx : c.H dx = none) (ne : dx ≠ a) :
    spM K mg np F (.ref a :: vs) (upd (upd c.H dx (.own a)) a (.ins C dx [])) (fun v H2 => v = .non ∧ Q (.ref a) H2) E0 := by
  obtain ⟨⟨x, S1⟩, h1, h2⟩ := bd q
  cases x <;> try (cases h2)
  have hH : ∀ b u, c.H b = some u → (upd (upd c.H dx (.own a)) a (.ins C dx [])) b = some u := fun b u e => by
    rw [upd_ne (ne_of_none e ha), upd_ne (ne_of_none e hdx)]
    exact e
  have le := new_le (c := c) (p := a) (ob := .ins cn []) ha hH
  have kn : Ok K mg (c.new a (.ins cn []) (upd (upd c.H dx (.own a)) a (.ins C dx []))) := new_ok k ha hH ⟨C, dx, [], hm, upd_same, by show upd _ _ _ dx = _; rw [upd_ne ne]; exact upd_same, .nil⟩
  have hpi : (c.new a (.ins cn []) (upd (upd c.H dx (.own a)) a (.ins C dx []))).π c.S.length = a := if_pos rfl
  have hl : c.S.length < (c.new a (.ins cn []) (upd (upd c.H dx (.own a)) a (.ins C dx []))).S.length := by show _ < (c.S ++ [_]).length; simp
  have Da : Den K mg (c.new a (.ins cn []) (upd (upd c.H dx (.own a)) a (.ins C dx []))) (.ref a) (.ref c.S.length) := by
    have := Den.ref (K := K) (mg := mg) hl
    rw [hpi] at this
    exact this
  refine ⟨by rw [List.length_cons, DA.length]; exact hn, _, .ref c.S.length :: ds, .non, S1, rfl, kn, .cons Da (DA.mono le), h1, fun v c2 l2 k2 e2 D2 => ⟨by cases D2; rfl, P _ c2 (le.trans l2) k2 e2 (Da.mono l2)⟩⟩
theorem me_mk0 (Mm : MakM X.prog X.w X.K X.mg X.base k cn 1 F) (hr : Rm (k + 1) X.A) (hg : Gl X cn) (hdb : (cn == ("__debug__" : Str)) = false := by decide) : ME X (.Call (.Name cn p) [] [] pos) (mMk cn F mNil) := by
  obtain ⟨C, f, fd, ps, hm, mk', hb, G, hl⟩ := Mm.ex
  constructor
  rintro pins s σ H Q I ⟨c, ρ, d, S', ⟨rfl, k, en⟩, q, P⟩
  refine wpAny_Call_Name_kw (ld_glob I hg hm ?_ hdb)
  exact PySem.W.callWith_K0 I.kIn mk'.kp (run_makeG (us := []) mk' G hr hb I .nil fun a dx ha hdx ne => make_post k hm .nil rfl q P a dx ha hdx ne)
theorem me_mk (Mm : MakM X.prog X.w X.K X.mg X.base k cn np F) (hr : Rm (k + 1) X.A) (hg : Gl X cn) (ha : MA X (e :: es) fa) (hn : ∀ ρ S ds S', fa ρ S = some (ds, S') → ds.length + 1 = np)
    (hdb : (cn == ("__debug__" : Str)) = false := by decide) (he : starEach (e :: es) X.env = (false, eval e X.env) :: starEach es X.env := by rfl) (hpl : (backTo pos (starEach es X.env)).any (·.1) = false := by rfl) : ME X (.Call (.Name cn p) (e :: es) [] pos) (mMk cn F fa) := by
  obtain ⟨C, f, fd, ps, hm, mk', hb, G, hl⟩ := Mm.ex
  constructor
  rintro pins s σ H Q I ⟨c, ρ, d, S', ⟨rfl, k, en⟩, q, P⟩
  obtain ⟨⟨ds, S1⟩, h1, h2⟩ := bd q
  refine wpAny_Call_Name_kw (ld_glob I hg hm ?_ hdb)
  refine PySem.W.callWith_K (h₀ := X.base) I.ok.mod.kin mk'.kp (thn (ha.run pos pins s σ c.H (fun vs H' => ∃ c1, c1.H = H' ∧ Le c c1 ∧ Ok X.K X.mg c1 ∧ c1.S = S1 ∧ DenA X.K X.mg c1 vs ds) I ⟨c, ρ, ds, S1, .of k en, h1, fun vs c1 l1 k1 e1 D1 => ⟨c1, rfl, l1, k1, e1, D1⟩⟩) fun us s1 ⟨vs, H1, I1, r, c1, hH1, l1, k1, e1, D1⟩ => ⟨I1.kIn, ?_⟩) he hpl
  subst hH1
  subst e1
  exact run_makeG mk' G hr hb I1 r fun a dx ha hdx ne => make_post k1 hm D1 (hn _ _ _ _ h1) h2 (P.mono l1) a dx ha hdx ne
end
end M

namespace M
open PySem PySem.Spec L2 W2 RZ
/-! ### methods called with names -/
structure CalMK (P : Program) (w : World) (K : PySem.W.Frag) (mg : Str → Option Value) (base : Heap) (k : Nat) (cn m y : Str) (F : FnR) : Prop where
  ex : ∃ (C f : Addr) (fd : FuncData), mg cn = some (.ref C) ∧ Cls K C ∧ Meth K C m f ∧ (∀ (s : Shared) (u v : Value), BindsTo s fd ⟨[u], [(y, v)]⟩ [("self", u), (y, v)]) ∧ FnX P w K mg base k f fd ["self", y] (spX K mg 2 F)
def mxMethK (cn m : Str) (F : FnR) (fo f : EvF) : RxF D := fun ρ S => (fo ρ S).bind fun x => match x.1 with
  | .ref j => match x.2[j]? with
    | some (.ins c fs) => if c = cn ∧ fs.lookup m = none then (f ρ x.2).bind fun y => F [.ref j, y.1] y.2 else none
    | _ => none
  | _ => none
/-- two names, the second one first -/
structure CalMR (P : Program) (w : World) (K : PySem.W.Frag) (mg : Str → Option Value) (base : Heap) (k : Nat) (cn m y z : Str) (F : FnR) : Prop where
  ex : ∃ (C f : Addr) (fd : FuncData), mg cn = some (.ref C) ∧ Cls K C ∧ Meth K C m f ∧ (∀ (s : Shared) (u v w : Value), BindsTo s fd ⟨[u], [(z, w), (y, v)]⟩ [("self", u), (y, v), (z, w)]) ∧ FnX P w K mg base k f fd ["self", y, z] (spX K mg 3 F)
def mxMethR (cn m : Str) (F : FnR) (fo f g : EvF) : RxF D := fun ρ S => (fo ρ S).bind fun x => match x.1 with
  | .ref j => match x.2[j]? with
    | some (.ins c fs) => if c = cn ∧ fs.lookup m = none then (f ρ x.2).bind fun y => (g ρ y.2).bind fun z => F [.ref j, z.1, y.1] z.2 else none
    | _ => none
  | _ => none
section
variable {X : Cx} {W : WX} {k : Nat} {cn m y z : Str} {F : FnR} {fo f g : EvF} {pos apos kpos kpos2 : Pos} {e e2 o : Expr}
theorem mex_methK {pl : Sem Bool} (Cc : CalMK X.prog X.w X.K X.mg X.base k cn m y F) (hr : Rm k X.A) (tk : Takes X W) (ho : ME X o fo) (he : ME X e f)
    (hall : (backToKw pos (keywordEach [⟨some y, e, kpos⟩] X.env)).all (·.1.isSome) = true := by rfl) (hks : (backToKw pos (keywordEach [⟨some y, e, kpos⟩] X.env)).filterMap (·.1) = [y] := by rfl)
    (hpl : ((backTo pos (starEach [] X.env)).any (·.1) || (backToKw pos (keywordEach [⟨some y, e, kpos⟩] X.env)).any (·.1.isNone)) = false := by rfl)
    (ht : eval (.Call (.Attribute o m apos) [] [⟨some y, e, kpos⟩] pos) X.env = (do
      let ov ← eval o X.env
      standAt apos.atName
      let (f, first) ← holding [ov] (getMethod ov m pl)
      callWith pos f first (backTo pos (starEach [] X.env)) (backToKw pos (keywordEach [⟨some y, e, kpos⟩] X.env))) := by rfl) :
    MEx X W (.Call (.Attribute o m apos) [] [⟨some y, e, kpos⟩] pos) (mxMethK cn m F fo f) := by
  obtain ⟨C, fa, fd, hm, hc, hM, hb, G⟩ := Cc.ex
  constructor
  rintro pins s σ H Q I ⟨c, ρ, ⟨rfl, k, en⟩, r, S', h1, h2⟩
  obtain ⟨⟨x, S1⟩, h3, q1⟩ := bd h1
  clear h1
  refine PySem.W.methodCall_KW (pl := pl) (thn (ho.run pins s σ c.H (fun v H1 => ∃ c1, c1.H = H1 ∧ Le c c1 ∧ Ok X.K X.mg c1 ∧ c1.S = S1 ∧ Den X.K X.mg c1 v x) I ⟨c, ρ, x, S1, .of k en, h3, fun v c1 l1 k1 e1 D1 => ⟨c1, rfl, l1, k1, e1, D1⟩⟩) fun u s1 ⟨v, H1, I1, rx, c1, hH1, l1, k1, e1, D1⟩ => ?_) ht
  subst hH1
  subst e1
  cases x <;> try (cases q1)
  rename_i j hEP
  have q2 : (match c1.S[j]? with | some (.ins c fs) => if c = cn ∧ fs.lookup m = none then (f ρ c1.S).bind fun y => F [.ref j, y.1] y.2 else none | _ => none) = some (r, S') := q1
  clear q1
  split at q2
  · rename_i c' fs hS
    by_cases zz : c' = cn ∧ fs.lookup m = none
    · rw [if_pos zz] at q2
      obtain ⟨z1, z2⟩ := zz
      subst z1
      obtain ⟨⟨yv, S2⟩, h4, h5⟩ := bd q2
      obtain ⟨C', dx, vs, hm', hv, ho', DF⟩ := k1.at_ _ _ hS
      rw [hm] at hm'
      cases hm'
      have gl := DF.get (n := m)
      rw [z2] at gl
      cases D1 with
      | ref hj =>
        obtain rfl : u = Value.ref (c1.π j) := rx
        refine getmeth_ok I1 hv hc hM gl ?_
        refine PySem.W.callWith_KW0 (first := [.ref (c1.π j)]) (h₀ := X.base) I.ok.mod.kin hM.kp hall ?_ hpl
        refine thn ((pk_cons he pk_nil).run pos pins s1 σ c1.H (fun ws H' => ∃ v2, ws = [v2] ∧ spX X.K X.mg 2 F [.ref (c1.π j), v2] H' Q fun cls d H' => W cls d σ H') I1 ?_) ?_
        · refine ⟨c1, ρ, yv, S2, .of k1 (en.mono l1), h4, fun v2 c2 l2 k2 e2 D2 => ⟨v2, rfl, rfl, c2, [.ref j, yv], rfl, k2, .cons ((Den.ref hj).mono l2) (.cons D2 .nil), r, S', by rw [e2]; exact h5, fun c3 l3 => h2 c3 ((l1.trans l2).trans l3)⟩⟩
        · rintro ws s2 ⟨zs, H2, I2, rz, v2, rfl, hsp⟩
          refine ⟨I2.kIn, ?_⟩
          rw [hks]
          obtain ⟨w2, rfl, r1⟩ := vals1 rz
          refine wpAny_call (codeAny_mono (run_X (us := [.ref (c1.π j), w2]) (vs := [.ref (c1.π j), v2]) (ar := ⟨[.ref (c1.π j)], [(y, w2)]⟩) G hr tk (hb s2 _ w2) I2 (.cons rfl (.cons r1 .nil)) hsp) fun r s' hq => ?_)
          match r, hq with
          | .error _, hq => exact hq
          | .ok (.ret u), hq => exact hq
    · rw [if_neg zz] at q2; cases q2
  · cases q2
theorem mex_methR {pl : Sem Bool} (Cc : CalMR X.prog X.w X.K X.mg X.base k cn m y z F) (hr : Rm k X.A) (tk : Takes X W) (ho : ME X o fo) (he : ME X e f) (he2 : ME X e2 g)
    (hall : (backToKw pos (keywordEach [⟨some z, e, kpos⟩, ⟨some y, e2, kpos2⟩] X.env)).all (·.1.isSome) = true := by rfl) (hks : (backToKw pos (keywordEach [⟨some z, e, kpos⟩, ⟨some y, e2, kpos2⟩] X.env)).filterMap (·.1) = [z, y] := by rfl)
    (hpl : ((backTo pos (starEach [] X.env)).any (·.1) || (backToKw pos (keywordEach [⟨some z, e, kpos⟩, ⟨some y, e2, kpos2⟩] X.env)).any (·.1.isNone)) = false := by rfl)
    (ht : eval (.Call (.Attribute o m apos) [] [⟨some z, e, kpos⟩, ⟨some y, e2, kpos2⟩] pos) X.env = (do
      let ov ← eval o X.env
      standAt apos.atName
      let (f, first) ← holding [ov] (getMethod ov m pl)
      callWith pos f first (backTo pos (starEach [] X.env)) (backToKw pos (keywordEach [⟨some z, e, kpos⟩, ⟨some y, e2, kpos2⟩] X.env))) := by rfl) :
    MEx X W (.Call (.Attribute o m apos) [] [⟨some z, e, kpos⟩, ⟨some y, e2, kpos2⟩] pos) (mxMethR cn m F fo f g) := by
  obtain ⟨C, fa, fd, hm, hc, hM, hb, G⟩ := Cc.ex
  constructor
  rintro pins s σ H Q I ⟨c, ρ, ⟨rfl, k, en⟩, r, S', h1, h2⟩
  obtain ⟨⟨x, S1⟩, h3, q1⟩ := bd h1
  clear h1
  refine PySem.W.methodCall_KW (pl := pl) (thn (ho.run pins s σ c.H (fun v H1 => ∃ c1, c1.H = H1 ∧ Le c c1 ∧ Ok X.K X.mg c1 ∧ c1.S = S1 ∧ Den X.K X.mg c1 v x) I ⟨c, ρ, x, S1, .of k en, h3, fun v c1 l1 k1 e1 D1 => ⟨c1, rfl, l1, k1, e1, D1⟩⟩) fun u s1 ⟨v, H1, I1, rx, c1, hH1, l1, k1, e1, D1⟩ => ?_) ht
  subst hH1
  subst e1
  cases x <;> try (cases q1)
  rename_i j hEP
  have q2 : (match c1.S[j]? with | some (.ins c fs) => if c = cn ∧ fs.lookup m = none then (f ρ c1.S).bind fun y => (g ρ y.2).bind fun z => F [.ref j, z.1, y.1] z.2 else none | _ => none) = some (r, S') := q1
  clear q1
  split at q2
  · rename_i c' fs hS
    by_cases zz : c' = cn ∧ fs.lookup m = none
    · rw [if_pos zz] at q2
      obtain ⟨z1, z2⟩ := zz
      subst z1
      obtain ⟨⟨yv, S2⟩, h4, q3⟩ := bd q2
      obtain ⟨⟨zv, S3⟩, h5, h6⟩ := bd q3
      obtain ⟨C', dx, vs, hm', hv, ho', DF⟩ := k1.at_ _ _ hS
      rw [hm] at hm'
      cases hm'
      have gl := DF.get (n := m)
      rw [z2] at gl
      cases D1 with
      | ref hj =>
        obtain rfl : u = Value.ref (c1.π j) := rx
        refine getmeth_ok I1 hv hc hM gl ?_
        refine PySem.W.callWith_KW0 (first := [.ref (c1.π j)]) (h₀ := X.base) I.ok.mod.kin hM.kp hall ?_ hpl
        refine thn ((pk_cons he (pk_cons he2 pk_nil)).run pos pins s1 σ c1.H (fun ws H' => ∃ v2 v3, ws = [v2, v3] ∧ spX X.K X.mg 3 F [.ref (c1.π j), v3, v2] H' Q fun cls d H' => W cls d σ H') I1 ?_) ?_
        · refine ⟨c1, ρ, yv, S2, .of k1 (en.mono l1), h4, fun v2 c2 l2 k2 e2 D2 => ⟨c2, ρ, zv, S3, .of k2 (en.mono (l1.trans l2)), by rw [e2]; exact h5, fun v3 c3 l3 k3 e3 D3 => ⟨v2, v3, rfl, rfl, c3, [.ref j, zv, yv], rfl, k3, .cons ((Den.ref hj).mono (l2.trans l3)) (.cons D3 (.cons (D2.mono l3) .nil)), r, S', by rw [e3]; exact h6, fun c4 l4 => h2 c4 (((l1.trans l2).trans l3).trans l4)⟩⟩⟩
        · rintro ws s2 ⟨zs, H2, I2, rz, v2, v3, rfl, hsp⟩
          refine ⟨I2.kIn, ?_⟩
          rw [hks]
          obtain ⟨w2, w3, rfl, r1, r2⟩ := vals2 rz
          refine wpAny_call (codeAny_mono (run_X (us := [.ref (c1.π j), w3, w2]) (vs := [.ref (c1.π j), v3, v2]) (ar := ⟨[.ref (c1.π j)], [(z, w2), (y, w3)]⟩) G hr tk (hb s2 _ w3 w2) I2 (.cons rfl (.cons r2 (.cons r1 .nil))) hsp) fun r s' hq => ?_)
          match r, hq with
          | .error _, hq => exact hq
          | .ok (.ret u), hq => exact hq
    · rw [if_neg zz] at q2; cases q2
  · cases q2
end
end M

namespace M
open PySem PySem.Spec L2 W2 RZ
/-! ### methods that raise nothing -/
structure CalG (P : Program) (w : World) (K : PySem.W.Frag) (mg : Str → Option Value) (base : Heap) (k : Nat) (cn m : Str) (np : Nat) (F : Fn) : Prop where
  ex : ∃ (C f : Addr) (fd : FuncData) (ps : List Str), mg cn = some (.ref C) ∧ Cls K C ∧ Meth K C m f ∧ Binds K fd ps [] ∧ FnG P w K mg base k f fd ps (spM K mg np F) ∧ ps.length = np
theorem CalM.ok {P : Program} {w : World} {K : PySem.W.Frag} {mg : Str → Option Value} {base : Heap} {k np : Nat} {cn m : Str} {F : FnR} (h : CalM P w K mg base k cn m np F) : CalG P w K mg base k cn m np (okF F) := by
  obtain ⟨C, f, fd, ps, a, b, c, d, e, g⟩ := h.ex
  exact ⟨C, f, fd, ps, a, b, c, d, fnX_toOk e, g⟩
def mMeth (cn m : Str) (F : Fn) (fo : EvF) (fa : EaF) : EvF := fun ρ S => (fo ρ S).bind fun x => match x.1 with
  | .ref j => match x.2[j]? with
    | some (.ins c fs) => if c = cn ∧ fs.lookup m = none then (fa ρ x.2).bind fun y => F (.ref j :: y.1) y.2 else none
    | _ => none
  | _ => none
section
variable {X : Cx} {k np : Nat} {cn m : Str} {F : Fn} {fo : EvF} {fa : EaF} {pos apos : Pos} {e o : Expr} {es : List Expr}
theorem me_meth {pl : Sem Bool} (Cc : CalG X.prog X.w X.K X.mg X.base k cn m np F) (hr : Rm k X.A) (ho : ME X o fo) (ha : MA X (e :: es) fa) (hn : ∀ ρ S ds S', fa ρ S = some (ds, S') → ds.length + 1 = np)
    (hst : starEach (e :: es) X.env = (false, eval e X.env) :: starEach es X.env := by rfl) (hpl : (backTo pos (starEach es X.env)).any (·.1) = false := by rfl)
    (ht : eval (.Call (.Attribute o m apos) (e :: es) [] pos) X.env = (do
      let ov ← eval o X.env
      standAt apos.atName
      let (f, first) ← holding [ov] (getMethod ov m pl)
      callWith pos f first (backTo pos (starEach (e :: es) X.env)) (backToKw pos (keywordEach [] X.env))) := by rfl) :
    ME X (.Call (.Attribute o m apos) (e :: es) [] pos) (mMeth cn m F fo fa) := by
  obtain ⟨C, f, fd, ps, hm, hc, hM, hb, G, hl⟩ := Cc.ex
  refine pe_imp (pe_methX ho hc hM G hr takes_none5 hb ha hst hpl ht) ?_
  rintro σ H Q ⟨c, ρ, d, S', ⟨rfl, k, en⟩, q, p⟩
  obtain ⟨⟨x, S1⟩, h3, q1⟩ := bd q
  clear q
  refine ⟨c, ρ, x, S1, .of k en, h3, fun v c1 l1 k1 e1 D1 => ?_⟩
  subst e1
  cases x <;> try (cases q1)
  rename_i j
  have q2 : (match c1.S[j]? with | some (.ins c fs) => if c = cn ∧ fs.lookup m = none then (fa ρ c1.S).bind fun y => F (.ref j :: y.1) y.2 else none | _ => none) = some (d, S') := q1
  clear q1
  split at q2
  · rename_i c' fs hS
    by_cases z : c' = cn ∧ fs.lookup m = none
    · rw [if_pos z] at q2
      obtain ⟨z1, z2⟩ := z
      subst z1
      obtain ⟨⟨ys, S2⟩, h4, h5⟩ := bd q2
      obtain ⟨C', dx, vs, hm', hv, ho', DF⟩ := k1.at_ _ _ hS
      rw [hm] at hm'
      cases hm'
      have g := DF.get (n := m)
      rw [z2] at g
      cases D1 with
      | ref hj => exact ⟨_, dx, vs, rfl, hv, g, c1, ρ, ys, S2, .of k1 (en.mono l1), h4, fun us c2 l2 k2 e2 D2 => ⟨by rw [List.length_cons, D2.length]; exact hn _ _ _ _ h4, c2, .ref j :: ys, d, S', rfl, k2, .cons ((Den.ref hj).mono l2) D2, by rw [e2]; exact h5, p.mono (l1.trans l2)⟩⟩
    · rw [if_neg z] at q2; cases q2
  · cases q2
theorem me_meth0 {pl : Sem Bool} (Cc : CalG X.prog X.w X.K X.mg X.base k cn m 1 F) (hr : Rm k X.A) (ho : ME X o fo)
    (ht : eval (.Call (.Attribute o m apos) [] [] pos) X.env = (do
      let ov ← eval o X.env
      standAt apos.atName
      let (f, first) ← holding [ov] (getMethod ov m pl)
      callWith pos f first (backTo pos (starEach [] X.env)) (backToKw pos (keywordEach [] X.env))) := by rfl) :
    ME X (.Call (.Attribute o m apos) [] [] pos) (mMeth cn m F fo mNil) := by
  obtain ⟨C, f, fd, ps, hm, hc, hM, hb, G, hl⟩ := Cc.ex
  refine pe_imp (pe_methX0 ho hc hM G hr takes_none5 hb ht) ?_
  rintro σ H Q ⟨c, ρ, d, S', ⟨rfl, k, en⟩, q, p⟩
  obtain ⟨⟨x, S1⟩, h3, q1⟩ := bd q
  clear q
  refine ⟨c, ρ, x, S1, .of k en, h3, fun v c1 l1 k1 e1 D1 => ?_⟩
  subst e1
  cases x <;> try (cases q1)
  rename_i j
  have q2 : (match c1.S[j]? with | some (.ins c fs) => if c = cn ∧ fs.lookup m = none then (mNil ρ c1.S).bind fun y => F (.ref j :: y.1) y.2 else none | _ => none) = some (d, S') := q1
  clear q1
  split at q2
  · rename_i c' fs hS
    by_cases z : c' = cn ∧ fs.lookup m = none
    · rw [if_pos z] at q2
      obtain ⟨z1, z2⟩ := z
      subst z1
      have h5 : F [.ref j] c1.S = some (d, S') := q2
      obtain ⟨C', dx, vs, hm', hv, ho', DF⟩ := k1.at_ _ _ hS
      rw [hm] at hm'
      cases hm'
      have g := DF.get (n := m)
      rw [z2] at g
      cases D1 with
      | ref hj => exact ⟨_, dx, vs, rfl, hv, g, rfl, c1, [.ref j], d, S', rfl, k1, .cons (.ref hj) .nil, h5, p.mono l1⟩
    · rw [if_neg z] at q2; cases q2
  · cases q2
end
/-! ### an expression whose parts may raise, by a test that does not -/
def mxIfE (t : EtF) (f g : RxF D) : RxF D := fun ρ S => (t ρ S).bind fun b => if b.1 = true then f ρ b.2 else g ρ b.2
/-! ### walk rules -/
section
variable {ρ : En} {S : Sto} {Q : D × Sto → Prop} {O : Out × Sto → Prop} {V : RX D × Sto → Prop} {f g fo : EvF} {cn n m : Str}
theorem w_fld : wp (mFld cn n f ρ S) Q ↔ wp (f ρ S) fun x => wp (match x.1 with
  | .ref j => match x.2[j]? with
    | some (.ins c fs) => if c = cn then (fs.lookup n).map fun d => (d, x.2) else none
    | _ => none
  | _ => none) Q := by unfold mFld; rw [wp_bind] <;> exact Iff.rfl
theorem w_setF : wp (mSetF cn n g f ρ S) O ↔ wp (g ρ S) fun y => wp (f ρ y.2) fun x => wp (match x.1 with
  | .ref j => match x.2[j]? with
    | some (.ins c fs) => if c = cn ∧ fs.length < 1000 then some (.nx ρ, x.2.set j (.ins c (putD n y.1 fs))) else none
    | _ => none
  | _ => none) O := by unfold mSetF; simp only [wp_bind] <;> exact Iff.rfl
theorem w_xmeth {F : FnR} {fa : EaF} : wp (mxMeth cn m F fo fa ρ S) V ↔ wp (fo ρ S) fun x => wp (match x.1 with
  | .ref j => match x.2[j]? with
    | some (.ins c fs) => if c = cn ∧ fs.lookup m = none then (fa ρ x.2).bind fun y => F (.ref j :: y.1) y.2 else none
    | _ => none
  | _ => none) V := by unfold mxMeth; rw [wp_bind] <;> exact Iff.rfl
theorem w_meth {F : Fn} {fa : EaF} : wp (mMeth cn m F fo fa ρ S) Q ↔ wp (fo ρ S) fun x => wp (match x.1 with
  | .ref j => match x.2[j]? with
    | some (.ins c fs) => if c = cn ∧ fs.lookup m = none then (fa ρ x.2).bind fun y => F (.ref j :: y.1) y.2 else none
    | _ => none
  | _ => none) Q := by unfold mMeth; rw [wp_bind] <;> exact Iff.rfl
theorem w_mk {F : Fn} {fa : EaF} : wp (mMk cn F fa ρ S) Q ↔ wp (fa ρ S) fun y => wp (F (.ref y.2.length :: y.1) (y.2 ++ [.ins cn []])) fun x => wp (match x.1 with
  | .non => some (.ref y.2.length, x.2)
  | _ => none) Q := by unfold mMk; simp only [wp_bind] <;> exact Iff.rfl
end
end M

namespace M
open PySem PySem.Spec PyProof.Rows L2 W2 RZ
/-! ### the one sorted list of some texts -/
theorem lt_irr : ∀ a : List Nat, ltCps a a = false
  | [] => rfl
  | a :: r => by rw [ltCps, lt_irr r]; simp
theorem lt_anti : ∀ a b : List Nat, ltCps b a = false → ltCps a b = false → a = b
  | [], [], _, _ => rfl
  | [], _ :: _, _, h => by cases h
  | _ :: _, [], h, _ => by cases h
  | a :: r, b :: t, h1, h2 => by
    rw [ltCps] at h1 h2
    simp at h1 h2
    have e : a = b := by omega
    subst e
    rw [lt_anti r t (h1.2 rfl) (h2.2 rfl)]
theorem lt_trans' : ∀ a b c : List Nat, ltCps b a = false → ltCps c b = false → ltCps c a = false
  | [], b, c, _, _ => by cases c <;> rfl
  | a :: r, [], c, h, _ => by cases h
  | a :: r, b :: t, [], _, h => by cases h
  | a :: r, b :: t, c :: s, h1, h2 => by
    rw [ltCps] at h1 h2 ⊢
    simp at h1 h2 ⊢
    refine ⟨by omega, fun e => ?_⟩
    subst e
    have e2 : b = c := by omega
    subst e2
    exact lt_trans' r t s (h1.2 rfl) (h2.2 rfl)
theorem lt_total : ∀ a b : List Nat, ltCps b a = false ∨ ltCps a b = false
  | [], b => .inl (by cases b <;> rfl)
  | _ :: _, [] => .inr rfl
  | a :: r, b :: t => by
    rw [ltCps, ltCps]
    simp
    by_cases h : a = b
    · subst h
      rcases lt_total r t with q | q
      · exact .inl ⟨Nat.le_refl _, fun _ => q⟩
      · exact .inr ⟨Nat.le_refl _, fun _ => q⟩
    · by_cases z : a < b
      · exact .inl ⟨by omega, fun e => absurd e.symm h⟩
      · exact .inr ⟨by omega, fun e => absurd e h⟩
def leS (a b : Str) : Bool := !ltCps b.cps.toList a.cps.toList
theorem str_cps {a b : Str} (h : a.cps.toList = b.cps.toList) : a = b := by
  cases a; cases b
  congr 1
  exact Array.toList_inj.mp h
def sortC (xs : List Str) : List Str := xs.mergeSort leS
theorem rising_pair : ∀ (p : Str) (xs : List Str), risingS p xs = true → List.Pairwise (fun a b => leS a b = true) (p :: xs)
  | p, [], _ => List.pairwise_cons.mpr ⟨fun _ m => (nomatch m), List.Pairwise.nil⟩
  | p, x :: r, h => by
    rw [risingS, Bool.and_eq_true] at h
    have ih := rising_pair x r h.2
    refine List.pairwise_cons.mpr ⟨fun b m => ?_, ih⟩
    have hp : leS p x = true := h.1
    rcases List.mem_cons.mp m with rfl | m
    · exact hp
    · have hx := (List.pairwise_cons.mp ih).1 b m
      unfold leS at hp hx ⊢
      simp at hp hx ⊢
      exact lt_trans' _ _ _ hp hx
theorem sortC_one {xs ys : List Str} (hp : ys.Perm xs) (hs : sortedS ys = true) : ys = sortC xs := by
  have h1 : List.Pairwise (fun a b => leS a b = true) ys := by
    cases ys with
    | nil => exact .nil
    | cons x r => exact rising_pair x r hs
  have h2 : List.Pairwise (fun a b => leS a b = true) (sortC xs) := List.pairwise_mergeSort (fun a b c p q => by
    unfold leS at p q ⊢
    simp at p q ⊢
    exact lt_trans' _ _ _ p q) (fun a b => by
    unfold leS
    rcases lt_total a.cps.toList b.cps.toList with q | q <;> simp [q]) xs
  refine List.Perm.eq_of_pairwise (fun a b _ _ p q => ?_) h1 h2 (hp.trans (List.mergeSort_perm xs leS).symm)
  unfold leS at p q
  simp at p q
  exact str_cps (lt_anti _ _ p q)
/-- sorted(x) of some texts -/
def sortD : CbF := fun _ ds => match ds with
  | [.lst zs] => (strsOf zs).bind fun xs => if xs.length < 64 then some (.lst ((sortC xs).map .str)) else none
  | _ => none
theorem sortD_inv {S : Sto} {ds : List D} {z : D} (h : sortD S ds = some z) : ∃ zs xs, ds = [.lst zs] ∧ strsOf zs = some xs ∧ xs.length < 64 ∧ z = .lst ((sortC xs).map .str) := by
  unfold sortD at h
  split at h
  · rename_i zs
    obtain ⟨xs, h1, h2⟩ := bd h
    by_cases q : xs.length < 64
    · rw [if_pos q] at h2
      cases h2
      exact ⟨zs, xs, rfl, h1, q, rfl⟩
    · rw [if_neg q] at h2; cases h2
  · cases h
theorem denA_strs {K : PySem.W.Frag} {mg : Str → Option Value} {c : Cfg} : ∀ ys : List Str, DenA K mg c (ys.map V.str) (ys.map D.str)
  | [] => .nil
  | y :: ys => .cons (.str y) (denA_strs ys)
/-- a new thing of the store -/
theorem me_sortN {X : Cx} {e : Expr} {fa : EaF} (h : PE X e (tCB (rSortedS X.K) (tAs X.K X.mg fa))) : ME X e (mNewC sortD fa) := pe_imp h <| by
  rintro σ H Q ⟨c, ρ, d, S', ⟨rfl, k, en⟩, q, p⟩
  obtain ⟨⟨ds, S1⟩, h1, q1⟩ := bd q
  obtain ⟨z, h2, q2⟩ := bd q1
  clear q q1
  obtain ⟨zs, xs, e1, h3, z64, rfl⟩ := sortD_inv h2
  have e1' : ds = [.lst zs] := e1
  subst e1'
  cases q2
  refine ⟨c, ρ, _, S1, .of k en, h1, fun vs c1 l1 k1 e1 D1 => ?_⟩
  have e1' : c1.S = S1 := e1
  subst e1'
  obtain ⟨v, rfl, q1⟩ := da1 D1
  cases q1 with
  | lst s1 t1 =>
    have ev := den_strs t1 h3
    subst ev
    exact ⟨_, xs, rfl, s1.get, z64, fun ys p' hp hs ha => by
      rw [sortC_one hp hs]
      exact post_new (ob := .lst _) (p.mono l1) k1 ha (upd_keep ha) ⟨_, upd_same, denA_strs _⟩⟩
end M

namespace M
open PySem PySem.Spec L2 W2 RZ
/-! ### a key taken out of a dict of the store -/
def gdrop (kvs : List (Key × D)) (k : Key) : List (Key × D) := kvs.filter fun kv => decide (kv.1 ≠ k)
theorem denK_drop {K : PySem.W.Frag} {mg : Str → Option Value} {c : Cfg} {k : Key} : ∀ {ds : List (Key × D)} {vs : List (Key × V)}, DenK K mg c vs ds → DenK K mg c (dropK vs k) (gdrop ds k)
  | [], _, h => by cases h; exact .nil
  | (j, d) :: ds, _, h => by
    cases h with
    | @cons _ v vs _ _ a b =>
      have ih := denK_drop (k := k) b
      unfold dropK gdrop at ih ⊢
      rw [List.filter_cons, List.filter_cons]
      by_cases e : j = k
      · rw [if_neg (by simpa using e), if_neg (by simpa using e)]
        exact ih
      · rw [if_pos (by simpa using e), if_pos (by simpa using e)]
        exact .cons a ih
/-- del o[i] -/
def mDel (fo fi : EvF) : StF := fun ρ S => (fo ρ S).bind fun x => (fi ρ x.2).bind fun y => match x.1 with
  | .ref j => (dctOf y.2 (.ref j)).bind fun kvs => (keyOf y.1).bind fun k => if (gv kvs k).isSome = true then some (.nx ρ, y.2.set j (.dct (gdrop kvs k))) else none
  | _ => none
theorem gv_is {K : PySem.W.Frag} {mg : Str → Option Value} {c : Cfg} {k : Key} {ds : List (Key × D)} {vs : List (Key × V)} (h : DenK K mg c vs ds) (e : (gv ds k).isSome = true) : (valV vs k).isSome = true := by
  have q := den_gv (k := k) h
  cases g : gv ds k with
  | none => rw [g] at e; cases e
  | some d =>
    rw [g] at q
    obtain ⟨v, h1, _⟩ := q
    rw [h1]
    rfl
theorem ms_del {X : Cx} {fo fi : EvF} {st : Stmt} (h : PS X st (sDDel (tM X.K X.mg fo) (tM X.K X.mg fi))) : MS X st (mDel fo fi) := ps_imp h <| by
  rintro Dd σ H ⟨c, ρ, o', S', ⟨rfl, k, en⟩, q, p⟩
  obtain ⟨⟨x, S1⟩, h1, q1⟩ := bd q
  obtain ⟨⟨y, S2⟩, h2, q2⟩ := bd q1
  clear q q1
  cases x <;> try (cases q2)
  rename_i j
  obtain ⟨kvs, h3, q3⟩ := bd (show (dctOf S2 (.ref j)).bind _ = some (o', S') from q2)
  obtain ⟨kk, h4, q⟩ := bd q3
  clear q2 q3
  refine ⟨c, ρ, _, S1, .of k en, h1, fun u c1 l1 k1 e1 D1 => ⟨c1, ρ, y, S2, .of k1 (en.mono l1), by rw [e1]; exact h2, fun w c2 l2 k2 e2 D2 => ?_⟩⟩
  by_cases z : (gv kvs kk).isSome = true
  · rw [if_pos z] at q
    cases q
    subst e2
    have ky := key_go D2 h4
    subst ky
    have hS : c2.S[j]? = some (.dct kvs) := by
      have h3' : (match c2.S[j]? with | some (.dct kvs) => some kvs | _ => none) = some kvs := h3
      split at h3'
      · cases h3'; assumption
      · cases h3'
    have hj := lt_of_get hS
    obtain ⟨vs, hv, t⟩ := k2.at_ _ _ hS
    cases D1.mono l2 with
    | ref _ =>
      have le := put_le (c := c2) hj (o := .dK (dropK vs kk)) (ob := .dct (gdrop kvs kk))
      exact ⟨_, vs, kk, rfl, hv, rfl, gv_is t z, p (c2.put j (.dK (dropK vs kk)) (.dct (gdrop kvs kk))) ((l1.trans l2).trans le) (put_ok k2 hj ⟨_, upd_same, (denK_drop t).mono le⟩) rfl σ (en.mono ((l1.trans l2).trans le))⟩
  · rw [if_neg z] at q; cases q
end M

namespace M
open PySem PySem.Spec L2 W2 RZ
/-! ### one of two expressions that may raise -/
theorem mex_if {X : Cx} {W : WX} {w a b : Expr} {pos : Pos} {t : EtF} {f g : RxF D} (ht : MT X w t) (ha : MEx X W a f) (hb : MEx X W b g) : MEx X W (.IfExp w a b pos) (mxIfE t f g) :=
  pe_imp (pe_ifExp ht ha hb) <| by
    rintro σ H Q ⟨c, ρ, ⟨rfl, k, en⟩, r, S', h1, h2⟩
    obtain ⟨⟨x, S1⟩, h3, q⟩ := bd h1
    refine ⟨c, ρ, x, S1, .of k en, h3, fun c1 l1 k1 e1 => ?_⟩
    cases x with
    | true => exact ⟨c1, ρ, .of k1 (en.mono l1), r, S', by rw [e1]; exact q, fun c2 l2 => h2 c2 (l1.trans l2)⟩
    | false => exact ⟨c1, ρ, .of k1 (en.mono l1), r, S', by rw [e1]; exact q, fun c2 l2 => h2 c2 (l1.trans l2)⟩
theorem w_ifE {ρ : En} {S : Sto} {t : EtF} {f g : RxF D} {V : RX D × Sto → Prop} : wp (mxIfE t f g ρ S) V ↔ wp (t ρ S) fun b => if b.1 = true then wp (f ρ b.2) V else wp (g ρ b.2) V := by
  unfold mxIfE
  simp only [wp_bind]
  constructor <;> intro h <;> refine wp_mono h fun x q => ?_ <;> obtain ⟨b, S1⟩ := x <;> cases b <;> exact q
theorem w_del {ρ : En} {S : Sto} {fo fi : EvF} {O : Out × Sto → Prop} : wp (mDel fo fi ρ S) O ↔ wp (fo ρ S) fun x => wp (fi ρ x.2) fun y => wp (match x.1 with
  | .ref j => (dctOf y.2 (.ref j)).bind fun kvs => (keyOf y.1).bind fun k => if (gv kvs k).isSome = true then some (.nx ρ, y.2.set j (.dct (gdrop kvs k))) else none
  | _ => none) O := by unfold mDel; simp only [wp_bind] <;> exact Iff.rfl
end M

namespace M
open PySem PySem.Spec PyProof.Rows L2 W2 RZ
section
variable {X : Cx} {e ek ed : Expr} {f g : EvF} {fa : EaF} {x : Str} {pos : Pos}
/-- a text of the text's own level -/
theorem me_gstr {z : Str} {t : Tok} (hg : Gl X x) (hm : X.mg x = some (.str z t)) (hd : (x == ("__debug__" : Str)) = false := by decide) : ME X (.Name x pos) (mC (.str z)) := me_c (pe_glob (v := .str z) hg hm ⟨t, rfl⟩ hd) fun _ => .str z
/-- {} as a new thing of the store -/
def mNewD0 : EvF := fun _ S => some (.ref S.length, S ++ [.dct []])
theorem me_newD0 : ME X (.Dict [] [] pos) mNewD0 := pe_imp pe_dnewK <| by
  rintro σ H Q ⟨c, ρ, d, S', ⟨rfl, k, en⟩, q, p⟩
  cases q
  exact fun a ha => post_new (ob := .dct []) p k ha (upd_keep ha) ⟨_, upd_same, .nil⟩
/-- k not in d -/
def mDNin (g f : EvF) : EvF := fun ρ S => (g ρ S).bind fun y => (f ρ y.2).bind fun x => (dctOf x.2 x.1).bind fun kvs => (keyOf y.1).map fun k => (.bl (!(gv kvs k).isSome), x.2)
theorem me_dnin (hr : X.A.units + 1 < cLine) (hk : ME X ek g) (hd : ME X ed f) (hm : behindInMarks .NotIn ed = false := by rfl) : ME X (.Compare ek [.NotIn] [ed] pos) (mDNin g f) := by
  have go : ∀ σ H Q, tM X.K X.mg (mDNin g f) σ H Q → tDNotIn (tM X.K X.mg g) (tM X.K X.mg f) σ H Q := by
    rintro σ H Q ⟨c, ρ, d, S', ⟨rfl, k, en⟩, q, p⟩
    obtain ⟨⟨y, S1⟩, h1, q⟩ := bd q
    obtain ⟨⟨x, S2⟩, h2, q⟩ := bd q
    obtain ⟨kvs, h3, q⟩ := bd q
    obtain ⟨kk, h4, q⟩ := mp q
    cases q
    refine ⟨c, ρ, y, S1, .of k en, h1, fun v c1 l1 k1 e1 D1 => ⟨c1, ρ, x, S2, .of k1 (en.mono l1), by rw [e1]; exact h2, fun u c2 l2 k2 e2 D2 => ?_⟩⟩
    subst e2
    obtain ⟨pp, vs, rfl, hv, t⟩ := dct_go k2 D2 h3
    have a := den_gv (k := kk) t
    have ky := key_go D1 h4
    subst ky
    refine ⟨pp, valV vs kk, rfl, .k hv, ?_⟩
    have : (valV vs kk).isSome = (gv kvs kk).isSome := by
      cases eg : gv kvs kk with
      | none => rw [eg] at a; rw [a]; rfl
      | some w => rw [eg] at a; obtain ⟨wv, g1, _⟩ := a; rw [g1]; rfl
    rw [this]
    exact p.mono (l1.trans l2) |>.here k2 (.bl _)
  refine pe_imp ⟨fun pins s σ H Q I hq => ?_⟩ go
  exact wpAny_Compare1 ((pc_dnotin hr hk hd).run pins s σ H Q I hq) hm
/-- the keys of a dict -/
def keysD (kvs : List (Key × D)) : List D := kvs.map fun kv => match kv.1 with
  | .inl i => .int i
  | .inr x => .str x
theorem denK_keys {K : PySem.W.Frag} {mg : Str → Option Value} {c c' : Cfg} : ∀ {ds : List (Key × D)} {vs : List (Key × V)}, DenK K mg c vs ds → DenA K mg c' (vs.map fun kv => kV kv.1) (keysD ds)
  | [], _, h => by cases h; exact .nil
  | (j, d) :: ds, _, h => by
    cases h with
    | cons a b =>
      refine .cons ?_ (denK_keys b)
      cases j with
      | inl i => exact .int i
      | inr x => exact .str x
/-- list(d): the keys, a new thing of the store -/
def mListK (f : EvF) : EvF := fun ρ S => (f ρ S).bind fun x => (dctOf x.2 x.1).map fun kvs => (.ref x.2.length, x.2 ++ [.lst (keysD kvs)])
theorem me_listK (h : PE X e (tCB (fun xs H Q => ∃ (a : Addr) (kvs : List (Key × V)), xs = [.ref a] ∧ Rd H a (.dK kvs) ∧ ∀ p, H p = none → Q (.ref p) (upd H p (.lst (kvs.map fun kv => kV kv.1)))) (tAs X.K X.mg (mCons f mNil)))) : ME X e (mListK f) := pe_imp h <| by
  rintro σ H Q ⟨c, ρ, d, S', ⟨rfl, k, en⟩, q, p⟩
  obtain ⟨⟨x, S1⟩, h1, q1⟩ := bd q
  obtain ⟨kvs, h2, q2⟩ := mp q1
  clear q q1
  cases q2
  refine ⟨c, ρ, [x], S1, .of k en, one_arg h1, fun vs c1 l1 k1 e1 D1 => ?_⟩
  have e1' : c1.S = S1 := e1
  subst e1'
  obtain ⟨v, rfl, q1⟩ := da1 D1
  obtain ⟨pp, vs, rfl, hv, t⟩ := dct_go k1 q1 h2
  exact ⟨_, vs, rfl, .inl hv, fun a ha => post_new (ob := .lst _) (p.mono l1) k1 ha (upd_keep ha) ⟨_, upd_same, denK_keys t⟩⟩
/-- sorted(d) of a dict whose keys are texts, a new thing of the store -/
def mSortK (f : EvF) : EvF := fun ρ S => (f ρ S).bind fun x => (dctOf x.2 x.1).bind fun kvs => (strsOf (keysD kvs)).bind fun xs => if xs.length < 64 then some (.ref x.2.length, x.2 ++ [.lst ((sortC xs).map .str)]) else none
theorem keys_strs : ∀ {ds : List (Key × D)} {vs : List (Key × V)} {xs : List Str} {K : PySem.W.Frag} {mg : Str → Option Value} {c : Cfg}, DenK K mg c vs ds → strsOf (keysD ds) = some xs → vs.map (·.1) = xs.map Sum.inr
  | [], _, _, _, _, _, h, e => by cases h; cases e; rfl
  | (j, d) :: ds, _, xs, _, _, _, h, e => by
    cases h with
    | cons a b =>
      cases j with
      | inl i => cases e
      | inr x =>
        have e' : (strsOf (keysD ds)).map (fun y => x :: y) = some xs := e
        obtain ⟨ys, h1, rfl⟩ := mp e'
        rw [List.map_cons, List.map_cons, keys_strs b h1]
theorem me_sortK (h : PE X e (tCB (fun xs H Q => ∃ (a : Addr) (kvs : List (Key × V)) (ks : List Str), xs = [.ref a] ∧ Rd H a (.dK kvs) ∧ kvs.map (·.1) = ks.map Sum.inr ∧ ks.length < 64 ∧ ∀ ys p, ys.Perm ks → sortedS ys = true → H p = none → Q (.ref p) (upd H p (.lst (ys.map V.str)))) (tAs X.K X.mg (mCons f mNil)))) : ME X e (mSortK f) := pe_imp h <| by
  rintro σ H Q ⟨c, ρ, d, S', ⟨rfl, k, en⟩, q, p⟩
  obtain ⟨⟨x, S1⟩, h1, q1⟩ := bd q
  obtain ⟨kvs, h2, q2⟩ := bd q1
  obtain ⟨xs, h3, q3⟩ := bd q2
  clear q q1 q2
  by_cases z : xs.length < 64
  · rw [if_pos z] at q3
    cases q3
    refine ⟨c, ρ, [x], S1, .of k en, one_arg h1, fun vs c1 l1 k1 e1 D1 => ?_⟩
    have e1' : c1.S = S1 := e1
    subst e1'
    obtain ⟨v, rfl, q1⟩ := da1 D1
    obtain ⟨pp, vs, rfl, hv, t⟩ := dct_go k1 q1 h2
    exact ⟨_, vs, xs, rfl, .inl hv, keys_strs t h3, z, fun ys p' hp hs ha => by
      rw [sortC_one hp hs]
      exact post_new (ob := .lst _) (p.mono l1) k1 ha (upd_keep ha) ⟨_, upd_same, denA_strs _⟩⟩
  · rw [if_neg z] at q3; cases q3
/-- x[::-1] of a list -/
def mRev (f : EvF) : EvF := fun ρ S => (f ρ S).bind fun x => (lsOf x.2 x.1).map fun xs => (.lst xs.reverse, x.2)
theorem denA_rev {K : PySem.W.Frag} {mg : Str → Option Value} {c : Cfg} : ∀ {ds : List D} {vs : List V}, DenA K mg c vs ds → DenA K mg c vs.reverse ds.reverse
  | [], _, h => by cases h; exact .nil
  | d :: ds, _, h => by
    cases h with
    | cons a b =>
      rw [List.reverse_cons, List.reverse_cons]
      exact (denA_rev b).app (.cons a .nil)
theorem me_revL (h : PE X e (tRevL X.K (tM X.K X.mg f))) : ME X e (mRev f) := pe_imp h <| by
  rintro σ H Q ⟨c, ρ, d, S', ⟨rfl, k, en⟩, q, p⟩
  obtain ⟨⟨x, S1⟩, h1, q1⟩ := bd q
  obtain ⟨xs, h2, q2⟩ := mp q1
  clear q q1
  cases q2
  refine ⟨c, ρ, x, S1, .of k en, h1, fun v c1 l1 k1 e1 D1 => ?_⟩
  have e1' : c1.S = S1 := e1
  subst e1'
  obtain ⟨a, vs, rfl, hr, t⟩ := den_ls k1 D1 h2
  exact ⟨a, vs, rfl, .inl hr, post_lst (p.mono l1) k1 (denA_rev t)⟩
/-- d.pop(k) of a dict of the store -/
def mDPop (f g : EvF) : EvF := fun ρ S => (f ρ S).bind fun x => (g ρ x.2).bind fun y => match x.1 with
  | .ref j => (dctOf x.2 (.ref j)).bind fun _ => (dctOf y.2 (.ref j)).bind fun kvs => (keyOf y.1).bind fun k => (gv kvs k).map fun d => (d, y.2.set j (.dct (gdrop kvs k)))
  | _ => none
theorem me_dpop (h : PE X e (tDPop1 (tM X.K X.mg f) (tM X.K X.mg g))) : ME X e (mDPop f g) := pe_imp h <| by
  rintro σ H Q ⟨c, ρ, d, S', ⟨rfl, k, en⟩, q, p⟩
  obtain ⟨⟨x, S1⟩, h1, q1⟩ := bd q
  obtain ⟨⟨y, S2⟩, h2, q2⟩ := bd q1
  clear q q1
  cases x <;> try (cases q2)
  rename_i j
  obtain ⟨kv0, h0, q3⟩ := bd (show (dctOf S1 (.ref j)).bind _ = some (d, S') from q2)
  obtain ⟨kvs, h3, q4⟩ := bd q3
  obtain ⟨kk, h4, q5⟩ := bd q4
  obtain ⟨dd, h5, q6⟩ := mp q5
  clear q2 q3 q4 q5
  cases q6
  refine ⟨c, ρ, _, S1, .of k en, h1, fun u c1 l1 k1 e1 D1 => ?_⟩
  have e1' : c1.S = S1 := e1
  subst e1'
  obtain ⟨pp, vs0, rfl, hv0, t0⟩ := dct_go k1 D1 h0
  refine ⟨pp, rfl, .inl ⟨_, .inl hv0⟩, c1, ρ, y, S2, .of k1 (en.mono l1), h2, fun w c2 l2 k2 e2 D2 => ?_⟩
  have e2' : c2.S = S2 := e2
  subst e2'
  have ky := key_go D2 h4
  subst ky
  have hS : c2.S[j]? = some (.dct kvs) := by
    have h3' : (match c2.S[j]? with | some (.dct kvs) => some kvs | _ => none) = some kvs := h3
    split at h3'
    · cases h3'; assumption
    · cases h3'
  have hj := lt_of_get hS
  obtain ⟨vs, hv, t⟩ := k2.at_ _ _ hS
  have hp : pp = c2.π j := by
    cases D1.mono l2 with
    | ref _ => rfl
  subst hp
  have q := den_gv (k := kk) t
  rw [h5] at q
  obtain ⟨v', hv', Dv⟩ := q
  have le := put_le (c := c2) hj (o := .dK (dropK vs kk)) (ob := .dct (gdrop kvs kk))
  exact ⟨vs, kk, v', hv, rfl, hv', p v' (c2.put j (.dK (dropK vs kk)) (.dct (gdrop kvs kk))) ((l1.trans l2).trans le) (put_ok k2 hj ⟨_, upd_same, (denK_drop t).mono le⟩) rfl (Dv.mono le)⟩
end
end M

namespace M
open PySem PySem.Spec PyProof.Rows L2 W2 RZ
theorem len1 {fa : EaF} {n : Nat} (h : ∀ ρ S ds S', fa ρ S = some (ds, S') → ds.length = n) : ∀ ρ S ds S', fa ρ S = some (ds, S') → ds.length + 1 = n + 1 := fun ρ S ds S' q => by rw [h ρ S ds S' q]
section
variable {X : Cx} {e ek ed : Expr} {f g : EvF} {fa : EaF} {pos : Pos}
theorem mt_dnin (hr : X.A.units + 1 < cLine) (hk : ME X ek g) (hd : ME X ed f) (hm : behindInMarks .NotIn ed = false := by rfl) : MT X (.Compare ek [.NotIn] [ed] pos) (mTv (mDNin g f)) := by
  have go : ∀ σ H Q, tM X.K X.mg (mDNin g f) σ H Q → tDNotIn (tM X.K X.mg g) (tM X.K X.mg f) σ H Q := by
    rintro σ H Q ⟨c, ρ, d, S', ⟨rfl, k, en⟩, q, p⟩
    obtain ⟨⟨y, S1⟩, h1, q⟩ := bd q
    obtain ⟨⟨x, S2⟩, h2, q⟩ := bd q
    obtain ⟨kvs, h3, q⟩ := bd q
    obtain ⟨kk, h4, q⟩ := mp q
    cases q
    refine ⟨c, ρ, y, S1, .of k en, h1, fun v c1 l1 k1 e1 D1 => ⟨c1, ρ, x, S2, .of k1 (en.mono l1), by rw [e1]; exact h2, fun u c2 l2 k2 e2 D2 => ?_⟩⟩
    subst e2
    obtain ⟨pp, vs, rfl, hv, t⟩ := dct_go k2 D2 h3
    have a := den_gv (k := kk) t
    have ky := key_go D1 h4
    subst ky
    refine ⟨pp, valV vs kk, rfl, .k hv, ?_⟩
    have : (valV vs kk).isSome = (gv kvs kk).isSome := by
      cases eg : gv kvs kk with
      | none => rw [eg] at a; rw [a]; rfl
      | some w => rw [eg] at a; obtain ⟨wv, g1, _⟩ := a; rw [g1]; rfl
    rw [this]
    exact p.mono (l1.trans l2) |>.here k2 (.bl _)
  exact mt_of (pt_cmp (pc_dnotin hr hk hd) hm) go
/-- list(d): the keys, a list that will not change -/
def mListKI (f : EvF) : EvF := fun ρ S => (f ρ S).bind fun x => (dctOf x.2 x.1).map fun kvs => (.lst (keysD kvs), x.2)
theorem me_listKI (h : PE X e (tCB (fun xs H Q => ∃ (a : Addr) (kvs : List (Key × V)), xs = [.ref a] ∧ Rd H a (.dK kvs) ∧ ∀ p, H p = none → Q (.ref p) (upd H p (.lst (kvs.map fun kv => kV kv.1)))) (tAs X.K X.mg (mCons f mNil)))) : ME X e (mListKI f) := pe_imp h <| by
  rintro σ H Q ⟨c, ρ, d, S', ⟨rfl, k, en⟩, q, p⟩
  obtain ⟨⟨x, S1⟩, h1, q1⟩ := bd q
  obtain ⟨kvs, h2, q2⟩ := mp q1
  clear q q1
  cases q2
  refine ⟨c, ρ, [x], S1, .of k en, one_arg h1, fun vs c1 l1 k1 e1 D1 => ?_⟩
  have e1' : c1.S = S1 := e1
  subst e1'
  obtain ⟨v, rfl, q1⟩ := da1 D1
  obtain ⟨pp, vs, rfl, hv, t⟩ := dct_go k1 q1 h2
  exact ⟨_, vs, rfl, .inl hv, post_lst (p.mono l1) k1 (denK_keys t)⟩
/-- sorted(x) of some texts, a list that will not change -/
theorem me_sortI (h : PE X e (tCB (rSortedS X.K) (tAs X.K X.mg fa))) : ME X e (mCb sortD fa) := pe_imp h <| by
  rintro σ H Q ⟨c, ρ, d, S', ⟨rfl, k, en⟩, q, p⟩
  obtain ⟨⟨ds, S1⟩, h1, q1⟩ := bd q
  obtain ⟨z, h2, q2⟩ := mp q1
  clear q q1
  obtain ⟨zs, xs, e1, h3, z64, rfl⟩ := sortD_inv h2
  have e1' : ds = [.lst zs] := e1
  subst e1'
  cases q2
  refine ⟨c, ρ, _, S1, .of k en, h1, fun vs c1 l1 k1 e1 D1 => ?_⟩
  have e1' : c1.S = S1 := e1
  subst e1'
  obtain ⟨v, rfl, q1⟩ := da1 D1
  cases q1 with
  | lst s1 t1 =>
    have ev := den_strs t1 h3
    subst ev
    exact ⟨_, xs, rfl, s1.get, z64, fun ys p' hp hs ha => by
      rw [sortC_one hp hs]
      exact post_lst (p.mono l1) k1 (denA_strs _) p' ha⟩
end
end M

namespace M
open PySem PySem.Spec PyProof.Rows L2 W2 RZ
theorem xn2 {K : PySem.W.Frag} {mg : Str → Option Value} {a b cn : Str} (h1 : XnK K mg a cn) (h2 : XnK K mg b cn) : ∀ y ∈ [a, b], XnK K mg y cn := fun y m => by
  rcases List.mem_cons.mp m with rfl | m
  · exact h1
  · rw [List.mem_singleton.mp m]; exact h2
section
variable {X : Cx} {a b : Expr} {f g : EvF} {pos : Pos}
theorem mt_chain {o o' : CmpOp} {op op' : D → D → Option D} {b' : Expr} {g' : EvF} (ho : OpD X (compareOp o) op) (ho' : OpD X (compareOp o') op') (ha : ME X a f) (hb : ME X b g) (hc : ME X b' g')
    (hm : lastMarks [o, o'] [b, b'] = false := by with_unfolding_all rfl) : MT X (.Compare a [o, o'] [b, b'] pos) (mTv (mChain op op' f g g')) :=
  mt_of (pt_chain ho ho' ha hb hc hm) <| by
    rintro σ H Q ⟨c, ρ, d, S', ⟨rfl, k, en⟩, q, p⟩
    obtain ⟨x, h1, q⟩ := bd q
    obtain ⟨y, h2, q⟩ := bd q
    obtain ⟨z, h3, q⟩ := bd q
    refine ⟨c, ρ, x.1, x.2, .of k en, h1, fun v c1 l1 k1 e1 D1 => ?_⟩
    refine ⟨c1, ρ, y.1, y.2, .of k1 (en.mono l1), by rw [e1]; exact h2, fun w c2 l2 k2 e2 D2 => ?_⟩
    refine ⟨c2, x.1, y.1, z, rfl, k2, D1.mono l2, D2, h3, fun vz c3 l3 k3 e3 D3 => ?_⟩
    cases z <;> try (cases q)
    cases D3
    rename_i bz
    refine ⟨bz, rfl, ?_⟩
    cases bz with
    | false =>
      cases q
      exact p _ c3 ((l1.trans l2).trans l3) k3 (e3.trans e2) (.bl false)
    | true =>
      obtain ⟨w', h4, q⟩ := bd q
      obtain ⟨z', h5, q⟩ := mp q
      cases q
      refine ⟨c3, ρ, w'.1, w'.2, .of k3 (en.mono ((l1.trans l2).trans l3)), by rw [e3, e2]; exact h4, fun vw c4 l4 k4 e4 D4 => ?_⟩
      exact ⟨c4, y.1, w'.1, d, rfl, k4, D2.mono (l3.trans l4), D4, h5, by rw [e4]; exact p.mono (((l1.trans l2).trans l3).trans l4)⟩
end
end M

namespace M
open PySem L2
section
variable {ρ : En} {S : Sto} {Q : D × Sto → Prop} {V : RX D × Sto → Prop} {f g fo : EvF} {cn m : Str}
theorem w_newD0 : wp (mNewD0 ρ S) Q ↔ Q (.ref S.length, S ++ [.dct []]) := wp_some
theorem w_dnin : wp (mDNin g f ρ S) Q ↔ wp (g ρ S) fun y => wp (f ρ y.2) fun x => wp (dctOf x.2 x.1) fun kvs => wp (keyOf y.1) fun k => Q (.bl (!(gv kvs k).isSome), x.2) := by unfold mDNin; simp only [wp_bind, wp_map]
theorem w_listKI : wp (mListKI f ρ S) Q ↔ wp (f ρ S) fun x => wp (dctOf x.2 x.1) fun kvs => Q (.lst (keysD kvs), x.2) := by unfold mListKI; simp only [wp_bind, wp_map]
theorem w_sortK : wp (mSortK f ρ S) Q ↔ wp (f ρ S) fun x => wp (dctOf x.2 x.1) fun kvs => wp (strsOf (keysD kvs)) fun xs => wp (if xs.length < 64 then some (D.ref x.2.length, x.2 ++ [Ob.lst ((sortC xs).map .str)]) else none) Q := by unfold mSortK; simp only [wp_bind]
theorem w_rev : wp (mRev f ρ S) Q ↔ wp (f ρ S) fun x => wp (lsOf x.2 x.1) fun xs => Q (.lst xs.reverse, x.2) := by unfold mRev; simp only [wp_bind, wp_map]
theorem w_dpop : wp (mDPop f g ρ S) Q ↔ wp (f ρ S) fun x => wp (g ρ x.2) fun y => wp (match x.1 with
  | .ref j => (dctOf x.2 (.ref j)).bind fun _ => (dctOf y.2 (.ref j)).bind fun kvs => (keyOf y.1).bind fun k => (gv kvs k).map fun d => (d, y.2.set j (.dct (gdrop kvs k)))
  | _ => none) Q := by unfold mDPop; simp only [wp_bind] <;> exact Iff.rfl
theorem w_xmethK {F : FnR} : wp (mxMethK cn m F fo f ρ S) V ↔ wp (fo ρ S) fun x => wp (match x.1 with
  | .ref j => match x.2[j]? with
    | some (.ins c fs) => if c = cn ∧ fs.lookup m = none then (f ρ x.2).bind fun y => F [.ref j, y.1] y.2 else none
    | _ => none
  | _ => none) V := by unfold mxMethK; rw [wp_bind] <;> exact Iff.rfl
theorem w_xmethR {F : FnR} : wp (mxMethR cn m F fo f g ρ S) V ↔ wp (fo ρ S) fun x => wp (match x.1 with
  | .ref j => match x.2[j]? with
    | some (.ins c fs) => if c = cn ∧ fs.lookup m = none then (f ρ x.2).bind fun y => (g ρ y.2).bind fun z => F [.ref j, z.1, y.1] z.2 else none
    | _ => none
  | _ => none) V := by unfold mxMethR; rw [wp_bind] <;> exact Iff.rfl
end
/-! ### a field of a thing that is known -/
section
variable {ρ : En} {S : Sto} {cn n m : Str} {j : Nat} {fs : Fs}
theorem fld_at {f : EvF} {d : D} (hf : f ρ S = some (.ref j, S)) (hS : S[j]? = some (.ins cn fs)) (hl : fs.lookup n = some d) : mFld cn n f ρ S = some (d, S) := by
  unfold mFld
  rw [hf]
  show (match S[j]? with | some (.ins c fs) => if c = cn then (fs.lookup n).map fun d => (d, S) else none | _ => none) = _
  rw [hS]
  show (if cn = cn then _ else _) = _
  rw [if_pos rfl, hl]
  rfl
theorem setF_at {f g : EvF} {d : D} {S' : Sto} (hg : g ρ S = some (d, S')) (hf : f ρ S' = some (.ref j, S')) (hS : S'[j]? = some (.ins cn fs)) (hl : fs.length < 1000) : mSetF cn n g f ρ S = some (.nx ρ, S'.set j (.ins cn (putD n d fs))) := by
  unfold mSetF
  rw [hg]
  show ((f ρ S').bind _) = _
  rw [hf]
  show (match S'[j]? with | some (.ins c fs) => if c = cn ∧ fs.length < 1000 then some (Out.nx ρ, S'.set j (.ins c (putD n d fs))) else none | _ => none) = _
  rw [hS]
  show (if cn = cn ∧ fs.length < 1000 then _ else _) = _
  rw [if_pos ⟨rfl, hl⟩]
theorem meth_at {F : Fn} {f : EvF} {fa : EaF} (hf : f ρ S = some (.ref j, S)) (hS : S[j]? = some (.ins cn fs)) (hl : fs.lookup m = none) : mMeth cn m F f fa ρ S = (fa ρ S).bind fun y => F (.ref j :: y.1) y.2 := by
  unfold mMeth
  rw [hf]
  show (match S[j]? with | some (.ins c fs) => if c = cn ∧ fs.lookup m = none then (fa ρ S).bind fun y => F (.ref j :: y.1) y.2 else none | _ => none) = _
  rw [hS]
  show (if cn = cn ∧ fs.lookup m = none then _ else _) = _
  rw [if_pos ⟨rfl, hl⟩]
theorem xmeth_at {F : FnR} {f : EvF} {fa : EaF} (hf : f ρ S = some (.ref j, S)) (hS : S[j]? = some (.ins cn fs)) (hl : fs.lookup m = none) : mxMeth cn m F f fa ρ S = (fa ρ S).bind fun y => F (.ref j :: y.1) y.2 := by
  unfold mxMeth
  rw [hf]
  show (match S[j]? with | some (.ins c fs) => if c = cn ∧ fs.lookup m = none then (fa ρ S).bind fun y => F (.ref j :: y.1) y.2 else none | _ => none) = _
  rw [hS]
  show (if cn = cn ∧ fs.lookup m = none then _ else _) = _
  rw [if_pos ⟨rfl, hl⟩]
end
end M

namespace M
open PySem PySem.Spec PyProof.Rows L2 W2 RZ
/-! ### enumerate of a list, or of a list of the store, which must stay while it is walked -/
def enuD : Nat → List D → List D
  | _, [] => []
  | i, d :: ds => .tup [.int (i : Nat), d] :: enuD (i + 1) ds
theorem enu_get : ∀ (k : Nat) (ds : List D) (i : Nat), (enuD k ds)[i]? = (ds[i]?).map fun d => D.tup [.int ((k + i : Nat) : Int), d]
  | _, [], _ => by simp [enuD]
  | k, d :: ds, 0 => by simp [enuD]
  | k, d :: ds, i + 1 => by
    rw [enuD, List.getElem?_cons_succ, List.getElem?_cons_succ, enu_get (k + 1) ds i]
    rw [show k + 1 + i = k + (i + 1) by omega]
theorem enu_len : ∀ (k : Nat) (ds : List D), (enuD k ds).length = ds.length
  | _, [] => rfl
  | k, d :: ds => by rw [enuD, List.length_cons, List.length_cons, enu_len]
def EnumA (K : PySem.W.Frag) (mg : Str → Option Value) (c : Cfg) (J : It) (all ds : List D) (g : Option Nat) : Prop := ∀ i c1, Lw c c1 → Ok K mg c1 → holdsG g all c1.S →
  (∀ d, ds[i]? = some d → J.go i c1.H ∧ ∀ x H', J.yld i c1.H x H' → ∃ c2, c2.H = H' ∧ Le c1 c2 ∧ Ok K mg c2 ∧ c2.S = c1.S ∧ Den K mg c2 x d) ∧ (ds.length ≤ i → J.stop i c1.H)
def tIE (K : PySem.W.Frag) (mg : Str → Option Value) (f : SqF) : TI := fun σ H R => ∃ c ρ ds g S', At K mg c ρ σ H ∧ f ρ c.S = some ((ds, g), S') ∧ ∀ J c1, Le c c1 → Ok K mg c1 → c1.S = S' → EnumA K mg c1 J ds (enuD 0 ds) g → R J c1.H
def sE (f : EvF) : SqF := fun ρ S => (f ρ S).bind fun x => match x.1 with
  | .lst ds => some ((ds, none), x.2)
  | .ref j => (stLst x.2 j).map fun ds => ((ds, some j), x.2)
  | _ => none
noncomputable def mForE (sr : SqF) (tg : TgF) (gd : StF) : StF := fun ρ S => (sr ρ S).bind fun x => loopG tg gd x.1.1 x.1.2 (enuD 0 x.1.1) ρ x.2
section
variable {X : Cx} {tg it : Expr} {f : EvF}
theorem enumA_of {K : PySem.W.Frag} {mg : Str → Option Value} {c : Cfg} {a : Addr} {ds : List D} {g : Option Nat} (h : ∀ c1, Lw c c1 → Ok K mg c1 → holdsG g ds c1.S → ∃ vs, SqL K c1.H a vs ∧ DenA K mg c1 vs ds) : EnumA K mg c (Ite K a) ds (enuD 0 ds) g := by
  intro i c1 l k hg
  obtain ⟨vs, s1, t⟩ := h c1 l k hg
  refine ⟨fun d e => ?_, fun hl => ⟨vs, s1, by rw [t.length]; rw [enu_len] at hl; exact hl⟩⟩
  rw [enu_get] at e
  obtain ⟨d', e1, rfl⟩ := Option.map_eq_some_iff.mp e
  obtain ⟨v, h1, h2⟩ := t.get e1
  refine ⟨⟨vs, v, s1, h1⟩, ?_⟩
  rintro x H' ⟨T, x, rfl, hT, rfl, q⟩
  have w := q vs s1
  rw [h1] at w
  cases w
  exact ⟨c1.lay T (.tup [.int (i : Nat), v]), rfl, lay_le hT, lay_ok k hT, rfl, den_tup k hT (.cons (by rw [Nat.zero_add]; exact .int _) (.cons h2 .nil))⟩
theorem mi_enum (h : PI X tg it (iEnum X.K (tAs X.K X.mg (mCons f mNil)))) : PI X tg it (tIE X.K X.mg (sE f)) := pi_imp h <| by
  rintro σ H R ⟨c, ρ, ds, g, S', ⟨rfl, k, en⟩, q, p⟩
  obtain ⟨⟨x, S1⟩, h1, q⟩ := bd q
  cases x <;> try (cases q)
  · refine ⟨c, ρ, _, _, .of k en, one_arg h1, fun vs c1 l1 k1 e1 D1 => ?_⟩
    obtain ⟨v, rfl, q1⟩ := da1 D1
    cases q1 with
    | lst s t => exact ⟨_, _, rfl, s.get, p _ c1 l1 k1 e1 (enumA_of fun c2 l2 k2 _ => ⟨_, (Sl.mw l2 (Or.inl s)).get, t.mw l2⟩)⟩
  · rename_i j
    obtain ⟨xs, h2, q⟩ := mp (show (stLst S1 j).map _ = some ((ds, g), S') from q)
    cases q
    refine ⟨c, ρ, _, S1, .of k en, one_arg h1, fun vs c1 l1 k1 e1 D1 => ?_⟩
    obtain ⟨v, rfl, q1⟩ := da1 D1
    cases q1 with
    | ref hj =>
      obtain ⟨vs, hv, t⟩ := k1.at_ _ _ (show c1.S[j]? = some (.lst ds) by rw [show c1.S = S1 from e1]; exact stLst_get h2)
      refine ⟨_, _, rfl, .inl (.inl hv), p _ c1 l1 k1 e1 (enumA_of fun c2 l2 k2 hg => ?_)⟩
      obtain ⟨vs2, hv2, t2⟩ := k2.at_ _ _ (show c2.S[j]? = some (.lst ds) from hg)
      rw [l2.pi j hj] at hv2
      exact ⟨vs2, .inl (.inl hv2), t2⟩
end
section
variable {X : Cx} {st : Stmt} {sr : SqF} {tg : TgF} {gd : StF}
theorem ms_forE (h : PS X st (tFor (tIE X.K X.mg sr) (tG X.K X.mg tg) (tS X.K X.mg gd))) : MS X st (mForE sr tg gd) := ps_imp h <| by
  rintro Dd σ H ⟨c, ρ, o, S', ⟨rfl, k, en⟩, q, p⟩
  obtain ⟨⟨⟨all, g⟩, S1⟩, h1, q⟩ := bd q
  refine ⟨c, ρ, all, g, S1, .of k en, h1, fun J c1 l1 k1 e1 En => ?_⟩
  have q' : loopG tg gd all g (enuD 0 all) ρ S1 = some (o, S') := q
  clear q
  revert q' En
  generalize enuD 0 all = ds
  intro En q
  let W : Nat → L2.St → Hp → Prop := fun i σ H => ∃ c2 ρ2, At X.K X.mg c2 ρ2 σ H ∧ Le c1 c2 ∧ i ≤ ds.length ∧ loopG tg gd all g (ds.drop i) ρ2 c2.S = some (o, S')
  refine ⟨fun i m σ H => m = ds.length - i ∧ W i σ H, ⟨_, rfl, c1, ρ, .of k1 (en.mono l1), .refl _, Nat.zero_le _, by rw [e1]; exact q⟩, ?_⟩
  rintro i m σ' H' ⟨rfl, c2, ρ2, ⟨rfl, k2, en2⟩, l2, hi, q2⟩
  have hG := loopG_in q2
  obtain ⟨Eg, Es⟩ := En i c2 l2.lw k2 hG
  rcases Nat.lt_or_ge i ds.length with z | z
  · right
    obtain ⟨hg, hy⟩ := Eg _ (List.getElem?_eq_getElem z)
    rw [List.drop_eq_getElem_cons z, loopG_cons hG] at q2
    obtain ⟨ρ3, g1, q2⟩ := bd q2
    obtain ⟨⟨x, S3⟩, g2, q2⟩ := bd q2
    refine ⟨hg, W (i + 1), fun σ3 H3 w => ⟨ds.length - (i + 1), by omega, rfl, w⟩, fun v H3 y => ?_⟩
    obtain ⟨c3, rfl, l3, k3, e3, D3⟩ := hy v H3 y
    refine ⟨c3, ρ2, _, ρ3, .of k3 (en2.mono l3), D3, g1, fun σ4 en4 => ⟨c3, ρ3, x, S3, .of k3 en4, by rw [e3]; exact g2, fun c4 l4 k4 e4 => ?_⟩⟩
    have l5 := l2.trans (l3.trans l4)
    cases x with
    | nx ρ' => exact fun σ5 en5 => ⟨c4, ρ', .of k4 en5, l5, z, by rw [e4]; exact q2⟩
    | ct ρ' => exact fun σ5 en5 => ⟨c4, ρ', .of k4 en5, l5, z, by rw [e4]; exact q2⟩
    | bk ρ' => cases q2; exact p c4 (l1.trans l5) k4 e4
    | rt d => cases q2; exact p c4 (l1.trans l5) k4 e4
  · left
    refine ⟨Es z, ?_⟩
    rw [List.drop_eq_nil_of_le z, loopG_nil hG] at q2
    cases q2
    exact p c2 (l1.trans l2) k2 rfl σ' en2
end
/-! ### a def as a value -/
theorem me_fnv {X : Cx} {k np : Nat} {F : Fn} {x : Str} {pos : Pos} (C : Cal X.prog X.w X.K X.mg X.base k x np F) (hg : Gl X x) (hd : (x == ("__debug__" : Str)) = false := by decide) : ME X (.Name x pos) (mC (.fn x)) := by
  obtain ⟨f, fd, ps, hm, _⟩ := C.ex
  exact me_gref hg hm (fun c => .fn hm) hd
/-! ### startswith -/
def mSw (f h : EvF) : EvF := fun ρ S => (f ρ S).bind fun x => match x.1 with
  | .str a => (h ρ x.2).bind fun y => match y.1 with
    | .str b => some (.bl (Txt.startswith a b), y.2)
    | _ => none
  | _ => none
theorem me_sw {X : Cx} {e : Expr} {f h : EvF} (he : PE X e (tBM X.K "str" (fun x xs H Q => ∃ a b, x = .str a ∧ xs = [.str b] ∧ Q (.bl (Txt.startswith a b)) H) (tM X.K X.mg f) (tAs X.K X.mg (mCons h mNil)))) : ME X e (mSw f h) := pe_imp he <| by
  rintro σ H Q ⟨c, ρ, d, S', ⟨rfl, k, en⟩, q, p⟩
  obtain ⟨⟨x, S1⟩, h1, q2⟩ := bd q
  clear q
  refine ⟨c, ρ, x, S1, .of k en, h1, fun v c1 l1 k1 e1 D1 => ?_⟩
  cases x <;> try (cases q2)
  rename_i a
  obtain ⟨⟨y, S2⟩, h2, q2⟩ := bd (show (h ρ S1).bind _ = some (d, S') from q2)
  cases y <;> try (cases q2)
  rename_i b
  cases D1
  refine ⟨rfl, c1, ρ, _, _, .of k1 (en.mono l1), by rw [e1]; exact one_arg h2, fun vs c2 l2 k2 e2 D2 => ?_⟩
  obtain ⟨w, rfl, dw⟩ := da1 D2
  cases dw
  exact ⟨a, b, rfl, rfl, p _ c2 (l1.trans l2) k2 e2 (.bl _)⟩
/-! ### list(x), tuple(x) of what may lie in the store -/
def listS : CbF := fun S ds => match ds with
  | [.lst xs] => some (.lst xs)
  | [.tup xs] => some (.lst xs)
  | [.ref j] => (stLst S j).map .lst
  | _ => none
def tupS : CbF := fun S ds => match ds with
  | [.lst xs] => some (.tup xs)
  | [.tup xs] => some (.tup xs)
  | [.ref j] => (stLst S j).map .tup
  | _ => none
section
variable {X : Cx}
theorem cd_listS : CallD X (.type "list") listS := by
  rintro pins s σ H xs us Q I r ⟨c, ds, z, rfl, k, D1, e, P⟩
  unfold listS at e
  split at e
  · obtain ⟨v, rfl, q⟩ := da1 D1
    cases e
    cases q with
    | lst s1 t1 => exact call_list_of pins s σ _ _ us Q I r ⟨_, _, rfl, .inl s1.get, post_lst P k t1⟩
  · obtain ⟨v, rfl, q⟩ := da1 D1
    cases e
    cases q with
    | tup s1 t1 => exact call_list_of pins s σ _ _ us Q I r ⟨_, _, rfl, .inr s1.get, post_lst P k t1⟩
  · obtain ⟨v, rfl, q⟩ := da1 D1
    obtain ⟨ys, h2, e2⟩ := mp e
    cases e2
    cases q with
    | ref hj =>
      obtain ⟨vs, hv, t⟩ := k.at_ _ _ (stLst_get h2)
      exact call_list_of pins s σ _ _ us Q I r ⟨_, _, rfl, .inl (.inl (.inl hv)), post_lst P k t⟩
  · cases e
theorem cd_tupS : CallD X (.type "tuple") tupS := by
  rintro pins s σ H xs us Q I r ⟨c, ds, z, rfl, k, D1, e, P⟩
  unfold tupS at e
  split at e
  · obtain ⟨v, rfl, q⟩ := da1 D1
    cases e
    cases q with
    | lst s1 t1 => exact call_tuple_of pins s σ _ _ us Q I r ⟨_, _, rfl, .inl ⟨s1.get, post_tup P k t1⟩⟩
  · obtain ⟨v, rfl, q⟩ := da1 D1
    cases e
    cases q with
    | tup s1 t1 => exact call_tuple_of pins s σ _ _ us Q I r ⟨_, _, rfl, .inr ⟨s1.get, P.here k (.tup s1 t1)⟩⟩
  · obtain ⟨v, rfl, q⟩ := da1 D1
    obtain ⟨ys, h2, e2⟩ := mp e
    cases e2
    cases q with
    | ref hj =>
      obtain ⟨vs, hv, t⟩ := k.at_ _ _ (stLst_get h2)
      exact call_tuple_of pins s σ _ _ us Q I r ⟨_, _, rfl, .inl ⟨.inl (.inl hv), post_tup P k t⟩⟩
  · cases e
/-! ### x not in a list of the store -/
def ninQS (S : Sto) (a b : D) : Option D := (lsOf S b).bind fun ds => (memD ds a).map fun x => .bl (!x)
theorem od_ninQS : OpS X (compareOp .NotIn) ninQS := by
  rintro pins s σ H x y v u Q I rx ry ⟨c, a, b, z, rfl, k, Da, Db, e, P⟩
  unfold ninQS at e
  obtain ⟨ds, h1, e⟩ := bd e
  obtain ⟨r, h2, rfl⟩ := mp e
  obtain ⟨p, vs, rfl, hs, t⟩ := den_ls k Db h1
  obtain ⟨f1, f2, f3⟩ := mem_go Da t h2
  exact op_notIn_seq pins s σ _ _ _ v u Q I rx ry ⟨p, vs, rfl, .inl (.inl hs), f1, f2, by rw [if_pos rfl, f3]; exact P.here k (.bl _)⟩
/-! ### dict([(k, v)]) with a number as a key, too -/
def dictK : CbF := fun _ ds => match ds with
  | [.lst []] => some (.dct [])
  | [.lst [.tup [.str k, d]]] => some (.dct [(.inr k, d)])
  | [.lst [.tup [.int k, d]]] => some (.dct [(.inl k, d)])
  | _ => none
theorem cd_dictK (hc : X.calm = true) : CallD X (.type "dict") dictK := by
  rintro pins s σ H xs us Q I r ⟨c, ds, z, rfl, k, D1, e, P⟩
  unfold dictK at e
  split at e
  · obtain ⟨v, rfl, q⟩ := da1 D1
    cases e
    cases q with
    | lst s1 t1 =>
      cases t1
      exact call_dictP hc pins s σ _ _ us Q I r ⟨_, [], [], rfl, s1.get, .nil, post_dct P k .nil⟩
  · obtain ⟨v, rfl, q⟩ := da1 D1
    cases e
    rename_i kk d
    cases q with
    | lst s1 t1 =>
      cases t1 with
      | cons a b =>
        cases b
        cases a with
        | @tup aT _ _ s2 t2 =>
          obtain ⟨x, y, rfl, q1, q2⟩ := da2 t2
          cases q1
          exact call_dictP hc pins s σ _ _ us Q I r ⟨_, [aT], [(.inr kk, y)], rfl, s1.get, .cons s2.get .nil, post_dct P k (.cons q2 .nil)⟩
  · obtain ⟨v, rfl, q⟩ := da1 D1
    cases e
    rename_i kk d
    cases q with
    | lst s1 t1 =>
      cases t1 with
      | cons a b =>
        cases b
        cases a with
        | @tup aT _ _ s2 t2 =>
          obtain ⟨x, y, rfl, q1, q2⟩ := da2 t2
          cases q1
          exact call_dictP hc pins s σ _ _ us Q I r ⟨_, [aT], [(.inl kk, y)], rfl, s1.get, .cons s2.get .nil, post_dct P k (.cons q2 .nil)⟩
  · cases e
end
end M

namespace M
open PySem PySem.Spec PyProof.Rows L2 W2 RZ
/-! ### two dicts of the store with the same items are not unlike -/
def SameK (S : Sto) (a b : D) : Prop := ∃ kvs, dctOf S a = some kvs ∧ dctOf S b = some kvs ∧ ∀ p ∈ kvs, gv kvs p.1 = some p.2 ∧ ∃ x, toPS S p.2 = some x ∧ SeqAt.shaped x = true ∧ x.depth ≤ 60 ∧ PyData.eqv x x = true
open Classical in
noncomputable def neDS (S : Sto) (a b : D) : Option D := if SameK S a b then some (.bl false) else none
section
variable {X : Cx}
theorem hits_go {pins : List (Addr × Obj)} {σ : L2.St} {s : Shared} {A : Around} {mg : Str → Option Value} {c : Cfg} (k : Ok X.K mg c) (I : Inv X pins σ c.H s) (hu : A.units + 62 < cLine) {kvs : List (Key × D)} {vs2 : List (Key × V)} {vb : List (Key × Value)} (rb : KV vs2 vb) (t2 : DenK X.K mg c vs2 kvs)
    (hall : ∀ p ∈ kvs, gv kvs p.1 = some p.2 ∧ ∃ x, toPS c.S p.2 = some x ∧ SeqAt.shaped x = true ∧ x.depth ≤ 60 ∧ PyData.eqv x x = true) :
    ∀ {es : List (Key × D)} {qs : List (Key × V)} {qa : List (Key × Value)}, (∀ p ∈ es, p ∈ kvs) → DenK X.K mg c qs es → KV qs qa → PySem.W.KeqHits A.in1 s vb qa true
  | [], _, _, _, h, r => by
    cases h
    unfold KV at r
    cases r
    exact .nil
  | (kk, d) :: es, _, _, hs, h, r => by
    cases h with
    | cons a b =>
      unfold KV at r
      cases r with
      | @cons p q ps qs' h12 t =>
        obtain ⟨h1, h2⟩ := h12
        obtain ⟨g1, x, g2, g3, g4, g5⟩ := hall (kk, d) (hs _ List.mem_cons_self)
        have dg := den_gv (k := kk) t2
        rw [show gv kvs kk = some d from g1] at dg
        obtain ⟨v', e, Dv⟩ := dg
        have rr : RelO (some v') (valueAt vb kk) := by rw [← e]; exact rb.val kk
        obtain ⟨y, hy, ry⟩ := rr.some_of
        obtain ⟨k2, v⟩ := q
        have h1' : kk = k2 := h1
        rw [h1'] at hy
        obtain ⟨as, r1⟩ := Dp.reads I x _ _ (den_dpS k a g2) h2
        obtain ⟨bs, r2⟩ := Dp.reads I x _ _ (den_dpS k Dv g2) ry
        have sh : x.canLay0 = true := by
          unfold SeqAt.shaped at g3
          rw [Bool.and_eq_true] at g3
          exact g3.1
        have ea := SeqAt.eqAt_reads x x A.in1 s _ _ as bs r1 r2 sh sh (by show A.units + 1 + _ < cLine; omega)
        rw [g5] at ea
        show PySem.W.KeqHits A.in1 s vb ((k2, v) :: qs') (true && true)
        exact .hit hy ea (hits_go k I hu rb t2 hall (fun p m => hs p (List.mem_cons_of_mem _ m)) b t)
theorem od_neDS (hr : Rg X.A) : OpS X (compareOp .NotEq) neDS := by
  rintro pins s σ H x y v u Q I rx ry ⟨c, a, b, z, rfl, k, Da, Db, e, P⟩
  unfold neDS at e
  by_cases h : SameK c.S a b
  · rw [if_pos h] at e
    cases e
    obtain ⟨kvs, h1, h2, hall⟩ := h
    obtain ⟨p, vs, rfl, hv, t⟩ := dct_go k Da h1
    obtain ⟨p2, vs2, rfl, hv2, t2⟩ := dct_go k Db h2
    obtain rfl : v = Value.ref p := rx
    obtain rfl : u = Value.ref p2 := ry
    obtain ⟨_, ya, va, ra, da⟩ := (show ObjOk X.prog X.w c.H s.heap p (.dK vs) from I.hok p _ hv)
    obtain ⟨_, yb, vb, rb, db⟩ := (show ObjOk X.prog X.w c.H s.heap p2 (.dK vs2) from I.hok p2 _ hv2)
    have l1 : vs.length = vs2.length := by rw [t.length, t2.length]
    have hl : va.length = vb.length := by rw [← ra.length, ← rb.length]; exact l1
    have hu := hr.units
    exact PySem.W.keq_ne (knd := mixKind X.prog X.w) (r := true) ya yb da db (by omega) (fun _ => hits_go k I (by omega) rb t2 hall (fun p m => m) t ra) (fin_bl I (P.here k (.bl false)) (by simp [hl]))
  · rw [if_neg h] at e; cases e
end
end M

namespace M
open PySem PySem.Spec L2 W2 RZ
theorem FnG.imp {P : Program} {w : World} {K : PySem.W.Frag} {mg : Str → Option Value} {base : Heap} {k : Nat} {f : Addr} {fd : FuncData} {ps : List Str} {sp sp' : Sp} (F : FnG P w K mg base k f fd ps sp)
    (h : ∀ vs H Q E, sp' vs H Q E → sp vs H Q E0) : FnG P w K mg base k f fd ps sp' :=
  ⟨fun vs H Q E q => F.len vs H Q E0 (h _ _ _ _ q), fun A o s H ar us vs Q E hr he hb hv hs => codeAny_mono (F.run A o s H ar us vs Q E0 hr he hb hv (h _ _ _ _ hs)) fun r s' q => by
    match r, q with
    | .ok (.ret _), q => exact q
    | .error e, q =>
      obtain ⟨_, _, _, _, _, _, _, _, _, _, _, _, z⟩ := q
      exact (show False from z).elim⟩
/-- the promise that the law's own call rests on -/
def spEnd (K : PySem.W.Frag) : Sp := fun vs H Q _ => ∃ (a : Addr) (ns : List Int), vs = [.ref a] ∧ SqL K H a (ns.map V.int) ∧ ns.length ≤ 63 ∧ ∀ H', Q (.bl true) H'
theorem end_sp {K : PySem.W.Frag} {mg : Str → Option Value} {F : Fn} (hF : ∀ ns : List Int, ns.length ≤ 63 → ∃ S', F [.seq (ns.map .int)] [] = some (.bl true, S')) {vs : List V} {H : Hp} {Q : VK} {E : XK} (h : spEnd K vs H Q E) : spM K mg 1 F vs H Q E0 := by
  obtain ⟨a, ns, rfl, hS, hl, q⟩ := h
  obtain ⟨S', hF⟩ := hF ns hl
  have none0 : ∀ j : Nat, ¬ j < ([] : Sto).length := fun j => Nat.not_lt_zero j
  have nB : ¬ (Cfg.mk (fun _ => 0) [] (fun _ => False) H).B a := fun q => q.elim (fun ⟨j, h, _⟩ => none0 j h) id
  refine ⟨rfl, ⟨fun _ => 0, [], fun _ => False, H⟩, [.seq (ns.map .int)], .bl true, S', rfl, ⟨fun j xs h => by simp at h, fun i j h => absurd h (none0 i), fun a h => h.elim⟩, .cons (.seq (xs := ns.map V.int) ?_ ?_) .nil, hF, fun v c' l k e D1 => by cases D1; exact q _⟩
  · rcases hS with h | h
    · exact .inl ⟨nB, h⟩
    · exact .inr (.inr h)
  · clear hS hF nB hl
    induction ns with
    | nil => exact .nil
    | cons n ns ih => exact .cons (.int n) ih
theorem walk_end {l : PySem.W.OpenLaw} {k : Nat} {q : Program} {loose : List Str} {XP : (Str → Option Value) → Heap → Prop} {YP : World → Heap → Prop} {d : DefRec} {K : Params → PySem.W.Frag} {x : Str} {F : Fn}
    (hn : l.most = some 63) (hq : PyProof.Rows.importsNone q = true) (hdf : d.params.defaults = []) (hr : Room k callerA) (hY : ∀ (w : World) (h : Heap), YP w h → (K w.params).In h)
    (hF : ∀ ns : List Int, ns.length ≤ 63 → ∃ S', F [.seq (ns.map .int)] [] = some (.bl true, S'))
    (Z : ∀ (w : World) (mg : Str → Option Value) (fa : Addr) (h : Heap), (K w.params).In h → h.Ns mainGlobals mg → mg d.name = some (.ref fa) →
      ∃ fd : FuncData, (∀ (s : Shared) (u : Value), BindsTo s fd ⟨[u], []⟩ [(x, u)]) ∧ ∀ base : Heap, (K w.params).In base → base.Ns mainGlobals mg → (∃ mm, base.Ns sysModules mm) → FnG l.prog w (K w.params) mg base k fa fd [x] (spM (K w.params) mg 1 F)) :
    PySem.W.WalkO q loose XP YP l.row.toRowW d [] (fun f vs => PySem.call f vs) := by
  refine walk_G (n := 63) (k := k) (x := x) (sp := fun w => spEnd (K w.params)) hn hq (by decide) hdf hr hY (fun w mg fa h a b c => ?_) fun w H a ns hl ho hS => ⟨a, ns, rfl, hS, hl, fun _ => rfl⟩
  obtain ⟨fd, hb, G⟩ := Z w mg fa h a b c
  exact ⟨fd, hb, fun base x1 x2 x3 => FnG.imp (G base x1 x2 x3) fun vs H Q E q => end_sp hF q⟩
end M

namespace K07
open PySem L2 M
noncomputable section
/-! The mirror of the linked text: made by gen2.py -/
def m_is_integer : Fn := mDef 1
  (mRet (mAnd (mCb isR2 (mCons (mVar 0) (mCons (mC (.ty "int")) mNil))) (mNot (mCb isR2 (mCons (mVar 0) (mCons (mC (.ty "bool")) mNil))))))
def m_is_count : Fn := mDef 1
  (mRet (mAnd (mCall m_is_integer (mCons (mVar 0) mNil)) (mBin geD (mVar 0) (mC (.int 0)))))
def tblJ : Str → Option Fn := fun z =>
  if z = "is_count" then some m_is_count else
   none
def m_is_list_of : Fn := mDef 3
  (mRet (mAnd (mIsLT (mVar 0)) (mCb allD (mCons (mLcG (sQ (mVar 0)) 2 mYes (mHeld 1 tblJ (mCons (mVar 2) mNil))) mNil))))
def m_is_signs : Fn := mDef 1
  (mRet (mAnd (mCb isR2 (mCons (mVar 0) (mCons (mC (.ty "str")) mNil))) (mAnd (mMs Txt.isascii (mVar 0)) (mMs Txt.isprintable (mVar 0)))))
def m_Disk_init : Fn := mDef 1
  (mSeq (mSetF "Disk" "_files" mNewD0 (mVar 0))
  (mSeq (mSetF "Disk" "_ops" (mC (.int 0)) (mVar 0))
  (mSetF "Disk" "_power" (mC .non) (mVar 0))))
def m_Disk__use_power : Fn := mDef 1
  (mSeq (mIfS (mTv (mBin eqD (mFld "Disk" "_power" (mVar 0)) (mC (.int 0)))) mNone mSkip)
  (mSeq (mIfS (mTv (mBin isntD (mFld "Disk" "_power" (mVar 0)) (mC .non))) (mSetF "Disk" "_power" (mBin subD (mFld "Disk" "_power" (mVar 0)) (mC (.int 1))) (mVar 0)) mSkip)
  (mSetF "Disk" "_ops" (mBin addD (mFld "Disk" "_ops" (mVar 0)) (mC (.int 1))) (mVar 0))))
def m__is_file_name : Fn := mDef 2
  (mSeq (mIfS (mTor (mTnot (mTv (mCb isR2 (mCons (mVar 0) (mCons (mC (.ty "str")) mNil))))) (mTnot (mTv (mChain leD leD (mC (.int 1)) (mCb lenD (mCons (mVar 0) mNil)) (mC (.int 12)))))) (mRet (mC (.bl false))) mSkip)
  (mRet (mCb allD (mCons (mLc (sS (mVar 0)) 1 mYes (mBin inD (mVar 1) (mC (.str "abcdefghijklmnopqrstuvwxyz0123456789-")))) mNil))))
def m_Disk_write : FnR := mxDef 5
  (mxSeq (mxIf (xo (mTnot (mTv (mCall m__is_file_name (mCons (mVar 1) mNil))))) (mxRaise "InvalidName" "given" (mVar 1)) (lx mSkip))
  (mxSeq (mxIf (xo (mTor (mTnot (mTv (mCall m_is_signs (mCons (mVar 2) mNil)))) (mTv (mBin eqE (mVar 2) (mC (.str "")))))) (mxRaise "InvalidText" "given" (mVar 2)) (lx mSkip))
  (mxSeq (lx (mDrop (mMeth "Disk" "_use_power" m_Disk__use_power (mVar 0) mNil)))
  (mxSeq (lx (mAsg (mDGet2 (mFld "Disk" "_files" (mVar 0)) (mVar 1) (mTup (mCons (mC (.str "")) (mCons (mC (.int 0)) mNil)))) (gT [3, 4])))
  (lx (mAsgS (mTup (mCons (mBin addD (mVar 3) (mVar 2)) (mCons (mVar 4) mNil))) (gSD (mFld "Disk" "_files" (mVar 0)) (mVar 1))))))))
def m_Disk__found : FnR := mxDef 2
  (mxSeq (mxIf (xo (mTnot (mTv (mCall m__is_file_name (mCons (mVar 1) mNil))))) (mxRaise "InvalidName" "given" (mVar 1)) (lx mSkip))
  (mxSeq (mxIf (xo (mTv (mDNin (mVar 1) (mFld "Disk" "_files" (mVar 0))))) (mxRaise "NoFile" "name" (mVar 1)) (lx mSkip))
  (lx (mRet (mDGet (mFld "Disk" "_files" (mVar 0)) (mVar 1))))))
def m_Disk_read : FnR := mxDef 4
  (mxSeq (mxAsg (mxMeth "Disk" "_found" m_Disk__found (mVar 0) (mCons (mVar 1) mNil)) (gT [2, 3]))
  (lx (mRet (mVar 2))))
def m_Disk_names : Fn := mDef 1
  (mRet (mSortK (mFld "Disk" "_files" (mVar 0))))
def m_Disk_sync : FnR := mxDef 4
  (mxSeq (mxAsg (mxMeth "Disk" "_found" m_Disk__found (mVar 0) (mCons (mVar 1) mNil)) (gT [2, 3]))
  (mxSeq (lx (mDrop (mMeth "Disk" "_use_power" m_Disk__use_power (mVar 0) mNil)))
  (lx (mAsgS (mTup (mCons (mVar 2) (mCons (mCb lenD (mCons (mVar 2) mNil)) mNil))) (gSD (mFld "Disk" "_files" (mVar 0)) (mVar 1))))))
def m_Disk_synced : FnR := mxDef 4
  (mxSeq (mxAsg (mxMeth "Disk" "_found" m_Disk__found (mVar 0) (mCons (mVar 1) mNil)) (gT [2, 3]))
  (lx (mRet (mVar 3))))
def m_Disk_fall : FnR := mxDef 7
  (mxSeq (mxIf (xo (mTnot (mTv (mCall m_is_list_of (mCons (mVar 1) (mCons (mC (.fn "is_count")) mNil)))))) (mxRaise "InvalidKeeps" "given" (mVar 1)) (lx mSkip))
  (mxSeq (lx (mAsg mNewD0 (gN 2)))
  (mxSeq (lx (mForE (sE (mMeth "Disk" "names" m_Disk_names (mVar 0) mNil)) (gT [3, 4]) (mSeq (mAsg (mDGet (mFld "Disk" "_files" (mVar 0)) (mVar 4)) (gT [5, 6]))
  (mSeq (mIfS (mTr (mVar 1)) (mAsg (mBin addD (mVar 6) (mBin modD (mIx (mVar 1) (mBin modD (mVar 3) (mCb lenD (mCons (mVar 1) mNil)))) (mBin addD (mBin subD (mCb lenD (mCons (mVar 5) mNil)) (mVar 6)) (mC (.int 1))))) (gN 6)) mSkip)
  (mIfS (mTv (mBin gtD (mVar 6) (mC (.int 0)))) (mAsgS (mTup (mCons (mSl (mVar 5) mNoP (mP (mVar 6))) (mCons (mVar 6) mNil))) (gSD (mVar 2) (mVar 4))) mSkip)))))
  (mxSeq (lx (mSetF "Disk" "_files" (mVar 2) (mVar 0)))
  (mxSeq (lx (mSetF "Disk" "_power" (mC .non) (mVar 0)))
  (lx (mSetF "Disk" "_ops" (mBin addD (mFld "Disk" "_ops" (mVar 0)) (mC (.int 1))) (mVar 0))))))))
def m_Disk_ops : Fn := mDef 1
  (mRet (mFld "Disk" "_ops" (mVar 0)))
def m__law_cell : Fn := mDef 2
  (mRet (mIf (mTv (mBin ltD (mVar 1) (mCb lenD (mCons (mVar 0) mNil)))) (mIx (mVar 0) (mVar 1)) (mBin addD (mBin mulD (mC (.int 5003)) (mVar 1)) (mBin modD (mCb sumD (mCons (mSl (mVar 0) mNoP (mP (mC (.int 1)))) mNil)) (mC (.int 1000081))))))
def m__law_box : Fn := mDef 1
  (mRet (mNew (mCons (mCb absD (mCons (mVar 0) mNil)) (mCons (mBin geD (mCb absD (mCons (mVar 0) mNil)) (mBin powD (mC (.int 10)) (mC (.int 18)))) (mCons (mBin modD (mCb intD (mCons (mCb absD (mCons (mVar 0) mNil)) mNil)) (mC (.int 2147483629))) (mCons (mC (.int 0)) mNil))))))
def m__law_take : Fn := mDef 4
  (mSeq (mIfS (mTand (mTv (mIx (mVar 0) (mC (.int 1)))) (mTv (mBin gtD (mIx (mVar 0) (mC (.int 0))) (mC (.int 0))))) (mSeq (mAsg (mBin modD (mCb intD (mCons (mIx (mVar 0) (mC (.int 0))) mNil)) (mVar 1)) (gN 3))
  (mSeq (mSetI (mBin fdvD (mIx (mVar 0) (mC (.int 0))) (mVar 1)) (mVar 0) (mC (.int 0)))
  (mRet (mVar 3)))) mSkip)
  (mSeq (mSetI (mBin addD (mIx (mVar 0) (mC (.int 3))) (mC (.int 1))) (mVar 0) (mC (.int 3)))
  (mSeq (mAsg (mBin modD (mCb intD (mCons (mBin powD (mBin addD (mBin addD (mIx (mVar 0) (mC (.int 2))) (mBin mulD (mC (.int 15485927)) (mIx (mVar 0) (mC (.int 3))))) (mC (.int 179424691))) (mC (.int 5))) mNil)) (mC (.int 2147483647))) (gN 2))
  (mRet (mBin modD (mBin fdvD (mBin modD (mCb intD (mCons (mBin powD (mBin addD (mBin mulD (mVar 2) (mC (.int 48271))) (mBin mulD (mC (.int 104723)) (mIx (mVar 0) (mC (.int 3))))) (mC (.int 3))) mNil)) (mC (.int 2147483587))) (mC (.int 64))) (mVar 1))))))
def m__law_pool : Fn := mDef 0
  (mRet (mLst (mCons (mC (.str "b")) (mCons (mC (.str "abc")) (mCons (mC (.str "ab")) (mCons (mC (.str "a-")) (mCons (mC (.str "10")) (mCons (mC (.str "9")) (mCons (mC (.str "-")) (mCons (mC (.str "log-0010")) (mCons (mC (.str "a0")) mNil)))))))))))
def t__law_filled_0 : StF :=
  (mAsgS (mLst (mCons (mIx (mDGet (mVar 2) (mVar 5)) (mC (.int 0))) (mCons (mCb lenD (mCons (mIx (mDGet (mVar 2) (mVar 5)) (mC (.int 0))) mNil)) mNil))) (gSD (mVar 2) (mVar 5)))
def t__law_filled_1 : StF :=
  (mSeq (mDrop (mMeth "Disk" "sync" (okF m_Disk_sync) (mVar 1) (mCons (mVar 5) mNil)))
  t__law_filled_0)
def t__law_filled_2 : StF :=
  (mSeq (mAsg (mIx (mVar 6) (mCall m__law_take (mCons (mVar 0) (mCons (mCb lenD (mCons (mVar 6) mNil)) mNil)))) (gN 5))
  t__law_filled_1)
def t__law_filled_3 : StF :=
  (mAsgS (mLst (mCons (mBin addD (mIx (mVar 8) (mC (.int 0))) (mVar 7)) (mCons (mIx (mVar 8) (mC (.int 1))) mNil))) (gSD (mVar 2) (mVar 5)))
def t__law_filled_4 : StF :=
  (mSeq (mAsg (mDGet2 (mVar 2) (mVar 5) (mLst (mCons (mC (.str "")) (mCons (mC (.int 0)) mNil)))) (gN 8))
  t__law_filled_3)
def t__law_filled_5 : StF :=
  (mSeq (mDrop (mMeth "Disk" "write" (okF m_Disk_write) (mVar 1) (mCons (mVar 5) (mCons (mVar 7) mNil))))
  t__law_filled_4)
def t__law_filled_6 : StF :=
  (mSeq (mAsg (mM1 joinD (mC (.str "")) (mLc (sR (mCons (mBin addD (mC (.int 1)) (mCall m__law_take (mCons (mVar 0) (mCons (mC (.int 9)) mNil)))) mNil)) 9 mYes (mIx (mC (.str "xyz;0 ")) (mCall m__law_take (mCons (mVar 0) (mCons (mC (.int 6)) mNil)))))) (gN 7))
  t__law_filled_5)
def t__law_filled_7 : StF :=
  (mSetI (mBin addD (mIx (mVar 3) (mC (.int 0))) (mC (.int 1))) (mVar 3) (mC (.int 0)))
def t__law_filled_8 : StF :=
  (mSeq (mIfS (mTand (mTv (mBin ltD (mCall m__law_take (mCons (mVar 0) (mCons (mC (.int 10)) mNil))) (mC (.int 3)))) (mTv (mBin neD (mVar 6) (mLst mNil)))) t__law_filled_2 t__law_filled_6)
  t__law_filled_7)
def t__law_filled_9 : StF :=
  (mSeq (mPar [5, 6] (mCons (mIx (mCall m__law_pool mNil) (mCall m__law_take (mCons (mVar 0) (mCons (mC (.int 9)) mNil)))) (mCons (mCb sortD (mCons (mListKI (mVar 2)) mNil)) mNil)))
  t__law_filled_8)
def t__law_filled_10 : StF :=
  (mFor (sR (mCons (mC (.int 9)) mNil)) (gN 4) t__law_filled_9)
def m__law_filled : Fn := mDef 10
  t__law_filled_10
def m__law_keeps : Fn := mDef 6
  (mSeq (mAsg (mIx (mLst (mCons (mC (.int 0)) (mCons (mC (.int 1)) (mCons (mC (.int 2)) (mCons (mC (.int 3)) (mCons (mC (.int 4)) (mCons (mC (.int 9)) (mCons (mC (.int 12)) mNil)))))))) (mCall m__law_take (mCons (mVar 0) (mCons (mC (.int 7)) mNil)))) (gN 1))
  (mSeq (mAsg (mNew mNil) (gN 2))
  (mSeq (mFor (sR (mCons (mVar 1) mNil)) (gN 3) (mSeq (mPar [4, 5] (mCons (mIx (mLst (mCons (mC (.int 0)) (mCons (mC (.int 0)) (mCons (mC (.int 1)) (mCons (mC (.int 2)) (mCons (mC (.int 3)) (mCons (mC (.int 5)) (mCons (mC (.int 7)) (mCons (mC (.int 11)) (mCons (mC (.int 20)) mNil)))))))))) (mCall m__law_take (mCons (mVar 0) (mCons (mC (.int 9)) mNil)))) (mCons (mBin eqD (mCall m__law_take (mCons (mVar 0) (mCons (mC (.int 8)) mNil))) (mC (.int 0))) mNil)))
  (mDrop (mApp (mVar 2) (mIf (mTv (mVar 5)) (mBin subD (mBin subD (mBin powD (mC (.int 10)) (mC (.int 15))) (mC (.int 1))) (mVar 4)) (mVar 4))))))
  (mRet (mVar 2)))))
def m__law_no_keeps : Fn := mDef 4
  (mSeq (mIfS (mTv (mBin eqD (mCall m__law_take (mCons (mVar 0) (mCons (mC (.int 3)) mNil))) (mC (.int 0)))) (mRet (mIx (mLst (mCons (mC .non) (mCons (mC (.int 5)) (mCons (mC (.str "12")) (mCons (mC (.bl true)) (mCons (mCb dictK (mCons (mLst (mCons (mTup (mCons (mC (.int 0)) (mCons (mC (.int 1)) mNil))) mNil)) mNil)) (mCons (mC (.str "")) (mCons (mC (.int 0)) mNil)))))))) (mCall m__law_take (mCons (mVar 0) (mCons (mC (.int 7)) mNil))))) mSkip)
  (mSeq (mAsg (mCall m__law_keeps (mCons (mVar 0) mNil)) (gN 1))
  (mSeq (mAsg (mCall m__law_take (mCons (mVar 0) (mCons (mBin addD (mCb lenD (mCons (mVar 1) mNil)) (mC (.int 1))) mNil))) (gN 2))
  (mSeq (mAsg (mIx (mLst (mCons (mNeg (mC (.int 1))) (mCons (mC (.bl true)) (mCons (mC .non) (mCons (mC (.str "2")) (mCons (mTup (mCons (mC (.int 1)) mNil)) (mCons (mLst (mCons (mC (.int 0)) mNil)) (mCons (mC (.bl false)) (mCons (mNeg (mC (.int 7))) mNil))))))))) (mCall m__law_take (mCons (mVar 0) (mCons (mC (.int 8)) mNil)))) (gN 3))
  (mSeq (mAsg (mAddN (mBin addD (mSlR (mVar 1) mNoP (mP (mVar 2))) (mLst (mCons (mVar 3) mNil))) (mSlR (mVar 1) (mP (mBin addD (mVar 2) (mCall m__law_take (mCons (mVar 0) (mCons (mC (.int 2)) mNil))))) mNoP)) (gN 1))
  (mRet (mIf (mTv (mBin eqD (mCall m__law_take (mCons (mVar 0) (mCons (mC (.int 4)) mNil))) (mC (.int 0)))) (mCb tupS (mCons (mVar 1) mNil)) (mVar 1))))))))
def m__law_fallen : Fn := mDef 7
  (mSeq (mPar [3, 4] (mCons (mDictN (mCons (mLst mNil) mNil)) (mCons (mCb sortD (mCons (mListKI (mVar 0)) mNil)) mNil)))
  (mSeq (mFor (sR (mCons (mCb lenD (mCons (mVar 4) mNil)) mNil)) (gN 2) (mSeq (mAsg (mDGet (mVar 0) (mIx (mVar 4) (mVar 2))) (gL [5, 6]))
  (mSeq (mIfS (mTv (mBin gtD (mCb lenD (mCons (mVar 1) mNil)) (mC (.int 0)))) (mAsg (mBin addD (mVar 6) (mBin modD (mCb intD (mCons (mIx (mVar 1) (mBin modD (mCb intD (mCons (mVar 2) mNil)) (mCb lenD (mCons (mVar 1) mNil)))) mNil)) (mBin addD (mBin subD (mCb lenD (mCons (mVar 5) mNil)) (mVar 6)) (mC (.int 1))))) (gN 6)) mSkip)
  (mIfS (mTv (mBin gtD (mVar 6) (mC (.int 0)))) (mAsgS (mLst (mCons (mSl (mVar 5) mNoP (mP (mVar 6))) (mCons (mVar 6) mNil))) (gSD (mVar 3) (mIx (mVar 4) (mVar 2)))) mSkip))))
  (mRet (mVar 3))))
def m__law_told : Fn := mDef 4
  (quS (mxTry (mxRet (mxLst (mxCons (xo (mC (.str "told"))) (mxCons (mxIfE (mTv (mBin eqD (mVar 1) (mC (.int 0)))) (mxMeth "Disk" "fall" m_Disk_fall (mVar 0) (mCons (mVar 2) mNil)) (mxMethK "Disk" "fall" m_Disk_fall (mVar 0) (mVar 2))) (xo mNil))))) [⟨sbSelf "InvalidKeeps", some 3, (mRet (mLst (mCons (mC (.str "keeps")) (mCons (mAttr ["InvalidKeeps"] "given" (mVar 3)) mNil))))⟩]))
def m__law_refused : Fn := mDef 4
  (mSeq (mAsg (mCall m__law_told (mCons (mVar 0) (mCons (mVar 1) (mCons (mVar 2) mNil)))) (gN 3))
  (mSeq (mIfS (mTv (mBin neD (mCb reprS (mCons (mVar 3) mNil)) (mCb reprS (mCons (mLst (mCons (mC (.str "keeps")) (mCons (mVar 2) mNil))) mNil)))) (mRet (mC (.bl false))) mSkip)
  (mSeq (mIfS (mTv (mCb isR2 (mCons (mVar 2) (mCons (mC (.ty "list")) mNil)))) (mDrop (mApp (mVar 2) (mC (.str "more")))) mSkip)
  (mRet (mBin eqD (mCb reprS (mCons (mVar 3) mNil)) (mCb reprS (mCons (mLst (mCons (mC (.str "keeps")) (mCons (mVar 2) mNil))) mNil)))))))
def m__law_is_gone : Fn := mDef 3
  (quS (mxTry (mxSeq (mxDrop (mxMeth "Disk" "read" m_Disk_read (mVar 0) (mCons (mVar 1) mNil)))
  (lx (mRet (mC (.bl false))))) [⟨sbSelf "NoFile", some 2, (mRet (mBin eqD (mAttr ["NoFile"] "name" (mVar 2)) (mVar 1)))⟩]))
def t__law_alike_0 : StF :=
  (mRet (mC (.bl false)))
def t__law_alike_1 : StF :=
  (mRet (mC (.bl false)))
def t__law_alike_2 : StF :=
  (mRet (mC (.bl false)))
def t__law_alike_3 : StF :=
  (mIfS (mTand (mTv (mDIn (mVar 3) (mVar 1))) (mTv (mBin neD (mCb reprS (mCons (mLst (mCons (mMeth "Disk" "read" (okF m_Disk_read) (mVar 0) (mCons (mVar 3) mNil)) (mCons (mMeth "Disk" "synced" (okF m_Disk_synced) (mVar 0) (mCons (mVar 3) mNil)) mNil))) mNil)) (mCb reprS (mCons (mDGet (mVar 1) (mVar 3)) mNil))))) t__law_alike_2 mSkip)
def t__law_alike_4 : StF :=
  (mSeq (mIfS (mTand (mTv (mDNin (mVar 3) (mVar 1))) (mTnot (mTv (mCall m__law_is_gone (mCons (mVar 0) (mCons (mVar 3) mNil)))))) t__law_alike_1 mSkip)
  t__law_alike_3)
def t__law_alike_5 : StF :=
  (mRet (mC (.bl true)))
def t__law_alike_6 : StF :=
  (mSeq (mFor (sL (mCall m__law_pool mNil)) (gN 3) t__law_alike_4)
  t__law_alike_5)
def t__law_alike_7 : StF :=
  (mSeq (mIfS (mTor (mTv (mBinS neS (mMeth "Disk" "names" m_Disk_names (mVar 0) mNil) (mCb sortD (mCons (mListKI (mVar 1)) mNil)))) (mTv (mBin neD (mCb reprS (mCons (mMeth "Disk" "ops" m_Disk_ops (mVar 0) mNil) mNil)) (mCb reprS (mCons (mIx (mVar 2) (mC (.int 0))) mNil))))) t__law_alike_0 mSkip)
  t__law_alike_6)
def m__law_alike : Fn := mDef 4
  t__law_alike_7
def t__law_fall_right_0 : StF :=
  (mRet (mC .non))
def t__law_fall_right_1 : StF :=
  (mRet (mC .non))
def t__law_fall_right_2 : StF :=
  (mRet (mC .non))
def t__law_fall_right_3 : StF :=
  (mIfS (mTv (mBin gtD (mVar 9) (mC (.int 0)))) t__law_fall_right_2 mSkip)
def t__law_fall_right_4 : StF :=
  (mRet (mC .non))
def t__law_fall_right_5 : StF :=
  (mIfS (mTor (mTnot (mTv (mSw (mVar 8) (mVar 10)))) (mTor (mTv (mBin ltD (mCb lenD (mCons (mVar 10) mNil)) (mVar 9))) (mTv (mBin neD (mMeth "Disk" "synced" (okF m_Disk_synced) (mVar 1) (mCons (mVar 7) mNil)) (mCb lenD (mCons (mVar 10) mNil)))))) t__law_fall_right_4 mSkip)
def t__law_fall_right_6 : StF :=
  (mSeq (mAsg (mMeth "Disk" "read" (okF m_Disk_read) (mVar 1) (mCons (mVar 7) mNil)) (gN 10))
  t__law_fall_right_5)
def t__law_fall_right_7 : StF :=
  (mIfS (mTv (mBinS ninQS (mVar 7) (mMeth "Disk" "names" m_Disk_names (mVar 1) mNil))) t__law_fall_right_3 t__law_fall_right_6)
def t__law_fall_right_8 : StF :=
  (mSeq (mAsg (mDGet (mVar 2) (mVar 7)) (gL [8, 9]))
  t__law_fall_right_7)
def t__law_fall_right_9 : StF :=
  (mRet (mVar 6))
def t__law_fall_right_10 : StF :=
  (mSeq (mFor (sL (mCb sortD (mCons (mListKI (mVar 2)) mNil))) (gN 7) t__law_fall_right_8)
  t__law_fall_right_9)
def t__law_fall_right_11 : StF :=
  (mSeq (mIfS (mTnot (mTv (mCall m__law_alike (mCons (mVar 1) (mCons (mVar 6) (mCons (mVar 3) mNil)))))) t__law_fall_right_1 mSkip)
  t__law_fall_right_10)
def t__law_fall_right_12 : StF :=
  (mSeq (mIfS (mTor (mTv (mBin neD (mCall m__law_told (mCons (mVar 1) (mCons (mCall m__law_take (mCons (mVar 0) (mCons (mC (.int 2)) mNil))) (mCons (mVar 5) mNil)))) (mLst (mCons (mC (.str "told")) (mCons (mC .non) mNil))))) (mTv (mBinS neS (mCb listS (mCons (mVar 5) mNil)) (mVar 4)))) t__law_fall_right_0 mSkip)
  t__law_fall_right_11)
def t__law_fall_right_13 : StF :=
  (mSeq (mSetI (mBin addD (mIx (mVar 3) (mC (.int 0))) (mC (.int 1))) (mVar 3) (mC (.int 0)))
  t__law_fall_right_12)
def t__law_fall_right_14 : StF :=
  (mSeq (mAsg (mCall m__law_fallen (mCons (mVar 2) (mCons (mVar 4) mNil))) (gN 6))
  t__law_fall_right_13)
def t__law_fall_right_15 : StF :=
  (mSeq (mAsg (mIf (mTv (mBin eqD (mCall m__law_take (mCons (mVar 0) (mCons (mC (.int 3)) mNil))) (mC (.int 0)))) (mCb tupS (mCons (mVar 4) mNil)) (mCb listS (mCons (mVar 4) mNil))) (gN 5))
  t__law_fall_right_14)
def m__law_fall_right : Fn := mDef 11
  t__law_fall_right_15
def t_law_0 : StF :=
  (mRet (mC (.bl false)))
def t_law_1 : StF :=
  (mRet (mC (.bl false)))
def t_law_2 : StF :=
  (mRet (mC (.bl false)))
def t_law_3 : StF :=
  (mRet (mC (.bl false)))
def t_law_4 : StF :=
  (mAsg (mVar 7) (gN 5))
def t_law_5 : StF :=
  (mSeq (mIfS (mTor (mTv (mBin isD (mVar 8) (mC .non))) (mTv (mBinS neDS (mVar 8) (mVar 7)))) t_law_3 mSkip)
  t_law_4)
def t_law_6 : StF :=
  (mSeq (mAsg (mCall m__law_fall_right (mCons (mVar 2) (mCons (mVar 4) (mCons (mVar 7) (mCons (mVar 6) (mCons (mCall m__law_keeps (mCons (mVar 2) mNil)) mNil)))))) (gN 8))
  t_law_5)
def t_law_7 : StF :=
  (mSeq (mIfS (mTv (mBin isD (mVar 7) (mC .non))) t_law_2 mSkip)
  t_law_6)
def t_law_8 : StF :=
  (mSeq (mAsg (mCall m__law_fall_right (mCons (mVar 2) (mCons (mVar 4) (mCons (mVar 5) (mCons (mVar 6) (mCons (mCall m__law_keeps (mCons (mVar 2) mNil)) mNil)))))) (gN 7))
  t_law_7)
def t_law_9 : StF :=
  (mSeq (mIfS (mTnot (mTv (mCall m__law_alike (mCons (mVar 4) (mCons (mVar 5) (mCons (mVar 6) mNil)))))) t_law_1 mSkip)
  t_law_8)
def t_law_10 : StF :=
  (mSeq (mIfS (mTnot (mTv (mCall m__law_refused (mCons (mVar 4) (mCons (mCall m__law_take (mCons (mVar 2) (mCons (mC (.int 2)) mNil))) (mCons (mCall m__law_no_keeps (mCons (mVar 2) mNil)) mNil)))))) t_law_0 mSkip)
  t_law_9)
def t_law_11 : StF :=
  (mSeq (mDrop (mCall m__law_filled (mCons (mVar 2) (mCons (mVar 4) (mCons (mVar 5) (mCons (mVar 6) mNil))))))
  t_law_10)
def t_law_12 : StF :=
  (mFor (sR (mCons (mC (.int 4)) mNil)) (gN 3) t_law_11)
def t_law_13 : StF :=
  (mSeq (mPar [4, 5, 6] (mCons (mMk "Disk" m_Disk_init mNil) (mCons (mDictN (mCons (mLst mNil) mNil)) (mCons (mNew (mCons (mC (.int 0)) mNil)) mNil))))
  t_law_12)
def t_law_14 : StF :=
  (mSeq (mAsg (mCall m__law_box (mCons (mCall m__law_cell (mCons (mVar 0) (mCons (mVar 1) mNil))) mNil)) (gN 2))
  t_law_13)
def t_law_15 : StF :=
  (mRet (mC (.bl true)))
def t_law_16 : StF :=
  (mSeq (mFor (sR (mCons (mCb max2D (mCons (mC (.int 2)) (mCons (mCb min2D (mCons (mC (.int 4)) (mCons (mCb lenD (mCons (mVar 0) mNil)) mNil))) mNil))) mNil)) (gN 1) t_law_14)
  t_law_15)
def m_law : Fn := mDef 9
  t_law_16
end
end K07

namespace K07
open PySem L2 W2 RZ M
def top (i : Nat) : Stmt := PySem.Challenge.pw_inorderonce_k07_falls_keep_beginnings.main.body.getD i (.Pass ⟨0, 0, 0, 0⟩)
def item (i j : Nat) : Stmt := match top i with
  | .ClassDef _ _ _ b _ _ _ _ _ _ _ => b.getD j (.Pass ⟨0, 0, 0, 0⟩)
  | s => s
structure Txt (w : World) (K : PySem.W.Frag) (mg : Str → Option Value) : Prop where
  n_abs : mg "abs" = none
  n_all : mg "all" = none
  n_bool : mg "bool" = none
  n_dict : mg "dict" = none
  n_enumerate : mg "enumerate" = none
  n_int : mg "int" = none
  n_isinstance : mg "isinstance" = none
  n_len : mg "len" = none
  n_list : mg "list" = none
  n_max : mg "max" = none
  n_min : mg "min" = none
  n_range : mg "range" = none
  n_repr : mg "repr" = none
  n_sorted : mg "sorted" = none
  n_str : mg "str" = none
  n_sum : mg "sum" = none
  n_tuple : mg "tuple" = none
  c_MOST_OF_NAME : ∃ t, mg "MOST_OF_NAME" = some (.int 12 t)
  c_SIGNS_OF_NAME : ∃ t, mg "SIGNS_OF_NAME" = some (.str "abcdefghijklmnopqrstuvwxyz0123456789-" t)
  e_InvalidName : ∃ C, ErF K mg "InvalidName" "given" C
  e_InvalidText : ∃ C, ErF K mg "InvalidText" "given" C
  e_NoFile : ∃ C, ErF K mg "NoFile" "name" C
  e_InvalidKeeps : ∃ C, ErF K mg "InvalidKeeps" "given" C
  f_Disk__files : ClF K mg "Disk" "_files"
  f_Disk__ops : ClF K mg "Disk" "_ops"
  f_Disk__power : ClF K mg "Disk" "_power"
section
variable {P : Program} {w : World} {K : PySem.W.Frag} {mg : Str → Option Value} {base : Heap}
abbrev s_is_integer : Stmt := top 9
abbrev n_is_integer : List Str := ["value"]
theorem sc_is_integer : FnScope n_is_integer ["value"] (defScope s_is_integer) := ⟨rfl, rfl, rfl, by decide +kernel, rfl, by decide +kernel, by decide +kernel⟩
theorem ok_is_integer {f : Addr} {fd : FuncData} (T : Txt w K mg) (Z : Fun K "is_integer" "is_integer" s_is_integer f fd) : FnG P w K mg base 1 f fd ["value"] (spM K mg 1 m_is_integer) := by
  exact def_ok Z sc_is_integer fun c A o s H E hr =>
  (mss_one (ms_ret (me_and (me_cb (pe_callB cd_isS (by rfl) T.n_isinstance (by decide +kernel) (ma_cons (me_var 0) (ma_cons (me_ty "int" (by rfl) T.n_int (by decide +kernel)) ma_nil)))) (me_one (me_not (me_cb (pe_callB cd_isS (by rfl) T.n_isinstance (by decide +kernel) (ma_cons (me_var 0) (ma_cons (me_ty "bool" (by rfl) T.n_bool (by decide +kernel)) ma_nil)))))))))
abbrev s_is_count : Stmt := top 10
abbrev n_is_count : List Str := ["value"]
theorem sc_is_count : FnScope n_is_count ["value"] (defScope s_is_count) := ⟨rfl, rfl, rfl, by decide +kernel, rfl, by decide +kernel, by decide +kernel⟩
theorem ok_is_count {f : Addr} {fd : FuncData} (T : Txt w K mg) (Z : Fun K "is_count" "is_count" s_is_count f fd) (C_is_integer : Cal P w K mg base 1 "is_integer" 1 m_is_integer) : FnG P w K mg base 2 f fd ["value"] (spM K mg 1 m_is_count) := by
  exact def_ok Z sc_is_count fun c A o s H E hr =>
  (mss_one (ms_ret (me_and (me_call C_is_integer (hr.mono (by decide)) (by rfl) (ma_cons (me_var 0) ma_nil) (mcons_len mnil_len)) (me_one (me_cmp od_ge (me_var 0) me_int (nomark _))))))
abbrev s_is_list_of : Stmt := top 11
abbrev n_is_list_of : List Str := ["value", "judge", "part"]
theorem sc_is_list_of : FnScope n_is_list_of ["value", "judge"] (defScope s_is_list_of) := ⟨rfl, rfl, rfl, by decide +kernel, rfl, by decide +kernel, by decide +kernel⟩
theorem ok_is_list_of {f : Addr} {fd : FuncData} (T : Txt w K mg) (Z : Fun K "is_list_of" "is_list_of" s_is_list_of f fd) (C_tblJ : ∀ z F, tblJ z = some F → Cal P w K mg base 2 z 1 F) : FnG P w K mg base 3 f fd ["value", "judge"] (spM K mg 2 m_is_list_of) := by
  exact def_ok Z sc_is_list_of fun c A o s H E hr =>
  (mss_one (ms_ret (me_and (me_isLT (by rfl) T.n_isinstance (by rfl) T.n_list (by rfl) T.n_tuple (me_var 0)) (me_one (me_cb (pe_callB (cd_all rfl) (by rfl) T.n_all (by decide +kernel) (ma_cons (me_lcG (pe_lc (own := [("part", 2)]) rfl sc_is_list_of.nd (mi_sq (pi_sq (me_var 0))) (blkOk_by (N := n_is_list_of) (sc := defScope s_is_list_of) (by decide +kernel)) (fun _ _ _ _ _ => pg_name (i := 2) sc_is_list_of.nd rfl (Or.inl rfl)) (fun _ _ _ _ _ => mts_nil) (fun _ _ _ _ _ => (me_held (tbl := tblJ) C_tblJ (hr.mono (by decide)) rfl (by first | exact Or.inl rfl | exact Or.inr (Or.inl rfl) | exact Or.inr (Or.inr rfl)) (ma_cons (me_var 2) ma_nil) (mcons_len mnil_len))))) ma_nil)))))))
abbrev s_is_signs : Stmt := top 13
abbrev n_is_signs : List Str := ["value"]
theorem sc_is_signs : FnScope n_is_signs ["value"] (defScope s_is_signs) := ⟨rfl, rfl, rfl, by decide +kernel, rfl, by decide +kernel, by decide +kernel⟩
theorem ok_is_signs {f : Addr} {fd : FuncData} (T : Txt w K mg) (Z : Fun K "is_signs" "is_signs" s_is_signs f fd) : FnG P w K mg base 1 f fd ["value"] (spM K mg 1 m_is_signs) := by
  exact def_ok Z sc_is_signs fun c A o s H E hr =>
  (mss_one (ms_ret (me_and (me_cb (pe_callB cd_isS (by rfl) T.n_isinstance (by decide +kernel) (ma_cons (me_var 0) (ma_cons (me_ty "str" (by rfl) T.n_str (by decide +kernel)) ma_nil)))) (me_and (me_ms (pe_bm0 PySem.F.plainAttrs_str PySem.F.slot_str_isascii PySem.F.type_str_isascii mt_isascii (me_var 0))) (me_one (me_ms (pe_bm0 PySem.F.plainAttrs_str PySem.F.slot_str_isprintable PySem.F.type_str_isprintable mt_isprintable (me_var 0))))))))
abbrev s_Disk_init : Stmt := item 17 0
abbrev n_Disk_init : List Str := ["self"]
theorem sc_Disk_init : FnScope n_Disk_init ["self"] (defScope s_Disk_init) := ⟨rfl, rfl, rfl, by decide +kernel, rfl, by decide +kernel, by decide +kernel⟩
theorem ok_Disk_init {f : Addr} {fd : FuncData} (T : Txt w K mg) (Z : Fun K "__init__" "Disk.__init__" s_Disk_init f fd) : FnG P w K mg base 1 f fd ["self"] (spM K mg 1 m_Disk_init) := by
  exact def_ok Z sc_Disk_init fun c A o s H E hr =>
  (mss_cons (ms_setF T.f_Disk__files (me_var 0) me_newD0)
  (mss_cons (ms_setF T.f_Disk__ops (me_var 0) me_int)
  (mss_one (ms_setF T.f_Disk__power (me_var 0) me_non))))
abbrev s_Disk__use_power : Stmt := item 17 13
abbrev n_Disk__use_power : List Str := ["self"]
theorem sc_Disk__use_power : FnScope n_Disk__use_power ["self"] (defScope s_Disk__use_power) := ⟨rfl, rfl, rfl, by decide +kernel, rfl, by decide +kernel, by decide +kernel⟩
theorem ok_Disk__use_power {f : Addr} {fd : FuncData} (T : Txt w K mg) (Z : Fun K "_use_power" "Disk._use_power" s_Disk__use_power f fd) : FnG P w K mg base 1 f fd ["self"] (spM K mg 1 m_Disk__use_power) := by
  exact def_ok Z sc_Disk__use_power fun c A o s H E hr =>
  (mss_cons (ms_if (mt_cmp (od_eq hr.rg) (me_fld T.f_Disk__power (me_var 0)) me_int (nomark _)) (mss_one ms_none) mss_nil)
  (mss_cons (ms_if (mt_cmp od_isnt (me_fld T.f_Disk__power (me_var 0)) me_non (nomark _)) (mss_one (ms_setF T.f_Disk__power (me_var 0) (me_bin od_sub (me_fld T.f_Disk__power (me_var 0)) me_int))) mss_nil)
  (mss_one (ms_setF T.f_Disk__ops (me_var 0) (me_bin od_add (me_fld T.f_Disk__ops (me_var 0)) me_int)))))
abbrev s__is_file_name : Stmt := top 18
abbrev n__is_file_name : List Str := ["value", "sign"]
theorem sc__is_file_name : FnScope n__is_file_name ["value"] (defScope s__is_file_name) := ⟨rfl, rfl, rfl, by decide +kernel, rfl, by decide +kernel, by decide +kernel⟩
theorem ok__is_file_name {f : Addr} {fd : FuncData} (T : Txt w K mg) (Z : Fun K "_is_file_name" "_is_file_name" s__is_file_name f fd) : FnG P w K mg base 1 f fd ["value"] (spM K mg 1 m__is_file_name) := by
  obtain ⟨t_MOST_OF_NAME, h_MOST_OF_NAME⟩ := T.c_MOST_OF_NAME
  obtain ⟨t_SIGNS_OF_NAME, h_SIGNS_OF_NAME⟩ := T.c_SIGNS_OF_NAME
  exact def_ok Z sc__is_file_name fun c A o s H E hr =>
  (mss_cons (ms_if (mt_w (mw_or (mt_not (mt_val (me_cb (pe_callB cd_isS (by rfl) T.n_isinstance (by decide +kernel) (ma_cons (me_var 0) (ma_cons (me_ty "str" (by rfl) T.n_str (by decide +kernel)) ma_nil)))))) (mw_or1 (mt_not (mt_chain od_le od_le me_int (me_cb (pe_callB cd_len (by rfl) T.n_len (by decide +kernel) (ma_cons (me_var 0) ma_nil))) (me_gint (by rfl) h_MOST_OF_NAME)))))) (mss_one (ms_ret me_bl)) mss_nil)
  (mss_one (ms_ret (me_cb (pe_callB (cd_all rfl) (by rfl) T.n_all (by decide +kernel) (ma_cons (me_lc (pe_lc (own := [("sign", 1)]) rfl sc__is_file_name.nd (mi_str (pi_str (me_var 0))) (blkOk_by (N := n__is_file_name) (sc := defScope s__is_file_name) (by decide +kernel)) (fun _ _ _ _ _ => pg_name (i := 1) sc__is_file_name.nd rfl (Or.inl rfl)) (fun _ _ _ _ _ => mts_nil) (fun _ _ _ _ _ => (me_cmp od_in (me_var 1) (me_gstr (by rfl) h_SIGNS_OF_NAME) (by rfl))))) ma_nil))))))
abbrev s_Disk_write : Stmt := item 17 2
abbrev n_Disk_write : List Str := ["self", "name", "text", "held", "signs"]
theorem sc_Disk_write : FnScope n_Disk_write ["self", "name", "text"] (defScope s_Disk_write) := ⟨rfl, rfl, rfl, by decide +kernel, rfl, by decide +kernel, by decide +kernel⟩
theorem ok_Disk_write {f : Addr} {fd : FuncData} (T : Txt w K mg) (Z : Fun K "write" "Disk.write" s_Disk_write f fd) (C__is_file_name : Cal P w K mg base 1 "_is_file_name" 1 m__is_file_name) (C_is_signs : Cal P w K mg base 1 "is_signs" 1 m_is_signs) (C_Disk__use_power : CalG P w K mg base 1 "Disk" "_use_power" 1 m_Disk__use_power) (E_InvalidName : Er1 P w K mg base "InvalidName" "given") (E_InvalidText : Er1 P w K mg base "InvalidText" "given") : FnX P w K mg base 3 f fd ["self", "name", "text"] (spX K mg 3 m_Disk_write) := by
  exact defX_ok Z sc_Disk_write fun c A o s H E hr =>
  (mxs_cons (mx_if (mtx_of (mt_not (mt_val (me_call C__is_file_name (hr.mono (by decide)) (by rfl) (ma_cons (me_var 1) ma_nil) (mcons_len mnil_len))))) (mxs_one (mx_raise rfl (takes_of rfl rfl rfl rfl) E_InvalidName (hr.mono (by decide)) (by rfl) (me_var 1))) mxs_nil)
  (mxs_cons (mx_if (mtx_of (mt_w (mw_or (mt_not (mt_val (me_call C_is_signs (hr.mono (by decide)) (by rfl) (ma_cons (me_var 2) ma_nil) (mcons_len mnil_len)))) (mw_or1 (mt_cmp (od_eqE hr.rg) (me_var 2) me_str (nomark _)))))) (mxs_one (mx_raise rfl (takes_of rfl rfl rfl rfl) E_InvalidText (hr.mono (by decide)) (by rfl) (me_var 2))) mxs_nil)
  (mxs_cons (mx_of (ms_drop (ps_expr (me_meth0 C_Disk__use_power (hr.mono (by decide)) (me_var 0)))))
  (mxs_cons (mx_of (ms_asg (ps_asg (me_dget2 (pe_dget2 hr.rg.u1 (me_fld T.f_Disk__files (me_var 0)) (me_var 1) (me_tup (ma_cons me_str (ma_cons me_int ma_nil))) ⟨by rfl, by rfl, by rfl, by rfl⟩)) (mg_tup rfl (gs_cons (i := 3) (pgs_cons (pg_name (i := 3) sc_Disk_write.nd rfl (Or.inl rfl)) (gs_cons (i := 4) (pgs_cons (pg_name (i := 4) sc_Disk_write.nd rfl (Or.inl rfl)) gs_nil)))) (pg_tup rfl (gs_cons (i := 3) (pgs_cons (pg_name (i := 3) sc_Disk_write.nd rfl (Or.inl rfl)) (gs_cons (i := 4) (pgs_cons (pg_name (i := 4) sc_Disk_write.nd rfl (Or.inl rfl)) gs_nil)))))))))
  (mxs_one (mx_of (ms_asgS (ps_asg (me_tup (ma_cons (me_bin od_add (me_var 3) (me_var 2)) (ma_cons (me_var 4) ma_nil))) (mgs_sub (pg_sub (me_fld T.f_Disk__files (me_var 0)) (me_var 1) (set_dict hr.rg.u1)))))))))))
abbrev s_Disk__found : Stmt := item 17 12
abbrev n_Disk__found : List Str := ["self", "name"]
theorem sc_Disk__found : FnScope n_Disk__found ["self", "name"] (defScope s_Disk__found) := ⟨rfl, rfl, rfl, by decide +kernel, rfl, by decide +kernel, by decide +kernel⟩
theorem ok_Disk__found {f : Addr} {fd : FuncData} (T : Txt w K mg) (Z : Fun K "_found" "Disk._found" s_Disk__found f fd) (C__is_file_name : Cal P w K mg base 1 "_is_file_name" 1 m__is_file_name) (E_InvalidName : Er1 P w K mg base "InvalidName" "given") (E_NoFile : Er1 P w K mg base "NoFile" "name") : FnX P w K mg base 3 f fd ["self", "name"] (spX K mg 2 m_Disk__found) := by
  exact defX_ok Z sc_Disk__found fun c A o s H E hr =>
  (mxs_cons (mx_if (mtx_of (mt_not (mt_val (me_call C__is_file_name (hr.mono (by decide)) (by rfl) (ma_cons (me_var 1) ma_nil) (mcons_len mnil_len))))) (mxs_one (mx_raise rfl (takes_of rfl rfl rfl rfl) E_InvalidName (hr.mono (by decide)) (by rfl) (me_var 1))) mxs_nil)
  (mxs_cons (mx_if (mtx_of (mt_dnin hr.rg.u1 (me_var 1) (me_fld T.f_Disk__files (me_var 0)))) (mxs_one (mx_raise rfl (takes_of rfl rfl rfl rfl) E_NoFile (hr.mono (by decide)) (by rfl) (me_var 1))) mxs_nil)
  (mxs_one (mx_of (ms_ret (me_dget (pe_dget hr.rg.u1 (me_fld T.f_Disk__files (me_var 0)) (me_var 1) (by intro _ _; rfl))))))))
abbrev s_Disk_read : Stmt := item 17 3
abbrev n_Disk_read : List Str := ["self", "name", "text", "_"]
theorem sc_Disk_read : FnScope n_Disk_read ["self", "name"] (defScope s_Disk_read) := ⟨rfl, rfl, rfl, by decide +kernel, rfl, by decide +kernel, by decide +kernel⟩
theorem ok_Disk_read {f : Addr} {fd : FuncData} (T : Txt w K mg) (Z : Fun K "read" "Disk.read" s_Disk_read f fd) (X_Disk__found : CalM P w K mg base 3 "Disk" "_found" 2 m_Disk__found) : FnX P w K mg base 4 f fd ["self", "name"] (spX K mg 2 m_Disk_read) := by
  exact defX_ok Z sc_Disk_read fun c A o s H E hr =>
  (mxs_cons (mx_asg (ps_asg (mex_meth X_Disk__found (hr.mono (by decide)) (takes_of rfl rfl rfl rfl) (me_var 0) (ma_cons (me_var 1) ma_nil) (len1 (mcons_len mnil_len))) (mg_tup rfl (gs_cons (i := 2) (pgs_cons (pg_name (i := 2) sc_Disk_read.nd rfl (Or.inl rfl)) (gs_cons (i := 3) (pgs_cons (pg_name (i := 3) sc_Disk_read.nd rfl (Or.inl rfl)) gs_nil)))) (pg_tup rfl (gs_cons (i := 2) (pgs_cons (pg_name (i := 2) sc_Disk_read.nd rfl (Or.inl rfl)) (gs_cons (i := 3) (pgs_cons (pg_name (i := 3) sc_Disk_read.nd rfl (Or.inl rfl)) gs_nil))))))))
  (mxs_one (mx_of (ms_ret (me_var 2)))))
abbrev s_Disk_names : Stmt := item 17 4
abbrev n_Disk_names : List Str := ["self"]
theorem sc_Disk_names : FnScope n_Disk_names ["self"] (defScope s_Disk_names) := ⟨rfl, rfl, rfl, by decide +kernel, rfl, by decide +kernel, by decide +kernel⟩
theorem ok_Disk_names {f : Addr} {fd : FuncData} (T : Txt w K mg) (Z : Fun K "names" "Disk.names" s_Disk_names f fd) : FnG P w K mg base 1 f fd ["self"] (spM K mg 1 m_Disk_names) := by
  exact def_ok Z sc_Disk_names fun c A o s H E hr =>
  (mss_one (ms_ret (me_sortK (pe_callB (call_sortedD rfl) (by rfl) T.n_sorted (by decide +kernel) (ma_cons (me_fld T.f_Disk__files (me_var 0)) ma_nil)))))
abbrev s_Disk_sync : Stmt := item 17 5
abbrev n_Disk_sync : List Str := ["self", "name", "text", "_"]
theorem sc_Disk_sync : FnScope n_Disk_sync ["self", "name"] (defScope s_Disk_sync) := ⟨rfl, rfl, rfl, by decide +kernel, rfl, by decide +kernel, by decide +kernel⟩
theorem ok_Disk_sync {f : Addr} {fd : FuncData} (T : Txt w K mg) (Z : Fun K "sync" "Disk.sync" s_Disk_sync f fd) (C_Disk__use_power : CalG P w K mg base 1 "Disk" "_use_power" 1 m_Disk__use_power) (X_Disk__found : CalM P w K mg base 3 "Disk" "_found" 2 m_Disk__found) : FnX P w K mg base 4 f fd ["self", "name"] (spX K mg 2 m_Disk_sync) := by
  exact defX_ok Z sc_Disk_sync fun c A o s H E hr =>
  (mxs_cons (mx_asg (ps_asg (mex_meth X_Disk__found (hr.mono (by decide)) (takes_of rfl rfl rfl rfl) (me_var 0) (ma_cons (me_var 1) ma_nil) (len1 (mcons_len mnil_len))) (mg_tup rfl (gs_cons (i := 2) (pgs_cons (pg_name (i := 2) sc_Disk_sync.nd rfl (Or.inl rfl)) (gs_cons (i := 3) (pgs_cons (pg_name (i := 3) sc_Disk_sync.nd rfl (Or.inl rfl)) gs_nil)))) (pg_tup rfl (gs_cons (i := 2) (pgs_cons (pg_name (i := 2) sc_Disk_sync.nd rfl (Or.inl rfl)) (gs_cons (i := 3) (pgs_cons (pg_name (i := 3) sc_Disk_sync.nd rfl (Or.inl rfl)) gs_nil))))))))
  (mxs_cons (mx_of (ms_drop (ps_expr (me_meth0 C_Disk__use_power (hr.mono (by decide)) (me_var 0)))))
  (mxs_one (mx_of (ms_asgS (ps_asg (me_tup (ma_cons (me_var 2) (ma_cons (me_cb (pe_callB cd_len (by rfl) T.n_len (by decide +kernel) (ma_cons (me_var 2) ma_nil))) ma_nil))) (mgs_sub (pg_sub (me_fld T.f_Disk__files (me_var 0)) (me_var 1) (set_dict hr.rg.u1)))))))))
abbrev s_Disk_synced : Stmt := item 17 6
abbrev n_Disk_synced : List Str := ["self", "name", "_", "signs"]
theorem sc_Disk_synced : FnScope n_Disk_synced ["self", "name"] (defScope s_Disk_synced) := ⟨rfl, rfl, rfl, by decide +kernel, rfl, by decide +kernel, by decide +kernel⟩
theorem ok_Disk_synced {f : Addr} {fd : FuncData} (T : Txt w K mg) (Z : Fun K "synced" "Disk.synced" s_Disk_synced f fd) (X_Disk__found : CalM P w K mg base 3 "Disk" "_found" 2 m_Disk__found) : FnX P w K mg base 4 f fd ["self", "name"] (spX K mg 2 m_Disk_synced) := by
  exact defX_ok Z sc_Disk_synced fun c A o s H E hr =>
  (mxs_cons (mx_asg (ps_asg (mex_meth X_Disk__found (hr.mono (by decide)) (takes_of rfl rfl rfl rfl) (me_var 0) (ma_cons (me_var 1) ma_nil) (len1 (mcons_len mnil_len))) (mg_tup rfl (gs_cons (i := 2) (pgs_cons (pg_name (i := 2) sc_Disk_synced.nd rfl (Or.inl rfl)) (gs_cons (i := 3) (pgs_cons (pg_name (i := 3) sc_Disk_synced.nd rfl (Or.inl rfl)) gs_nil)))) (pg_tup rfl (gs_cons (i := 2) (pgs_cons (pg_name (i := 2) sc_Disk_synced.nd rfl (Or.inl rfl)) (gs_cons (i := 3) (pgs_cons (pg_name (i := 3) sc_Disk_synced.nd rfl (Or.inl rfl)) gs_nil))))))))
  (mxs_one (mx_of (ms_ret (me_var 3)))))
abbrev s_Disk_fall : Stmt := item 17 8
abbrev n_Disk_fall : List Str := ["self", "keeps", "left", "place", "name", "text", "signs"]
theorem sc_Disk_fall : FnScope n_Disk_fall ["self", "keeps"] (defScope s_Disk_fall) := ⟨rfl, rfl, rfl, by decide +kernel, rfl, by decide +kernel, by decide +kernel⟩
theorem ok_Disk_fall {f : Addr} {fd : FuncData} (T : Txt w K mg) (Z : Fun K "fall" "Disk.fall" s_Disk_fall f fd) (C_is_list_of : Cal P w K mg base 3 "is_list_of" 2 m_is_list_of) (C_is_count : Cal P w K mg base 2 "is_count" 1 m_is_count) (C_Disk_names : CalG P w K mg base 1 "Disk" "names" 1 m_Disk_names) (E_InvalidKeeps : Er1 P w K mg base "InvalidKeeps" "given") : FnX P w K mg base 4 f fd ["self", "keeps"] (spX K mg 2 m_Disk_fall) := by
  exact defX_ok Z sc_Disk_fall fun c A o s H E hr =>
  (mxs_cons (mx_if (mtx_of (mt_not (mt_val (me_call C_is_list_of (hr.mono (by decide)) (by rfl) (ma_cons (me_var 1) (ma_cons (me_fnv C_is_count (by rfl)) ma_nil)) (mcons_len (mcons_len mnil_len)))))) (mxs_one (mx_raise rfl (takes_of rfl rfl rfl rfl) E_InvalidKeeps (hr.mono (by decide)) (by rfl) (me_var 1))) mxs_nil)
  (mxs_cons (mx_of (ms_asg (ps_asg me_newD0 (mg_name (i := 2) sc_Disk_fall.nd rfl (Or.inl rfl)))))
  (mxs_cons (mx_of (ms_forE (ps_for (passes_of rfl) rfl (mi_enum (pi_enum (by rfl) T.n_enumerate (ma_cons (me_meth0 C_Disk_names (hr.mono (by decide)) (me_var 0)) ma_nil))) (mg_tup rfl (gs_cons (i := 3) (pgs_cons (pg_name (i := 3) sc_Disk_fall.nd rfl (Or.inl rfl)) (gs_cons (i := 4) (pgs_cons (pg_name (i := 4) sc_Disk_fall.nd rfl (Or.inl rfl)) gs_nil)))) (pg_tup rfl (gs_cons (i := 3) (pgs_cons (pg_name (i := 3) sc_Disk_fall.nd rfl (Or.inl rfl)) (gs_cons (i := 4) (pgs_cons (pg_name (i := 4) sc_Disk_fall.nd rfl (Or.inl rfl)) gs_nil)))))) (mss_cons (ms_asg (ps_asg (me_dget (pe_dget hr.rg.u1 (me_fld T.f_Disk__files (me_var 0)) (me_var 4) (by intro _ _; rfl))) (mg_tup rfl (gs_cons (i := 5) (pgs_cons (pg_name (i := 5) sc_Disk_fall.nd rfl (Or.inl rfl)) (gs_cons (i := 6) (pgs_cons (pg_name (i := 6) sc_Disk_fall.nd rfl (Or.inl rfl)) gs_nil)))) (pg_tup rfl (gs_cons (i := 5) (pgs_cons (pg_name (i := 5) sc_Disk_fall.nd rfl (Or.inl rfl)) (gs_cons (i := 6) (pgs_cons (pg_name (i := 6) sc_Disk_fall.nd rfl (Or.inl rfl)) gs_nil))))))))
  (mss_cons (ms_if (mt_tru (me_var 1)) (mss_one (ms_asg (ps_asg (me_bin od_add (me_var 6) (me_bin od_mod (me_ix (pe_ix ix_seq (me_var 1) (me_bin od_mod (me_var 3) (me_cb (pe_callB cd_len (by rfl) T.n_len (by decide +kernel) (ma_cons (me_var 1) ma_nil)))) (fun _ _ => rfl))) (me_bin od_add (me_bin od_sub (me_cb (pe_callB cd_len (by rfl) T.n_len (by decide +kernel) (ma_cons (me_var 5) ma_nil))) (me_var 6)) me_int))) (mg_name (i := 6) sc_Disk_fall.nd rfl (Or.inl rfl))))) mss_nil)
  (mss_one (ms_if (mt_cmp od_gt (me_var 6) me_int (nomark _)) (mss_one (ms_asgS (ps_asg (me_tup (ma_cons (me_sl (pe_slice sl3 (me_var 5) mo_none (mo_some (me_var 6)))) (ma_cons (me_var 6) ma_nil))) (mgs_sub (pg_sub (me_var 2) (me_var 4) (set_dict hr.rg.u1)))))) mss_nil)))))))
  (mxs_cons (mx_of (ms_setF T.f_Disk__files (me_var 0) (me_var 2)))
  (mxs_cons (mx_of (ms_setF T.f_Disk__power (me_var 0) me_non))
  (mxs_one (mx_of (ms_setF T.f_Disk__ops (me_var 0) (me_bin od_add (me_fld T.f_Disk__ops (me_var 0)) me_int)))))))))
abbrev s_Disk_ops : Stmt := item 17 10
abbrev n_Disk_ops : List Str := ["self"]
theorem sc_Disk_ops : FnScope n_Disk_ops ["self"] (defScope s_Disk_ops) := ⟨rfl, rfl, rfl, by decide +kernel, rfl, by decide +kernel, by decide +kernel⟩
theorem ok_Disk_ops {f : Addr} {fd : FuncData} (T : Txt w K mg) (Z : Fun K "ops" "Disk.ops" s_Disk_ops f fd) : FnG P w K mg base 1 f fd ["self"] (spM K mg 1 m_Disk_ops) := by
  exact def_ok Z sc_Disk_ops fun c A o s H E hr =>
  (mss_one (ms_ret (me_fld T.f_Disk__ops (me_var 0))))
abbrev s__law_cell : Stmt := top 20
abbrev n__law_cell : List Str := ["_law_script", "_law_k"]
theorem sc__law_cell : FnScope n__law_cell ["_law_script", "_law_k"] (defScope s__law_cell) := ⟨rfl, rfl, rfl, by decide +kernel, rfl, by decide +kernel, by decide +kernel⟩
theorem ok__law_cell {f : Addr} {fd : FuncData} (T : Txt w K mg) (Z : Fun K "_law_cell" "_law_cell" s__law_cell f fd) : FnG P w K mg base 1 f fd ["_law_script", "_law_k"] (spM K mg 2 m__law_cell) := by
  exact def_ok Z sc__law_cell fun c A o s H E hr =>
  (mss_one (ms_ret (me_if (mt_cmp od_lt (me_var 1) (me_cb (pe_callB cd_len (by rfl) T.n_len (by decide +kernel) (ma_cons (me_var 0) ma_nil))) (nomark _)) (me_ix (pe_ix ix_seq (me_var 0) (me_var 1) (fun _ _ => rfl))) (me_bin od_add (me_bin od_mul me_int (me_var 1)) (me_bin od_mod (me_cb (pe_callB (cd_sum rfl) (by rfl) T.n_sum (by decide +kernel) (ma_cons (me_sl (pe_slice sl3 (me_var 0) mo_none (mo_some me_int))) ma_nil))) me_int)))))
abbrev s__law_box : Stmt := top 21
abbrev n__law_box : List Str := ["_law_great"]
theorem sc__law_box : FnScope n__law_box ["_law_great"] (defScope s__law_box) := ⟨rfl, rfl, rfl, by decide +kernel, rfl, by decide +kernel, by decide +kernel⟩
theorem ok__law_box {f : Addr} {fd : FuncData} (T : Txt w K mg) (Z : Fun K "_law_box" "_law_box" s__law_box f fd) : FnG P w K mg base 1 f fd ["_law_great"] (spM K mg 1 m__law_box) := by
  exact def_ok Z sc__law_box fun c A o s H E hr =>
  (mss_one (ms_ret (me_new (ma_cons (me_cb (pe_callB cd_abs (by rfl) T.n_abs (by decide +kernel) (ma_cons (me_var 0) ma_nil))) (ma_cons (me_cmp od_ge (me_cb (pe_callB cd_abs (by rfl) T.n_abs (by decide +kernel) (ma_cons (me_var 0) ma_nil))) (me_bin od_pow me_int me_int) (nomark _)) (ma_cons (me_bin od_mod (me_cb (pe_callTy cd_int (by rfl) T.n_int (by decide +kernel) (ma_cons (me_cb (pe_callB cd_abs (by rfl) T.n_abs (by decide +kernel) (ma_cons (me_var 0) ma_nil))) ma_nil))) me_int) (ma_cons me_int ma_nil)))))))
abbrev s__law_take : Stmt := top 22
abbrev n__law_take : List Str := ["_law_box_here", "_law_many", "_law_mixed", "_law_digit"]
theorem sc__law_take : FnScope n__law_take ["_law_box_here", "_law_many"] (defScope s__law_take) := ⟨rfl, rfl, rfl, by decide +kernel, rfl, by decide +kernel, by decide +kernel⟩
theorem ok__law_take {f : Addr} {fd : FuncData} (T : Txt w K mg) (Z : Fun K "_law_take" "_law_take" s__law_take f fd) : FnG P w K mg base 1 f fd ["_law_box_here", "_law_many"] (spM K mg 2 m__law_take) := by
  exact def_ok Z sc__law_take fun c A o s H E hr =>
  (mss_cons (ms_if (mt_w (mw_and (mt_val (me_ix (pe_ix ix_seq (me_var 0) me_int (fun _ _ => rfl)))) (mw_and1 (mt_cmp od_gt (me_ix (pe_ix ix_seq (me_var 0) me_int (fun _ _ => rfl))) me_int (nomark _))))) (mss_cons (ms_asg (ps_asg (me_bin od_mod (me_cb (pe_callTy cd_int (by rfl) T.n_int (by decide +kernel) (ma_cons (me_ix (pe_ix ix_seq (me_var 0) me_int (fun _ _ => rfl))) ma_nil))) (me_var 1)) (mg_name (i := 3) sc__law_take.nd rfl (Or.inl rfl))))
  (mss_cons (ms_setI (ps_asg (me_bin od_fdv (me_ix (pe_ix ix_seq (me_var 0) me_int (fun _ _ => rfl))) (me_var 1)) (pg_sub (me_var 0) me_int set_list)))
  (mss_one (ms_ret (me_var 3))))) mss_nil)
  (mss_cons (ms_setI (ps_asg (me_bin od_add (me_ix (pe_ix ix_seq (me_var 0) me_int (fun _ _ => rfl))) me_int) (pg_sub (me_var 0) me_int set_list)))
  (mss_cons (ms_asg (ps_asg (me_bin od_mod (me_cb (pe_callTy cd_int (by rfl) T.n_int (by decide +kernel) (ma_cons (me_bin od_pow (me_bin od_add (me_bin od_add (me_ix (pe_ix ix_seq (me_var 0) me_int (fun _ _ => rfl))) (me_bin od_mul me_int (me_ix (pe_ix ix_seq (me_var 0) me_int (fun _ _ => rfl))))) me_int) me_int) ma_nil))) me_int) (mg_name (i := 2) sc__law_take.nd rfl (Or.inl rfl))))
  (mss_one (ms_ret (me_bin od_mod (me_bin od_fdv (me_bin od_mod (me_cb (pe_callTy cd_int (by rfl) T.n_int (by decide +kernel) (ma_cons (me_bin od_pow (me_bin od_add (me_bin od_mul (me_var 2) me_int) (me_bin od_mul me_int (me_ix (pe_ix ix_seq (me_var 0) me_int (fun _ _ => rfl))))) me_int) ma_nil))) me_int) me_int) (me_var 1)))))))
abbrev s__law_pool : Stmt := top 23
abbrev n__law_pool : List Str := []
theorem sc__law_pool : FnScope n__law_pool [] (defScope s__law_pool) := ⟨rfl, rfl, rfl, by decide +kernel, rfl, by decide +kernel, by decide +kernel⟩
theorem ok__law_pool {f : Addr} {fd : FuncData} (T : Txt w K mg) (Z : Fun K "_law_pool" "_law_pool" s__law_pool f fd) : FnG P w K mg base 1 f fd [] (spM K mg 0 m__law_pool) := by
  unfold m__law_pool
  refine def_ok (N := n__law_pool) Z sc__law_pool fun c A o s H E hr => ?_
  exact
  (mss_one (ms_ret (me_lst (ma_cons me_str (ma_cons me_str (ma_cons me_str (ma_cons me_str (ma_cons me_str (ma_cons me_str (ma_cons me_str (ma_cons me_str (ma_cons me_str ma_nil))))))))))))
abbrev s__law_filled : Stmt := top 24
abbrev n__law_filled : List Str := ["_law_box_here", "_law_disk", "_law_files", "_law_counts", "_law_turn", "_law_name", "_law_known", "_law_text", "_law_old", "_law_k"]
theorem sc__law_filled : FnScope n__law_filled ["_law_box_here", "_law_disk", "_law_files", "_law_counts"] (defScope s__law_filled) := ⟨rfl, rfl, rfl, by decide +kernel, rfl, by decide +kernel, by decide +kernel⟩
theorem ok__law_filled {f : Addr} {fd : FuncData} (T : Txt w K mg) (Z : Fun K "_law_filled" "_law_filled" s__law_filled f fd) (C__law_pool : Cal P w K mg base 1 "_law_pool" 0 m__law_pool) (C__law_take : Cal P w K mg base 1 "_law_take" 2 m__law_take) (X_Disk_sync : CalM P w K mg base 4 "Disk" "sync" 2 m_Disk_sync) (X_Disk_write : CalM P w K mg base 3 "Disk" "write" 3 m_Disk_write) : FnG P w K mg base 5 f fd ["_law_box_here", "_law_disk", "_law_files", "_law_counts"] (spM K mg 4 m__law_filled) := by
  exact def_ok Z sc__law_filled fun c A o s H E hr =>
  (mss_one (ms_for (ps_for PassesOwn.never rfl (mi_range (pi_range1 (by rfl) T.n_range (ma_cons me_int ma_nil))) (mg_name (i := 4) sc__law_filled.nd rfl (Or.inl rfl)) (mss_cons (ms_par (ps_par (i := 5) (j := 6) rfl sc__law_filled.nd rfl rfl (by decide) rfl rfl (ma_cons (me_ix (pe_ix ix_seq (me_call0 C__law_pool (hr.mono (by decide)) (by rfl)) (me_call C__law_take (hr.mono (by decide)) (by rfl) (ma_cons (me_var 0) (ma_cons me_int ma_nil)) (mcons_len (mcons_len mnil_len))) (fun _ _ => rfl))) (ma_cons (me_sortI (pe_callB cr_sortedS (by rfl) T.n_sorted (by decide +kernel) (ma_cons (me_listKI (pe_callTy (call_listD rfl) (by rfl) T.n_list (by decide +kernel) (ma_cons (me_var 2) ma_nil))) ma_nil))) ma_nil)) (by rfl)))
  (mss_cons (ms_if (mt_w (mw_and (mt_cmp od_lt (me_call C__law_take (hr.mono (by decide)) (by rfl) (ma_cons (me_var 0) (ma_cons me_int ma_nil)) (mcons_len (mcons_len mnil_len))) me_int (nomark _)) (mw_and1 (mt_cmp (od_ne hr.rg) (me_var 6) (me_lst ma_nil) (nomark _))))) (mss_cons (ms_asg (ps_asg (me_ix (pe_ix ix_seq (me_var 6) (me_call C__law_take (hr.mono (by decide)) (by rfl) (ma_cons (me_var 0) (ma_cons (me_cb (pe_callB cd_len (by rfl) T.n_len (by decide +kernel) (ma_cons (me_var 6) ma_nil))) ma_nil)) (mcons_len (mcons_len mnil_len))) (fun _ _ => rfl))) (mg_name (i := 5) sc__law_filled.nd rfl (Or.inl rfl))))
  (mss_cons (ms_drop (ps_expr (me_meth X_Disk_sync.ok (hr.mono (by decide)) (me_var 1) (ma_cons (me_var 5) ma_nil) (len1 (mcons_len mnil_len)))))
  (mss_one (ms_asgS (ps_asg (me_lst (ma_cons (me_ix (pe_ix ix_seq (me_dget (pe_dget hr.rg.u1 (me_var 2) (me_var 5) (by intro _ _; rfl))) me_int (fun _ _ => rfl))) (ma_cons (me_cb (pe_callB cd_len (by rfl) T.n_len (by decide +kernel) (ma_cons (me_ix (pe_ix ix_seq (me_dget (pe_dget hr.rg.u1 (me_var 2) (me_var 5) (by intro _ _; rfl))) me_int (fun _ _ => rfl))) ma_nil))) ma_nil))) (mgs_sub (pg_sub (me_var 2) (me_var 5) (set_dict hr.rg.u1)))))))) (mss_cons (ms_asg (ps_asg (me_join (pe_join me_str (me_lc (pe_lc (own := [("_law_k", 9)]) rfl sc__law_filled.nd (mi_range (pi_range1 (by rfl) T.n_range (ma_cons (me_bin od_add me_int (me_call C__law_take (hr.mono (by decide)) (by rfl) (ma_cons (me_var 0) (ma_cons me_int ma_nil)) (mcons_len (mcons_len mnil_len)))) ma_nil))) (blkOk_by (N := n__law_filled) (sc := defScope s__law_filled) (by decide +kernel)) (fun _ _ _ _ _ => pg_name (i := 9) sc__law_filled.nd rfl (Or.inl rfl)) (fun _ _ _ _ _ => mts_nil) (fun _ _ _ _ _ => (me_ix (pe_ix ix_seq me_str (me_call C__law_take (hr.mono (by decide)) (by rfl) (ma_cons (me_var 0) (ma_cons me_int ma_nil)) (mcons_len (mcons_len mnil_len))) (fun _ _ => rfl)))))))) (mg_name (i := 7) sc__law_filled.nd rfl (Or.inl rfl))))
  (mss_cons (ms_drop (ps_expr (me_meth X_Disk_write.ok (hr.mono (by decide)) (me_var 1) (ma_cons (me_var 5) (ma_cons (me_var 7) ma_nil)) (len1 (mcons_len (mcons_len mnil_len))))))
  (mss_cons (ms_asg (ps_asg (me_dget2 (pe_dget2 hr.rg.u1 (me_var 2) (me_var 5) (me_lst (ma_cons me_str (ma_cons me_int ma_nil))) ⟨by rfl, by rfl, by rfl, by rfl⟩)) (mg_name (i := 8) sc__law_filled.nd rfl (Or.inl rfl))))
  (mss_one (ms_asgS (ps_asg (me_lst (ma_cons (me_bin od_add (me_ix (pe_ix ix_seq (me_var 8) me_int (fun _ _ => rfl))) (me_var 7)) (ma_cons (me_ix (pe_ix ix_seq (me_var 8) me_int (fun _ _ => rfl))) ma_nil))) (mgs_sub (pg_sub (me_var 2) (me_var 5) (set_dict hr.rg.u1))))))))))
  (mss_one (ms_setI (ps_asg (me_bin od_add (me_ix (pe_ix ix_seq (me_var 3) me_int (fun _ _ => rfl))) me_int) (pg_sub (me_var 3) me_int set_list)))))))))
abbrev s__law_keeps : Stmt := top 25
abbrev n__law_keeps : List Str := ["_law_box_here", "_law_many", "_law_found", "_law_turn", "_law_small", "_law_is_great"]
theorem sc__law_keeps : FnScope n__law_keeps ["_law_box_here"] (defScope s__law_keeps) := ⟨rfl, rfl, rfl, by decide +kernel, rfl, by decide +kernel, by decide +kernel⟩
theorem ok__law_keeps {f : Addr} {fd : FuncData} (T : Txt w K mg) (Z : Fun K "_law_keeps" "_law_keeps" s__law_keeps f fd) (C__law_take : Cal P w K mg base 1 "_law_take" 2 m__law_take) : FnG P w K mg base 2 f fd ["_law_box_here"] (spM K mg 1 m__law_keeps) := by
  exact def_ok Z sc__law_keeps fun c A o s H E hr =>
  (mss_cons (ms_asg (ps_asg (me_ix (pe_ix ix_seq (me_lst (ma_cons me_int (ma_cons me_int (ma_cons me_int (ma_cons me_int (ma_cons me_int (ma_cons me_int (ma_cons me_int ma_nil)))))))) (me_call C__law_take (hr.mono (by decide)) (by rfl) (ma_cons (me_var 0) (ma_cons me_int ma_nil)) (mcons_len (mcons_len mnil_len))) (fun _ _ => rfl))) (mg_name (i := 1) sc__law_keeps.nd rfl (Or.inl rfl))))
  (mss_cons (ms_asg (ps_asg (me_new ma_nil) (mg_name (i := 2) sc__law_keeps.nd rfl (Or.inl rfl))))
  (mss_cons (ms_for (ps_for PassesOwn.never rfl (mi_range (pi_range1 (by rfl) T.n_range (ma_cons (me_var 1) ma_nil))) (mg_name (i := 3) sc__law_keeps.nd rfl (Or.inl rfl)) (mss_cons (ms_par (ps_par (i := 4) (j := 5) rfl sc__law_keeps.nd rfl rfl (by decide) rfl rfl (ma_cons (me_ix (pe_ix ix_seq (me_lst (ma_cons me_int (ma_cons me_int (ma_cons me_int (ma_cons me_int (ma_cons me_int (ma_cons me_int (ma_cons me_int (ma_cons me_int (ma_cons me_int ma_nil)))))))))) (me_call C__law_take (hr.mono (by decide)) (by rfl) (ma_cons (me_var 0) (ma_cons me_int ma_nil)) (mcons_len (mcons_len mnil_len))) (fun _ _ => rfl))) (ma_cons (me_cmp (od_eq hr.rg) (me_call C__law_take (hr.mono (by decide)) (by rfl) (ma_cons (me_var 0) (ma_cons me_int ma_nil)) (mcons_len (mcons_len mnil_len))) me_int (nomark _)) ma_nil)) (by rfl)))
  (mss_one (ms_drop (ps_expr (me_app (pe_bm PySem.F.plainAttrs_list PySem.F.slot_list_append PySem.F.type_list_append mt_append (me_var 2) (ma_cons (me_if (mt_val (me_var 5)) (me_bin od_sub (me_bin od_sub (me_bin od_pow me_int me_int) me_int) (me_var 4)) (me_var 4)) ma_nil)))))))))
  (mss_one (ms_ret (me_var 2))))))
abbrev s__law_no_keeps : Stmt := top 26
abbrev n__law_no_keeps : List Str := ["_law_box_here", "_law_found", "_law_spot", "_law_odd"]
theorem sc__law_no_keeps : FnScope n__law_no_keeps ["_law_box_here"] (defScope s__law_no_keeps) := ⟨rfl, rfl, rfl, by decide +kernel, rfl, by decide +kernel, by decide +kernel⟩
theorem ok__law_no_keeps {f : Addr} {fd : FuncData} (T : Txt w K mg) (Z : Fun K "_law_no_keeps" "_law_no_keeps" s__law_no_keeps f fd) (C__law_take : Cal P w K mg base 1 "_law_take" 2 m__law_take) (C__law_keeps : Cal P w K mg base 2 "_law_keeps" 1 m__law_keeps) : FnG P w K mg base 3 f fd ["_law_box_here"] (spM K mg 1 m__law_no_keeps) := by
  exact def_ok Z sc__law_no_keeps fun c A o s H E hr =>
  (mss_cons (ms_if (mt_cmp (od_eq hr.rg) (me_call C__law_take (hr.mono (by decide)) (by rfl) (ma_cons (me_var 0) (ma_cons me_int ma_nil)) (mcons_len (mcons_len mnil_len))) me_int (nomark _)) (mss_one (ms_ret (me_ix (pe_ix ix_seq (me_lst (ma_cons me_non (ma_cons me_int (ma_cons me_str (ma_cons me_bl (ma_cons (me_cb (pe_callTy (cd_dictK rfl) (by rfl) T.n_dict (by decide +kernel) (ma_cons (me_lst (ma_cons (me_tup (ma_cons me_int (ma_cons me_int ma_nil))) ma_nil)) ma_nil))) (ma_cons me_str (ma_cons me_int ma_nil)))))))) (me_call C__law_take (hr.mono (by decide)) (by rfl) (ma_cons (me_var 0) (ma_cons me_int ma_nil)) (mcons_len (mcons_len mnil_len))) (fun _ _ => rfl))))) mss_nil)
  (mss_cons (ms_asg (ps_asg (me_call C__law_keeps (hr.mono (by decide)) (by rfl) (ma_cons (me_var 0) ma_nil) (mcons_len mnil_len)) (mg_name (i := 1) sc__law_no_keeps.nd rfl (Or.inl rfl))))
  (mss_cons (ms_asg (ps_asg (me_call C__law_take (hr.mono (by decide)) (by rfl) (ma_cons (me_var 0) (ma_cons (me_bin od_add (me_cb (pe_callB cd_len (by rfl) T.n_len (by decide +kernel) (ma_cons (me_var 1) ma_nil))) me_int) ma_nil)) (mcons_len (mcons_len mnil_len))) (mg_name (i := 2) sc__law_no_keeps.nd rfl (Or.inl rfl))))
  (mss_cons (ms_asg (ps_asg (me_ix (pe_ix ix_seq (me_lst (ma_cons (me_neg (pe_un un_neg me_int)) (ma_cons me_bl (ma_cons me_non (ma_cons me_str (ma_cons (me_tup (ma_cons me_int ma_nil)) (ma_cons (me_lst (ma_cons me_int ma_nil)) (ma_cons me_bl (ma_cons (me_neg (pe_un un_neg me_int)) ma_nil))))))))) (me_call C__law_take (hr.mono (by decide)) (by rfl) (ma_cons (me_var 0) (ma_cons me_int ma_nil)) (mcons_len (mcons_len mnil_len))) (fun _ _ => rfl))) (mg_name (i := 3) sc__law_no_keeps.nd rfl (Or.inl rfl))))
  (mss_cons (ms_asg (ps_asg (me_addN (me_bin od_add (me_slR (pe_slice sl3 (me_var 1) mo_none (mo_some (me_var 2)))) (me_lst (ma_cons (me_var 3) ma_nil))) (me_slR (pe_slice sl3 (me_var 1) (mo_some (me_bin od_add (me_var 2) (me_call C__law_take (hr.mono (by decide)) (by rfl) (ma_cons (me_var 0) (ma_cons me_int ma_nil)) (mcons_len (mcons_len mnil_len))))) mo_none))) (mg_name (i := 1) sc__law_no_keeps.nd rfl (Or.inl rfl))))
  (mss_one (ms_ret (me_if (mt_cmp (od_eq hr.rg) (me_call C__law_take (hr.mono (by decide)) (by rfl) (ma_cons (me_var 0) (ma_cons me_int ma_nil)) (mcons_len (mcons_len mnil_len))) me_int (nomark _)) (me_cb (pe_callTy cd_tupS (by rfl) T.n_tuple (by decide +kernel) (ma_cons (me_var 1) ma_nil))) (me_var 1)))))))))
abbrev s__law_fallen : Stmt := top 27
abbrev n__law_fallen : List Str := ["_law_files", "_law_keeps_here", "_law_k", "_law_found", "_law_names", "_law_text", "_law_kept"]
theorem sc__law_fallen : FnScope n__law_fallen ["_law_files", "_law_keeps_here"] (defScope s__law_fallen) := ⟨rfl, rfl, rfl, by decide +kernel, rfl, by decide +kernel, by decide +kernel⟩
theorem ok__law_fallen {f : Addr} {fd : FuncData} (T : Txt w K mg) (Z : Fun K "_law_fallen" "_law_fallen" s__law_fallen f fd) : FnG P w K mg base 1 f fd ["_law_files", "_law_keeps_here"] (spM K mg 2 m__law_fallen) := by
  exact def_ok Z sc__law_fallen fun c A o s H E hr =>
  (mss_cons (ms_par (ps_par (i := 3) (j := 4) rfl sc__law_fallen.nd rfl rfl (by decide) rfl rfl (ma_cons (me_dictN (pe_callTy (call_dictP rfl) (by rfl) T.n_dict (by decide +kernel) (ma_cons (me_lst ma_nil) ma_nil))) (ma_cons (me_sortI (pe_callB cr_sortedS (by rfl) T.n_sorted (by decide +kernel) (ma_cons (me_listKI (pe_callTy (call_listD rfl) (by rfl) T.n_list (by decide +kernel) (ma_cons (me_var 0) ma_nil))) ma_nil))) ma_nil)) (by rfl)))
  (mss_cons (ms_for (ps_for PassesOwn.never rfl (mi_range (pi_range1 (by rfl) T.n_range (ma_cons (me_cb (pe_callB cd_len (by rfl) T.n_len (by decide +kernel) (ma_cons (me_var 4) ma_nil))) ma_nil))) (mg_name (i := 2) sc__law_fallen.nd rfl (Or.inl rfl)) (mss_cons (ms_asg (ps_asg (me_dget (pe_dget hr.rg.u1 (me_var 0) (me_ix (pe_ix ix_seq (me_var 4) (me_var 2) (fun _ _ => rfl))) (by intro _ _; rfl))) (mg_lst (pg_lst rfl (gs_cons (i := 5) (pgs_cons (pg_name (i := 5) sc__law_fallen.nd rfl (Or.inl rfl)) (gs_cons (i := 6) (pgs_cons (pg_name (i := 6) sc__law_fallen.nd rfl (Or.inl rfl)) gs_nil))))))))
  (mss_cons (ms_if (mt_cmp od_gt (me_cb (pe_callB cd_len (by rfl) T.n_len (by decide +kernel) (ma_cons (me_var 1) ma_nil))) me_int (nomark _)) (mss_one (ms_asg (ps_asg (me_bin od_add (me_var 6) (me_bin od_mod (me_cb (pe_callTy cd_int (by rfl) T.n_int (by decide +kernel) (ma_cons (me_ix (pe_ix ix_seq (me_var 1) (me_bin od_mod (me_cb (pe_callTy cd_int (by rfl) T.n_int (by decide +kernel) (ma_cons (me_var 2) ma_nil))) (me_cb (pe_callB cd_len (by rfl) T.n_len (by decide +kernel) (ma_cons (me_var 1) ma_nil)))) (fun _ _ => rfl))) ma_nil))) (me_bin od_add (me_bin od_sub (me_cb (pe_callB cd_len (by rfl) T.n_len (by decide +kernel) (ma_cons (me_var 5) ma_nil))) (me_var 6)) me_int))) (mg_name (i := 6) sc__law_fallen.nd rfl (Or.inl rfl))))) mss_nil)
  (mss_one (ms_if (mt_cmp od_gt (me_var 6) me_int (nomark _)) (mss_one (ms_asgS (ps_asg (me_lst (ma_cons (me_sl (pe_slice sl3 (me_var 5) mo_none (mo_some (me_var 6)))) (ma_cons (me_var 6) ma_nil))) (mgs_sub (pg_sub (me_var 3) (me_ix (pe_ix ix_seq (me_var 4) (me_var 2) (fun _ _ => rfl))) (set_dict hr.rg.u1)))))) mss_nil))))))
  (mss_one (ms_ret (me_var 3)))))
abbrev s__law_told : Stmt := top 28
abbrev n__law_told : List Str := ["_law_disk", "_law_way", "_law_keeps_here", "e"]
theorem sc__law_told : FnScope n__law_told ["_law_disk", "_law_way", "_law_keeps_here"] (defScope s__law_told) := ⟨rfl, rfl, rfl, by decide +kernel, rfl, by decide +kernel, by decide +kernel⟩
theorem ok__law_told {f : Addr} {fd : FuncData} (T : Txt w K mg) (Z : Fun K "_law_told" "_law_told" s__law_told f fd) (X_Disk_fall : CalM P w K mg base 4 "Disk" "fall" 2 m_Disk_fall) (X_Disk_fall_k : CalMK P w K mg base 4 "Disk" "fall" "keeps" m_Disk_fall) : FnG P w K mg base 5 f fd ["_law_disk", "_law_way", "_law_keeps_here"] (spM K mg 3 m__law_told) := by
  obtain ⟨A_InvalidKeeps, F_InvalidKeeps⟩ := T.e_InvalidKeeps
  exact def_ok Z sc__law_told fun c A o s H E hr =>
  (mss_one (ms_quS (mx_try [.ref A_InvalidKeeps] rfl rfl sc__law_told.nd takes_none5 (fun _ _ _ tk => (mxs_one (mx_ret (mex_lst (max_cons (mex_of me_str) (max_cons (mex_if (mt_cmp (od_eq hr.rg) (me_var 1) me_int (nomark _)) (mex_meth X_Disk_fall (hr.mono (by decide)) tk (me_var 0) (ma_cons (me_var 2) ma_nil) (len1 (mcons_len mnil_len))) (mex_methK X_Disk_fall_k (hr.mono (by decide)) tk (me_var 0) (me_var 2))) (max_of ma_nil))))))) (.as (names_of F_InvalidKeeps (by rfl)) rfl rfl (fun _ _ _ _ => (mss_one (ms_ret (me_lst (ma_cons me_str (ma_cons (me_attr (attr_self F_InvalidKeeps) (me_var 3)) ma_nil)))))) .nil) (.cons (subOk_self F_InvalidKeeps) .nil))))
abbrev s__law_refused : Stmt := top 29
abbrev n__law_refused : List Str := ["_law_disk", "_law_way", "_law_keeps_here", "_law_told_here"]
theorem sc__law_refused : FnScope n__law_refused ["_law_disk", "_law_way", "_law_keeps_here"] (defScope s__law_refused) := ⟨rfl, rfl, rfl, by decide +kernel, rfl, by decide +kernel, by decide +kernel⟩
theorem ok__law_refused {f : Addr} {fd : FuncData} (T : Txt w K mg) (Z : Fun K "_law_refused" "_law_refused" s__law_refused f fd) (hsys : ∃ mm, base.Ns sysModules mm) (C__law_told : Cal P w K mg base 5 "_law_told" 3 m__law_told) : FnG P w K mg base 6 f fd ["_law_disk", "_law_way", "_law_keeps_here"] (spM K mg 3 m__law_refused) := by
  exact def_ok Z sc__law_refused fun c A o s H E hr =>
  (mss_cons (ms_asg (ps_asg (me_call C__law_told (hr.mono (by decide)) (by rfl) (ma_cons (me_var 0) (ma_cons (me_var 1) (ma_cons (me_var 2) ma_nil))) (mcons_len (mcons_len (mcons_len mnil_len)))) (mg_name (i := 3) sc__law_refused.nd rfl (Or.inl rfl))))
  (mss_cons (ms_if (mt_cmp (od_ne hr.rg) (me_cb (pe_callB (cd_reprS hr.rg hsys) (by rfl) T.n_repr (by decide +kernel) (ma_cons (me_var 3) ma_nil))) (me_cb (pe_callB (cd_reprS hr.rg hsys) (by rfl) T.n_repr (by decide +kernel) (ma_cons (me_lst (ma_cons me_str (ma_cons (me_var 2) ma_nil))) ma_nil))) (nomark _)) (mss_one (ms_ret me_bl)) mss_nil)
  (mss_cons (ms_if (mt_val (me_cb (pe_callB cd_isS (by rfl) T.n_isinstance (by decide +kernel) (ma_cons (me_var 2) (ma_cons (me_ty "list" (by rfl) T.n_list (by decide +kernel)) ma_nil))))) (mss_one (ms_drop (ps_expr (me_app (pe_bm PySem.F.plainAttrs_list PySem.F.slot_list_append PySem.F.type_list_append mt_append (me_var 2) (ma_cons me_str ma_nil)))))) mss_nil)
  (mss_one (ms_ret (me_cmp (od_eq hr.rg) (me_cb (pe_callB (cd_reprS hr.rg hsys) (by rfl) T.n_repr (by decide +kernel) (ma_cons (me_var 3) ma_nil))) (me_cb (pe_callB (cd_reprS hr.rg hsys) (by rfl) T.n_repr (by decide +kernel) (ma_cons (me_lst (ma_cons me_str (ma_cons (me_var 2) ma_nil))) ma_nil))) (nomark _)))))))
abbrev s__law_is_gone : Stmt := top 30
abbrev n__law_is_gone : List Str := ["_law_disk", "_law_name", "e"]
theorem sc__law_is_gone : FnScope n__law_is_gone ["_law_disk", "_law_name"] (defScope s__law_is_gone) := ⟨rfl, rfl, rfl, by decide +kernel, rfl, by decide +kernel, by decide +kernel⟩
theorem ok__law_is_gone {f : Addr} {fd : FuncData} (T : Txt w K mg) (Z : Fun K "_law_is_gone" "_law_is_gone" s__law_is_gone f fd) (X_Disk_read : CalM P w K mg base 4 "Disk" "read" 2 m_Disk_read) : FnG P w K mg base 5 f fd ["_law_disk", "_law_name"] (spM K mg 2 m__law_is_gone) := by
  obtain ⟨A_NoFile, F_NoFile⟩ := T.e_NoFile
  exact def_ok Z sc__law_is_gone fun c A o s H E hr =>
  (mss_one (ms_quS (mx_try [.ref A_NoFile] rfl rfl sc__law_is_gone.nd takes_none5 (fun _ _ _ tk => (mxs_cons (mx_drop (ps_expr (mex_meth X_Disk_read (hr.mono (by decide)) tk (me_var 0) (ma_cons (me_var 1) ma_nil) (len1 (mcons_len mnil_len)))))
  (mxs_one (mx_of (ms_ret me_bl))))) (.as (names_of F_NoFile (by rfl)) rfl rfl (fun _ _ _ _ => (mss_one (ms_ret (me_cmp (od_eq (hr.rg.mark _)) (me_attr (attr_self F_NoFile) (me_var 2)) (me_var 1) (nomark _))))) .nil) (.cons (subOk_self F_NoFile) .nil))))
abbrev s__law_alike : Stmt := top 31
abbrev n__law_alike : List Str := ["_law_disk", "_law_files", "_law_counts", "_law_name"]
theorem sc__law_alike : FnScope n__law_alike ["_law_disk", "_law_files", "_law_counts"] (defScope s__law_alike) := ⟨rfl, rfl, rfl, by decide +kernel, rfl, by decide +kernel, by decide +kernel⟩
theorem ok__law_alike {f : Addr} {fd : FuncData} (T : Txt w K mg) (Z : Fun K "_law_alike" "_law_alike" s__law_alike f fd) (hsys : ∃ mm, base.Ns sysModules mm) (C_Disk_ops : CalG P w K mg base 1 "Disk" "ops" 1 m_Disk_ops) (C_Disk_names : CalG P w K mg base 1 "Disk" "names" 1 m_Disk_names) (C__law_pool : Cal P w K mg base 1 "_law_pool" 0 m__law_pool) (C__law_is_gone : Cal P w K mg base 5 "_law_is_gone" 2 m__law_is_gone) (X_Disk_synced : CalM P w K mg base 4 "Disk" "synced" 2 m_Disk_synced) (X_Disk_read : CalM P w K mg base 4 "Disk" "read" 2 m_Disk_read) : FnG P w K mg base 6 f fd ["_law_disk", "_law_files", "_law_counts"] (spM K mg 3 m__law_alike) := by
  exact def_ok Z sc__law_alike fun c A o s H E hr =>
  (mss_cons (ms_if (mt_w (mw_or (mt_cmpS (od_neS hr.rg) (me_meth0 C_Disk_names (hr.mono (by decide)) (me_var 0)) (me_sortI (pe_callB cr_sortedS (by rfl) T.n_sorted (by decide +kernel) (ma_cons (me_listKI (pe_callTy (call_listD rfl) (by rfl) T.n_list (by decide +kernel) (ma_cons (me_var 1) ma_nil))) ma_nil))) (nomark _)) (mw_or1 (mt_cmp (od_ne hr.rg) (me_cb (pe_callB (cd_reprS hr.rg hsys) (by rfl) T.n_repr (by decide +kernel) (ma_cons (me_meth0 C_Disk_ops (hr.mono (by decide)) (me_var 0)) ma_nil))) (me_cb (pe_callB (cd_reprS hr.rg hsys) (by rfl) T.n_repr (by decide +kernel) (ma_cons (me_ix (pe_ix ix_seq (me_var 2) me_int (fun _ _ => rfl))) ma_nil))) (nomark _))))) (mss_one (ms_ret me_bl)) mss_nil)
  (mss_cons (ms_for (ps_for PassesOwn.never rfl (mi_list (pi_list (me_call0 C__law_pool (hr.mono (by decide)) (by rfl)))) (mg_name (i := 3) sc__law_alike.nd rfl (Or.inl rfl)) (mss_cons (ms_if (mt_w (mw_and (mt_dnin hr.rg.u1 (me_var 3) (me_var 1)) (mw_and1 (mt_not (mt_val (me_call C__law_is_gone (hr.mono (by decide)) (by rfl) (ma_cons (me_var 0) (ma_cons (me_var 3) ma_nil)) (mcons_len (mcons_len mnil_len)))))))) (mss_one (ms_ret me_bl)) mss_nil)
  (mss_one (ms_if (mt_w (mw_and (mt_din hr.rg.u1 (me_var 3) (me_var 1)) (mw_and1 (mt_cmp (od_ne hr.rg) (me_cb (pe_callB (cd_reprS hr.rg hsys) (by rfl) T.n_repr (by decide +kernel) (ma_cons (me_lst (ma_cons (me_meth X_Disk_read.ok (hr.mono (by decide)) (me_var 0) (ma_cons (me_var 3) ma_nil) (len1 (mcons_len mnil_len))) (ma_cons (me_meth X_Disk_synced.ok (hr.mono (by decide)) (me_var 0) (ma_cons (me_var 3) ma_nil) (len1 (mcons_len mnil_len))) ma_nil))) ma_nil))) (me_cb (pe_callB (cd_reprS hr.rg hsys) (by rfl) T.n_repr (by decide +kernel) (ma_cons (me_dget (pe_dget hr.rg.u1 (me_var 1) (me_var 3) (by intro _ _; rfl))) ma_nil))) (nomark _))))) (mss_one (ms_ret me_bl)) mss_nil)))))
  (mss_one (ms_ret me_bl))))
abbrev s__law_fall_right : Stmt := top 32
abbrev n__law_fall_right : List Str := ["_law_box_here", "_law_disk", "_law_files", "_law_counts", "_law_keeps_here", "_law_handed", "_law_after", "_law_name", "_law_text", "_law_mark", "_law_left"]
theorem sc__law_fall_right : FnScope n__law_fall_right ["_law_box_here", "_law_disk", "_law_files", "_law_counts", "_law_keeps_here"] (defScope s__law_fall_right) := ⟨rfl, rfl, rfl, by decide +kernel, rfl, by decide +kernel, by decide +kernel⟩
theorem ok__law_fall_right {f : Addr} {fd : FuncData} (T : Txt w K mg) (Z : Fun K "_law_fall_right" "_law_fall_right" s__law_fall_right f fd) (C__law_take : Cal P w K mg base 1 "_law_take" 2 m__law_take) (C__law_fallen : Cal P w K mg base 1 "_law_fallen" 2 m__law_fallen) (C__law_told : Cal P w K mg base 5 "_law_told" 3 m__law_told) (C__law_alike : Cal P w K mg base 6 "_law_alike" 3 m__law_alike) (C_Disk_names : CalG P w K mg base 1 "Disk" "names" 1 m_Disk_names) (X_Disk_read : CalM P w K mg base 4 "Disk" "read" 2 m_Disk_read) (X_Disk_synced : CalM P w K mg base 4 "Disk" "synced" 2 m_Disk_synced) : FnG P w K mg base 7 f fd ["_law_box_here", "_law_disk", "_law_files", "_law_counts", "_law_keeps_here"] (spM K mg 5 m__law_fall_right) := by
  exact def_ok Z sc__law_fall_right fun c A o s H E hr =>
  (mss_cons (ms_asg (ps_asg (me_if (mt_cmp (od_eq hr.rg) (me_call C__law_take (hr.mono (by decide)) (by rfl) (ma_cons (me_var 0) (ma_cons me_int ma_nil)) (mcons_len (mcons_len mnil_len))) me_int (nomark _)) (me_cb (pe_callTy cd_tupS (by rfl) T.n_tuple (by decide +kernel) (ma_cons (me_var 4) ma_nil))) (me_cb (pe_callTy cd_listS (by rfl) T.n_list (by decide +kernel) (ma_cons (me_var 4) ma_nil)))) (mg_name (i := 5) sc__law_fall_right.nd rfl (Or.inl rfl))))
  (mss_cons (ms_asg (ps_asg (me_call C__law_fallen (hr.mono (by decide)) (by rfl) (ma_cons (me_var 2) (ma_cons (me_var 4) ma_nil)) (mcons_len (mcons_len mnil_len))) (mg_name (i := 6) sc__law_fall_right.nd rfl (Or.inl rfl))))
  (mss_cons (ms_setI (ps_asg (me_bin od_add (me_ix (pe_ix ix_seq (me_var 3) me_int (fun _ _ => rfl))) me_int) (pg_sub (me_var 3) me_int set_list)))
  (mss_cons (ms_if (mt_w (mw_or (mt_cmp (od_ne hr.rg) (me_call C__law_told (hr.mono (by decide)) (by rfl) (ma_cons (me_var 1) (ma_cons (me_call C__law_take (hr.mono (by decide)) (by rfl) (ma_cons (me_var 0) (ma_cons me_int ma_nil)) (mcons_len (mcons_len mnil_len))) (ma_cons (me_var 5) ma_nil))) (mcons_len (mcons_len (mcons_len mnil_len)))) (me_lst (ma_cons me_str (ma_cons me_non ma_nil))) (nomark _)) (mw_or1 (mt_cmpS (od_neS hr.rg) (me_cb (pe_callTy cd_listS (by rfl) T.n_list (by decide +kernel) (ma_cons (me_var 5) ma_nil))) (me_var 4) (nomark _))))) (mss_one (ms_ret me_non)) mss_nil)
  (mss_cons (ms_if (mt_not (mt_val (me_call C__law_alike (hr.mono (by decide)) (by rfl) (ma_cons (me_var 1) (ma_cons (me_var 6) (ma_cons (me_var 3) ma_nil))) (mcons_len (mcons_len (mcons_len mnil_len)))))) (mss_one (ms_ret me_non)) mss_nil)
  (mss_cons (ms_for (ps_for PassesOwn.never rfl (mi_list (pi_list (me_sortI (pe_callB cr_sortedS (by rfl) T.n_sorted (by decide +kernel) (ma_cons (me_listKI (pe_callTy (call_listD rfl) (by rfl) T.n_list (by decide +kernel) (ma_cons (me_var 2) ma_nil))) ma_nil))))) (mg_name (i := 7) sc__law_fall_right.nd rfl (Or.inl rfl)) (mss_cons (ms_asg (ps_asg (me_dget (pe_dget hr.rg.u1 (me_var 2) (me_var 7) (by intro _ _; rfl))) (mg_lst (pg_lst rfl (gs_cons (i := 8) (pgs_cons (pg_name (i := 8) sc__law_fall_right.nd rfl (Or.inl rfl)) (gs_cons (i := 9) (pgs_cons (pg_name (i := 9) sc__law_fall_right.nd rfl (Or.inl rfl)) gs_nil))))))))
  (mss_one (ms_if (mt_cmpS od_ninQS (me_var 7) (me_meth0 C_Disk_names (hr.mono (by decide)) (me_var 1)) (by rfl)) (mss_one (ms_if (mt_cmp od_gt (me_var 9) me_int (nomark _)) (mss_one (ms_ret me_non)) mss_nil)) (mss_cons (ms_asg (ps_asg (me_meth X_Disk_read.ok (hr.mono (by decide)) (me_var 1) (ma_cons (me_var 7) ma_nil) (len1 (mcons_len mnil_len))) (mg_name (i := 10) sc__law_fall_right.nd rfl (Or.inl rfl))))
  (mss_one (ms_if (mt_w (mw_or (mt_not (mt_val (me_sw (pe_bm PySem.F.plainAttrs_str PySem.F.slot_str_startswith PySem.F.type_str_startswith mt_startswith (me_var 8) (ma_cons (me_var 10) ma_nil))))) (mw_or (mt_cmp od_lt (me_cb (pe_callB cd_len (by rfl) T.n_len (by decide +kernel) (ma_cons (me_var 10) ma_nil))) (me_var 9) (nomark _)) (mw_or1 (mt_cmp (od_ne hr.rg) (me_meth X_Disk_synced.ok (hr.mono (by decide)) (me_var 1) (ma_cons (me_var 7) ma_nil) (len1 (mcons_len mnil_len))) (me_cb (pe_callB cd_len (by rfl) T.n_len (by decide +kernel) (ma_cons (me_var 10) ma_nil))) (nomark _)))))) (mss_one (ms_ret me_non)) mss_nil))))))))
  (mss_one (ms_ret (me_var 6)))))))))
abbrev s_law : Stmt := top 33
abbrev n_law : List Str := ["_law_script", "_law_k", "_law_box_here", "_law_turn", "_law_disk", "_law_files", "_law_counts", "_law_after", "_law_again"]
theorem sc_law : FnScope n_law ["_law_script"] (defScope s_law) := ⟨rfl, rfl, rfl, by decide +kernel, rfl, by decide +kernel, by decide +kernel⟩
theorem ok_law {f : Addr} {fd : FuncData} (T : Txt w K mg) (Z : Fun K "law" "law" s_law f fd) (N_Disk : MakM P w K mg base 1 "Disk" 1 m_Disk_init) (C__law_box : Cal P w K mg base 1 "_law_box" 1 m__law_box) (C__law_cell : Cal P w K mg base 1 "_law_cell" 2 m__law_cell) (C__law_filled : Cal P w K mg base 5 "_law_filled" 4 m__law_filled) (C__law_refused : Cal P w K mg base 6 "_law_refused" 3 m__law_refused) (C__law_no_keeps : Cal P w K mg base 3 "_law_no_keeps" 1 m__law_no_keeps) (C__law_take : Cal P w K mg base 1 "_law_take" 2 m__law_take) (C__law_alike : Cal P w K mg base 6 "_law_alike" 3 m__law_alike) (C__law_fall_right : Cal P w K mg base 7 "_law_fall_right" 5 m__law_fall_right) (C__law_keeps : Cal P w K mg base 2 "_law_keeps" 1 m__law_keeps) : FnG P w K mg base 8 f fd ["_law_script"] (spM K mg 1 m_law) := by
  exact def_ok Z sc_law fun c A o s H E hr =>
  (mss_cons (ms_for (ps_for PassesOwn.never rfl (mi_range (pi_range1 (by rfl) T.n_range (ma_cons (me_cb (pe_callB (cd_max2 rfl) (by rfl) T.n_max (by decide +kernel) (ma_cons me_int (ma_cons (me_cb (pe_callB (cd_min2 rfl) (by rfl) T.n_min (by decide +kernel) (ma_cons me_int (ma_cons (me_cb (pe_callB cd_len (by rfl) T.n_len (by decide +kernel) (ma_cons (me_var 0) ma_nil))) ma_nil)))) ma_nil)))) ma_nil))) (mg_name (i := 1) sc_law.nd rfl (Or.inl rfl)) (mss_cons (ms_asg (ps_asg (me_call C__law_box (hr.mono (by decide)) (by rfl) (ma_cons (me_call C__law_cell (hr.mono (by decide)) (by rfl) (ma_cons (me_var 0) (ma_cons (me_var 1) ma_nil)) (mcons_len (mcons_len mnil_len))) ma_nil) (mcons_len mnil_len)) (mg_name (i := 2) sc_law.nd rfl (Or.inl rfl))))
  (mss_cons (ms_par3 (ps_par3 (i := 4) (j := 5) (l := 6) rfl sc_law.nd rfl rfl rfl (by decide) (by decide) (by decide) rfl rfl rfl (ma_cons (me_mk0 N_Disk (hr.mono (by decide)) (by rfl)) (ma_cons (me_dictN (pe_callTy (call_dictP rfl) (by rfl) T.n_dict (by decide +kernel) (ma_cons (me_lst ma_nil) ma_nil))) (ma_cons (me_new (ma_cons me_int ma_nil)) ma_nil))) (by rfl)))
  (mss_one (ms_for (ps_for PassesOwn.never rfl (mi_range (pi_range1 (by rfl) T.n_range (ma_cons me_int ma_nil))) (mg_name (i := 3) sc_law.nd rfl (Or.inl rfl)) (mss_cons (ms_drop (ps_expr (me_call C__law_filled (hr.mono (by decide)) (by rfl) (ma_cons (me_var 2) (ma_cons (me_var 4) (ma_cons (me_var 5) (ma_cons (me_var 6) ma_nil)))) (mcons_len (mcons_len (mcons_len (mcons_len mnil_len)))))))
  (mss_cons (ms_if (mt_not (mt_val (me_call C__law_refused (hr.mono (by decide)) (by rfl) (ma_cons (me_var 4) (ma_cons (me_call C__law_take (hr.mono (by decide)) (by rfl) (ma_cons (me_var 2) (ma_cons me_int ma_nil)) (mcons_len (mcons_len mnil_len))) (ma_cons (me_call C__law_no_keeps (hr.mono (by decide)) (by rfl) (ma_cons (me_var 2) ma_nil) (mcons_len mnil_len)) ma_nil))) (mcons_len (mcons_len (mcons_len mnil_len)))))) (mss_one (ms_ret me_bl)) mss_nil)
  (mss_cons (ms_if (mt_not (mt_val (me_call C__law_alike (hr.mono (by decide)) (by rfl) (ma_cons (me_var 4) (ma_cons (me_var 5) (ma_cons (me_var 6) ma_nil))) (mcons_len (mcons_len (mcons_len mnil_len)))))) (mss_one (ms_ret me_bl)) mss_nil)
  (mss_cons (ms_asg (ps_asg (me_call C__law_fall_right (hr.mono (by decide)) (by rfl) (ma_cons (me_var 2) (ma_cons (me_var 4) (ma_cons (me_var 5) (ma_cons (me_var 6) (ma_cons (me_call C__law_keeps (hr.mono (by decide)) (by rfl) (ma_cons (me_var 2) ma_nil) (mcons_len mnil_len)) ma_nil))))) (mcons_len (mcons_len (mcons_len (mcons_len (mcons_len mnil_len)))))) (mg_name (i := 7) sc_law.nd rfl (Or.inl rfl))))
  (mss_cons (ms_if (mt_cmp od_is (me_var 7) me_non (nomark _)) (mss_one (ms_ret me_bl)) mss_nil)
  (mss_cons (ms_asg (ps_asg (me_call C__law_fall_right (hr.mono (by decide)) (by rfl) (ma_cons (me_var 2) (ma_cons (me_var 4) (ma_cons (me_var 7) (ma_cons (me_var 6) (ma_cons (me_call C__law_keeps (hr.mono (by decide)) (by rfl) (ma_cons (me_var 2) ma_nil) (mcons_len mnil_len)) ma_nil))))) (mcons_len (mcons_len (mcons_len (mcons_len (mcons_len mnil_len)))))) (mg_name (i := 8) sc_law.nd rfl (Or.inl rfl))))
  (mss_cons (ms_if (mt_w (mw_or (mt_cmp od_is (me_var 8) me_non (nomark _)) (mw_or1 (mt_cmpS (od_neDS hr.rg) (me_var 8) (me_var 7) (nomark _))))) (mss_one (ms_ret me_bl)) mss_nil)
  (mss_one (ms_asg (ps_asg (me_var 7) (mg_name (i := 5) sc_law.nd rfl (Or.inl rfl)))))))))))))))))))
  (mss_one (ms_ret me_bl)))
end
end K07

namespace M
open PySem L2
section
variable {ρ : En} {S : Sto} {Q : D × Sto → Prop} {O : Out × Sto → Prop} {f g : EvF} {s1 : StF}
theorem w_forE {sr : SqF} {tg : TgF} : wp (mForE sr tg s1 ρ S) O ↔ wp (sr ρ S) fun x => wp (loopG tg s1 x.1.1 x.1.2 (enuD 0 x.1.1) ρ x.2) O := by unfold mForE; simp only [wp_bind] <;> exact Iff.rfl
theorem w_sE {L : (List D × Option Nat) × Sto → Prop} : wp (sE f ρ S) L ↔ wp (f ρ S) fun x => wp (match x.1 with
  | .lst ds => some ((ds, none), x.2)
  | .ref j => (stLst x.2 j).map fun ds => ((ds, some j), x.2)
  | _ => none) L := by unfold sE; rw [wp_bind] <;> exact Iff.rfl
theorem w_sw : wp (mSw f g ρ S) Q ↔ wp (f ρ S) fun x => wp (match x.1 with
  | .str a => (g ρ x.2).bind fun y => match y.1 with
    | .str b => some (.bl (Txt.startswith a b), y.2)
    | _ => none
  | _ => none) Q := by unfold mSw; rw [wp_bind] <;> exact Iff.rfl
end
/-- a walk of a list that stays, by an invariant -/
theorem wp_loopG {tg : TgF} {gd : StF} {all : List D} {g : Option Nat} {O : Out × Sto → Prop} (W : List D → En → Sto → Prop) (hG : ∀ ds ρ S, W ds ρ S → holdsG g all S) (hd : ∀ ρ S, W [] ρ S → O (.nx ρ, S))
    (hs : ∀ d ds ρ S, W (d :: ds) ρ S → wp (tg ρ d) fun ρ1 => wp (gd ρ1 S) fun x => match x.1 with
      | .nx r => W ds r x.2
      | .ct r => W ds r x.2
      | .bk r => O (.nx r, x.2)
      | .rt v => O (.rt v, x.2)) : ∀ (ds : List D) (ρ : En) (S : Sto), W ds ρ S → wp (loopG tg gd all g ds ρ S) O
  | [], ρ, S, w => by rw [loopG_nil (hG _ _ _ w)]; exact wp_some.mpr (hd ρ S w)
  | d :: ds, ρ, S, w => by
    rw [loopG_cons (hG _ _ _ w), wp_bind]
    refine wp_mono (hs d ds ρ S w) fun ρ1 q => ?_
    rw [wp_bind]
    refine wp_mono q fun x q => ?_
    obtain ⟨x, S1⟩ := x
    cases x with
    | nx r => exact wp_loopG W hG hd hs ds r S1 q
    | ct r => exact wp_loopG W hG hd hs ds r S1 q
    | bk r => exact wp_some.mpr q
    | rt v => exact wp_some.mpr q
end M

namespace K07
open PySem PySem.StrLaws L2 TL M Ln
local macro_rules | `(tactic| walk_at "go") => `(tactic| simp (maxSteps := 100000000) only [w_def, w_var, w_c, w_bin, w_and, w_or, w_bK, w_not, w_if, w_nil, w_cons, w_tup, w_lst, w_new, w_tv, w_tand, w_tor, w_tnot, w_chain, w_call, w_kw, w_cb, w_ix, w_nop, w_p, w_sl, w_neg, w_ms, w_m1, w_d0, w_app, w_ext, w_pop, w_tr, w_newc, w_s1, w_repl, w_mu, w_addn, w_dget, w_din, w_dget2, w_asgs, w_attr, w_xo, w_lx, w_bx, w_none', w_binS, w_islt, w_zf, w_slR, w_forG, w_forE, w_sE, w_sw, w_lcG, w_sq, w_forx, w_gsd, w_fld, w_setF, w_meth, w_xmeth, w_mk, w_ifE, w_del, w_newD0, w_dnin, w_listKI, w_sortK, w_rev, w_dpop, w_xmethK, w_xmethR, w_lstx, w_isx, w_dctn', w_kwR', w_xkwR, w_mulL', w_sr2, len_mk, add_mk, w_sxr, w_xdef, w_xseq, w_xraise, w_xtry, w_qus, w_okf, w_xkw, mxIf, mxCons, mxCallM, mxCall, mxBin, mxTv, mxRet, mxDrop, mxAsg, outX,
  w_ret, w_skip, w_drop, w_asg, w_par, w_ifs, w_seq, w_seti, w_for, w_lc, w_sr, w_sl', w_st, w_ss, w_sz, w_yes, wp_some, wp_none, wp_bind, wp_map, wp_ite,
  List.map_cons, List.map_nil, List.length_cons, List.length_nil, Nat.reduceAdd, Nat.reduceSub, List.replicate_succ, List.replicate_zero, List.cons_append, List.nil_append, List.append_nil,
  List.getElem?_cons_zero, List.getElem?_cons_succ, List.set_cons_zero, List.set_cons_succ, gN, setAll, gT,
  e_addI, e_addT, e_addL, e_subI, e_mulI, e_modI, e_fdvI, e_powI, e_ltI, e_leI, e_gtI, e_geI, e_ltS, e_gtS, e_isB, e_int, e_abs, e_max, e_min, e_lenT, e_lenL, e_lenQ, e_ixT, e_ixL, e_ixQ, e_ixS, e_slT, e_slL, e_slQ, e_listT, e_listL, e_isi, e_eqI, e_eqS, e_neI, e_neS, e_ninS, iI, iB, iS, iT, at0, at1, at2, at3, at4, at5, at6, at7,
  Bool.false_eq_true, if_false, if_true, decide_eq_true_eq, reduceIte, Bool.not_true, Bool.not_false])
theorem wp_eq {α : Type} {o : Option α} {x : α} (h : wp o fun a => a = x) : o = some x := by
  obtain ⟨a, e, rfl⟩ := h
  exact e
/-- what lies in a file: its text, and how many signs are synced -/
abbrev Kvl := List (Key × (List Nat × Nat))
def tD (v : List Nat × Nat) : D := .tup [.str (mk v.1), .int (v.2 : Int)]
def lD (v : List Nat × Nat) : D := .lst [.str (mk v.1), .int (v.2 : Int)]
def vmap (f : List Nat × Nat → D) (L : Kvl) : List (Key × D) := L.map fun kv => (kv.1, f kv.2)
theorem gv_map (f : List Nat × Nat → D) (k : Key) : ∀ L : Kvl, gv (vmap f L) k = (gv L k).map f
  | [] => rfl
  | (j, v) :: L => by
    have ih := gv_map f k L
    unfold vmap gv at ih ⊢
    rw [List.map_cons, List.find?_cons, List.find?_cons]
    by_cases e : j = k
    · simp [e]
    · simp only [e, decide_false]
      exact ih
theorem any_map (f : List Nat × Nat → D) (k : Key) (L : Kvl) : ((vmap f L).any fun kv => decide (kv.1 = k)) = (L.any fun kv => decide (kv.1 = k)) := by
  unfold vmap
  rw [List.any_map]
  rfl
theorem gput_map (f : List Nat × Nat → D) (k : Key) (v : List Nat × Nat) (L : Kvl) : gput (vmap f L) k (f v) = vmap f (gput L k v) := by
  unfold gput
  rw [any_map]
  split
  · unfold vmap
    rw [List.map_map, List.map_map]
    refine List.map_congr_left fun kv _ => ?_
    by_cases e : kv.1 = k
    · simp [e]
    · simp [e]
  · unfold vmap
    rw [List.map_append]
    rfl
def ldrop (L : Kvl) (k : Key) : Kvl := L.filter fun kv => decide (kv.1 ≠ k)
theorem gdrop_map (f : List Nat × Nat → D) (k : Key) (L : Kvl) : gdrop (vmap f L) k = vmap f (ldrop L k) := by
  unfold gdrop vmap ldrop
  rw [List.filter_map]
  rfl
/-- a disk -/
abbrev DkF (jf : Nat) (o : Int) : Fs := [("_files", .ref jf), ("_ops", .int o), ("_power", .non)]
structure Dk (S : Sto) (j jf : Nat) (o : Int) (L : Kvl) : Prop where
  a : S[j]? = some (.ins "Disk" (DkF jf o))
  b : S[jf]? = some (.dct (vmap tD L))
section
variable {S : Sto} {j jf : Nat} {o : Int} {L : Kvl}
theorem get_at {A : Sto} {o : Ob} {B : Sto} : (A ++ o :: B)[A.length]? = some o := by
  rw [List.getElem?_append_right (Nat.le_refl _)]
  simp
theorem e_nonI {i : Int} : eqD .non (.int i) = some (.bl false) := by
  show eqD0 .non (.int i) = _
  unfold eqD0
  rw [toP, toP]
  have h1 : SeqAt.shaped .none = true := by decide +kernel
  have h2 : SeqAt.shaped (.int i) = true := by
    simp only [SeqAt.shaped, PyData.canLay0, PyData.depth]
    rfl
  show (if SeqAt.shaped .none = true ∧ SeqAt.shaped (.int i) = true then some (D.bl (PyData.eqv .none (.int i))) else none) = _
  rw [if_pos ⟨h1, h2⟩, PyData.eqv]
theorem e_isntN : isntD .non .non = some (.bl false) := rfl
theorem lk_f : List.lookup (Str.ofString "_files") (DkF jf o) = some (.ref jf) := rfl
theorem lk_o : List.lookup (Str.ofString "_ops") (DkF jf o) = some (.int o) := rfl
theorem lk_p : List.lookup (Str.ofString "_power") (DkF jf o) = some .non := rfl
theorem lk_m {m : Str} (h : m ∉ ([Str.ofString "_files", Str.ofString "_ops", Str.ofString "_power"] : List Str)) : List.lookup m (DkF jf o) = none := by
  simp at h
  have h1 : (m == Str.ofString "_files") = false := by simpa using h.1
  have h2 : (m == Str.ofString "_ops") = false := by simpa using h.2.1
  have h3 : (m == Str.ofString "_power") = false := by simpa using h.2.2
  simp only [DkF, List.lookup, h1, h2, h3]
theorem put_o {i : Int} : putD (Str.ofString "_ops") (.int i) (DkF jf o) = DkF jf i := rfl
theorem dk_len : (DkF jf o).length < 1000 := by show 3 < 1000; decide
theorem use_power (h : Dk S j jf o L) : m_Disk__use_power [.ref j] S = some (.non, S.set j (.ins "Disk" (DkF jf (o + 1)))) := by
  apply wp_eq
  unfold m_Disk__use_power
  repeat (first | walk_at "go" | simp only [h.a, lk_p, lk_o, e_nonI, e_isntN, dk_len, put_o, and_self, if_true, true_and])
theorem dk_set (h : Dk S j jf o L) (ne : jf ≠ j) : Dk (S.set j (.ins "Disk" (DkF jf (o + 1)))) j jf (o + 1) L :=
  ⟨List.getElem?_set_self (lt_of_get h.a), by rw [List.getElem?_set_ne (fun z => ne z.symm)]; exact h.b⟩
theorem dct_at {kvs : List (Key × D)} (h : S[jf]? = some (.dct kvs)) : dctOf S (.ref jf) = some kvs := by
  show (match S[jf]? with | some (.dct kvs) => some kvs | _ => none) = _
  rw [h]
theorem ops_spec (h : Dk S j jf o L) : m_Disk_ops [.ref j] S = some (.int o, S) := by
  apply wp_eq
  unfold m_Disk_ops
  repeat (first | walk_at "go" | simp only [h.a, lk_o])
theorem names_spec (h : Dk S j jf o L) {xs : List Str} (hk : strsOf (keysD (vmap tD L)) = some xs) (hl : xs.length < 64) : m_Disk_names [.ref j] S = some (.ref S.length, S ++ [.lst ((sortC xs).map .str)]) := by
  apply wp_eq
  unfold m_Disk_names
  repeat (first | walk_at "go" | simp only [h.a, lk_f, dct_at h.b, hk, if_pos hl])
theorem set_at' {A : Sto} {o p : Ob} {B : Sto} : (A ++ o :: B).set A.length p = A ++ p :: B := by
  rw [List.set_append_right _ _ (Nat.le_refl _)]
  simp
theorem init_spec : m_Disk_init [.ref S.length] (S ++ [.ins "Disk" []]) = some (.non, S ++ [.ins "Disk" (DkF (S.length + 1) 0), .dct []]) := by
  apply wp_eq
  unfold m_Disk_init
  walk_at "go"
  have e1 : S ++ [Ob.ins (Str.ofString "Disk") []] ++ [Ob.dct []] = S ++ Ob.ins (Str.ofString "Disk") [] :: [Ob.dct []] := by simp
  have e2 : (S ++ [Ob.ins (Str.ofString "Disk") []]).length = S.length + 1 := by simp
  have p1 : putD (Str.ofString "_files") (.ref (S.length + 1)) [] = [(Str.ofString "_files", .ref (S.length + 1))] := rfl
  have p2 : ∀ a : D, putD (Str.ofString "_ops") (.int 0) [(Str.ofString "_files", a)] = [(Str.ofString "_files", a), (Str.ofString "_ops", .int 0)] := fun _ => rfl
  have p3 : ∀ a b : D, putD (Str.ofString "_power") .non [(Str.ofString "_files", a), (Str.ofString "_ops", b)] = [(Str.ofString "_files", a), (Str.ofString "_ops", b), (Str.ofString "_power", .non)] := fun _ _ => rfl
  have q1 : ([] : Fs).length < 1000 := by decide
  have q2 : ∀ a : Str × D, [a].length < 1000 := fun _ => by show 1 < 1000; decide
  have q3 : ∀ a b : Str × D, [a, b].length < 1000 := fun _ _ => by show 2 < 1000; decide
  rw [e1, e2]
  repeat (first | walk_at "go" | simp only [get_at, set_at', p1, p2, p3, q1, q2, q3, and_self, if_true, true_and, Nat.reduceLT])
end
end K07

namespace K07
open PySem PySem.StrLaws L2 TL M Ln
local macro_rules | `(tactic| walk_at "go") => `(tactic| simp (maxSteps := 100000000) only [w_def, w_var, w_c, w_bin, w_and, w_or, w_bK, w_not, w_if, w_nil, w_cons, w_tup, w_lst, w_new, w_tv, w_tand, w_tor, w_tnot, w_chain, w_call, w_kw, w_cb, w_ix, w_nop, w_p, w_sl, w_neg, w_ms, w_m1, w_d0, w_app, w_ext, w_pop, w_tr, w_newc, w_s1, w_repl, w_mu, w_addn, w_dget, w_din, w_dget2, w_asgs, w_attr, w_xo, w_lx, w_bx, w_none', w_binS, w_islt, w_zf, w_slR, w_forG, w_forE, w_sE, w_sw, w_lcG, w_sq, w_forx, w_gsd, w_fld, w_setF, w_meth, w_xmeth, w_mk, w_ifE, w_del, w_newD0, w_dnin, w_listKI, w_sortK, w_rev, w_dpop, w_xmethK, w_xmethR, w_lstx, w_isx, w_dctn', w_kwR', w_xkwR, w_mulL', w_sr2, len_mk, add_mk, w_sxr, w_xdef, w_xseq, w_xraise, w_xtry, w_qus, w_okf, w_xkw, mxIf, mxCons, mxCallM, mxCall, mxBin, mxTv, mxRet, mxDrop, mxAsg, outX,
  w_ret, w_skip, w_drop, w_asg, w_par, w_ifs, w_seq, w_seti, w_for, w_lc, w_sr, w_sl', w_st, w_ss, w_sz, w_yes, wp_some, wp_none, wp_bind, wp_map, wp_ite,
  List.map_cons, List.map_nil, List.length_cons, List.length_nil, Nat.reduceAdd, Nat.reduceSub, List.replicate_succ, List.replicate_zero, List.cons_append, List.nil_append, List.append_nil,
  List.getElem?_cons_zero, List.getElem?_cons_succ, List.set_cons_zero, List.set_cons_succ, gN, setAll, gT,
  e_addI, e_addT, e_addL, e_subI, e_mulI, e_modI, e_fdvI, e_powI, e_ltI, e_leI, e_gtI, e_geI, e_ltS, e_gtS, e_isB, e_int, e_abs, e_max, e_min, e_lenT, e_lenL, e_lenQ, e_ixT, e_ixL, e_ixQ, e_ixS, e_slT, e_slL, e_slQ, e_listT, e_listL, e_isi, e_eqI, e_eqS, e_neI, e_neS, e_ninS, iI, iB, iS, iT, at0, at1, at2, at3, at4, at5, at6, at7,
  Bool.false_eq_true, if_false, if_true, decide_eq_true_eq, reduceIte, Bool.not_true, Bool.not_false])
section
variable {S : Sto} {l : List Nat} {d : D}
def SG : List Nat := cs ("abcdefghijklmnopqrstuvwxyz0123456789-" : Str)
theorem ksg : ("abcdefghijklmnopqrstuvwxyz0123456789-" : Str) = mk SG := (mk_cs _).symm
def inB (z : List Nat) (l : List Nat) : Bool := l.all fun c => decide (c ∈ z)
theorem mapL_filter {te : EvF} {tt : EtF} {j : Nat} {ρ : En} {p : D → Bool} : ∀ ds : List D, (∀ d ∈ ds, tt (ρ.set j (some d)) S = some (p d, S)) → (∀ d ∈ ds, te (ρ.set j (some d)) S = some (d, S)) → mapL te tt j ρ ds S = some (ds.filter p, S)
  | [], _, _ => rfl
  | d :: ds, h1, h2 => by
    unfold mapL
    rw [h1 d List.mem_cons_self]
    have ih := mapL_filter ds (fun x hx => h1 x (List.mem_cons_of_mem _ hx)) (fun x hx => h2 x (List.mem_cons_of_mem _ hx))
    rw [List.filter_cons]
    show (if p d = true then _ else _) = _
    by_cases e : p d = true
    · rw [if_pos e, if_pos e, h2 d List.mem_cons_self]
      show Option.map _ (mapL te tt j ρ ds S) = _
      rw [ih]
      rfl
    · rw [if_neg e, if_neg e]
      exact ih
theorem blsOf_map : ∀ bs : List Bool, blsOf (bs.map .bl) = some bs
  | [] => rfl
  | b :: bs => by
    show (blsOf (bs.map .bl)).map _ = _
    rw [blsOf_map bs]
    rfl
def sgD (l : List Nat) : List D := l.map fun c => D.str ⟨#[c]⟩
theorem mk_list : (mk l).cps.toList = l := cs_mk l
def nmB (l : List Nat) : Bool := decide (1 ≤ l.length ∧ l.length ≤ 12) && inB SG l
theorem p_name (h : l.length ≤ 1000) : m__is_file_name [.str (mk l)] S = some (.bl (nmB l), S) := by
  apply wp_eq
  unfold m__is_file_name
  simp only [ksg]
  walk_at "go"
  have r : isR2 S [.str (mk l), .ty "str"] = some (.bl true) := rfl
  rw [r]
  walk_at "go"
  rw [mk_list]
  refine itp (by omega) (it2 (fun q => it2 (fun q2 => ?_) fun q2 => ?_) fun q => ?_)
  · have : ¬ l.length ≤ 12 := by simp at q2; omega
    unfold nmB
    rw [decide_eq_false (by omega)]
    rfl
  · have : l.length ≤ 12 := by simp at q2; omega
    have e := mapL_pure (te := mBin inD (mVar 1) (mC (D.str (mk SG)))) (j := 1) (ρ := [some (D.str (mk l)), none]) (S := S) (k := fun x => match x with | .str z => .bl (decide ((cs z).headD 0 ∈ SG)) | x => x) (List.map (fun c => D.str { cps := #[c] }) l) (fun x hx => by
      obtain ⟨c, _, rfl⟩ := List.mem_map.mp hx
      apply wp_eq
      walk_at "go"
      rw [e_inC, cs_mk]
      exact wp_some.mpr rfl)
    refine wp_of e ⟨by simp; omega, ?_⟩
    have e2 : (List.map (fun c => D.str { cps := #[c] }) l).map (fun x => match x with | .str z => D.bl (decide ((cs z).headD 0 ∈ SG)) | x => x) = (l.map fun c => decide (c ∈ SG)).map .bl := by
      rw [List.map_map, List.map_map]
      rfl
    have e3 : allD S [.lst ((l.map fun c => decide (c ∈ SG)).map .bl)] = some (.bl (inB SG l)) := by
      show (blsOf _).map _ = _
      rw [blsOf_map]
      unfold inB
      show some (D.bl ((l.map _).all id)) = _
      rw [List.all_map]
      rfl
    dsimp only
    rw [e2, e3]
    refine wp_some.mpr ?_
    unfold nmB
    rw [decide_eq_true (by omega)]
    rfl
  · unfold nmB
    rw [decide_eq_false (by omega)]
    rfl
end
end K07

namespace K07
open PySem PySem.StrLaws L2 TL M Ln
local macro_rules | `(tactic| walk_at "go") => `(tactic| simp (maxSteps := 100000000) only [w_def, w_var, w_c, w_bin, w_and, w_or, w_bK, w_not, w_if, w_nil, w_cons, w_tup, w_lst, w_new, w_tv, w_tand, w_tor, w_tnot, w_chain, w_call, w_kw, w_cb, w_ix, w_nop, w_p, w_sl, w_neg, w_ms, w_m1, w_d0, w_app, w_ext, w_pop, w_tr, w_newc, w_s1, w_repl, w_mu, w_addn, w_dget, w_din, w_dget2, w_asgs, w_attr, w_xo, w_lx, w_bx, w_none', w_binS, w_islt, w_zf, w_slR, w_forG, w_forE, w_sE, w_sw, w_lcG, w_sq, w_forx, w_gsd, w_fld, w_setF, w_meth, w_xmeth, w_mk, w_ifE, w_del, w_newD0, w_dnin, w_listKI, w_sortK, w_rev, w_dpop, w_xmethK, w_xmethR, w_lstx, w_isx, w_dctn', w_kwR', w_xkwR, w_mulL', w_sr2, len_mk, add_mk, w_sxr, w_xdef, w_xseq, w_xraise, w_xtry, w_qus, w_okf, w_xkw, mxIf, mxCons, mxCallM, mxCall, mxBin, mxTv, mxRet, mxDrop, mxAsg, outX,
  w_ret, w_skip, w_drop, w_asg, w_par, w_ifs, w_seq, w_seti, w_for, w_lc, w_sr, w_sl', w_st, w_ss, w_sz, w_yes, wp_some, wp_none, wp_bind, wp_map, wp_ite,
  List.map_cons, List.map_nil, List.length_cons, List.length_nil, Nat.reduceAdd, Nat.reduceSub, List.replicate_succ, List.replicate_zero, List.cons_append, List.nil_append, List.append_nil,
  List.getElem?_cons_zero, List.getElem?_cons_succ, List.set_cons_zero, List.set_cons_succ, gN, setAll, gT,
  e_addI, e_addT, e_addL, e_subI, e_mulI, e_modI, e_fdvI, e_powI, e_ltI, e_leI, e_gtI, e_geI, e_ltS, e_gtS, e_isB, e_int, e_abs, e_max, e_min, e_lenT, e_lenL, e_lenQ, e_ixT, e_ixL, e_ixQ, e_ixS, e_slT, e_slL, e_slQ, e_listT, e_listL, e_isi, e_eqI, e_eqS, e_neI, e_neS, e_ninS, iI, iB, iS, iT, at0, at1, at2, at3, at4, at5, at6, at7,
  Bool.false_eq_true, if_false, if_true, decide_eq_true_eq, reduceIte, Bool.not_true, Bool.not_false])
section
variable {S : Sto} {l n t : List Nat} {d : D} {j jf : Nat} {o : Int} {L : Kvl}
theorem r_str {x : Str} : isR2 S [.str x, .ty "str"] = some (.bl true) := rfl
theorem k0 : ("" : Str) = mk [] := by decide
theorem p_signs : m_is_signs [.str (mk l)] S = some (.bl (l.all sgn), S) := by
  apply wp_eq
  unfold m_is_signs
  have e := ascii_print (mk l)
  rw [show (mk l).cps.toList = l from cs_mk l] at e
  walk_at "go"
  simp only [r_str]
  walk_at "go"
  refine it2 (fun q => ?_) fun q => ?_
  · rw [← e, q]; rfl
  · have q' : Txt.isascii (mk l) = false := by simpa using q
    rw [← e, q']; rfl
def NoStr (S : Sto) (d : D) : Prop := isR2 S [d, .ty "str"] = some (.bl false)
/-- names, and what is none -/
def NmOk (n : List Nat) : Prop := nmB n = true ∧ n.length ≤ 12
def TxOk (t : List Nat) : Prop := t ≠ [] ∧ True ∧ t.all sgn = true ∧ t.length ≤ 100
theorem ok_name (h : NmOk n) : m__is_file_name [.str (mk n)] S = some (.bl true, S) ∧ True := by
  have := h.2
  exact ⟨by rw [p_name (by omega), h.1], trivial⟩
/-! ### the disk -/
theorem eqE_nil : eqE (.str (mk l)) (.str "") = some (.bl (decide (l = []))) := by
  rw [k0]
  show some (D.bl (decide (mk l = mk []))) = _
  congr 2
  exact decide_eq_decide.mpr mk_inj
theorem key_str : keyOf (.str (mk n)) = some (Sum.inr (mk n)) := rfl
theorem found_none (hk : Dk S j jf o L) (hn : NmOk n) (h : gv L (Sum.inr (mk n)) = none) : m_Disk__found [.ref j, .str (mk n)] S = some (.ex "NoFile" [("name", .str (mk n))], S) := by
  apply wp_eq
  unfold m_Disk__found
  walk_at "go"
  rw [(ok_name hn).1]
  repeat (first | walk_at "go" | simp only [hk.a, lk_f, dct_at hk.b, key_str, gv_map, h, Option.map_none, Option.isSome_none, Bool.not_false, Bool.not_true])
theorem found_ok {v : List Nat × Nat} (hk : Dk S j jf o L) (hn : NmOk n) (h : gv L (Sum.inr (mk n)) = some v) : m_Disk__found [.ref j, .str (mk n)] S = some (.ok (tD v), S) := by
  apply wp_eq
  unfold m_Disk__found
  walk_at "go"
  rw [(ok_name hn).1]
  repeat (first | walk_at "go" | simp only [hk.a, lk_f, dct_at hk.b, key_str, gv_map, h, Option.map_some, Option.isSome_some, Bool.not_false, Bool.not_true])
end
end K07

namespace K07
open PySem PySem.StrLaws L2 TL M Ln
local macro_rules | `(tactic| walk_at "go") => `(tactic| simp (maxSteps := 100000000) only [w_def, w_var, w_c, w_bin, w_and, w_or, w_bK, w_not, w_if, w_nil, w_cons, w_tup, w_lst, w_new, w_tv, w_tand, w_tor, w_tnot, w_chain, w_call, w_kw, w_cb, w_ix, w_nop, w_p, w_sl, w_neg, w_ms, w_m1, w_d0, w_app, w_ext, w_pop, w_tr, w_newc, w_s1, w_repl, w_mu, w_addn, w_dget, w_din, w_dget2, w_asgs, w_attr, w_xo, w_lx, w_bx, w_none', w_binS, w_islt, w_zf, w_slR, w_forG, w_forE, w_sE, w_sw, w_lcG, w_sq, w_forx, w_gsd, w_fld, w_setF, w_meth, w_xmeth, w_mk, w_ifE, w_del, w_newD0, w_dnin, w_listKI, w_sortK, w_rev, w_dpop, w_xmethK, w_xmethR, w_lstx, w_isx, w_dctn', w_kwR', w_xkwR, w_mulL', w_sr2, len_mk, add_mk, w_sxr, w_xdef, w_xseq, w_xraise, w_xtry, w_qus, w_okf, w_xkw, mxIf, mxCons, mxCallM, mxCall, mxBin, mxTv, mxRet, mxDrop, mxAsg, outX,
  w_ret, w_skip, w_drop, w_asg, w_par, w_ifs, w_seq, w_seti, w_for, w_lc, w_sr, w_sl', w_st, w_ss, w_sz, w_yes, wp_some, wp_none, wp_bind, wp_map, wp_ite,
  List.map_cons, List.map_nil, List.length_cons, List.length_nil, Nat.reduceAdd, Nat.reduceSub, List.replicate_succ, List.replicate_zero, List.cons_append, List.nil_append, List.append_nil,
  List.getElem?_cons_zero, List.getElem?_cons_succ, List.set_cons_zero, List.set_cons_succ, gN, setAll, gT,
  e_addI, e_addT, e_addL, e_subI, e_mulI, e_modI, e_fdvI, e_powI, e_ltI, e_leI, e_gtI, e_geI, e_ltS, e_gtS, e_isB, e_int, e_abs, e_max, e_min, e_lenT, e_lenL, e_lenQ, e_ixT, e_ixL, e_ixQ, e_ixS, e_slT, e_slL, e_slQ, e_listT, e_listL, e_isi, e_eqI, e_eqS, e_neI, e_neS, e_ninS, iI, iB, iS, iT, at0, at1, at2, at3, at4, at5, at6, at7,
  Bool.false_eq_true, if_false, if_true, decide_eq_true_eq, reduceIte, Bool.not_true, Bool.not_false])
section
variable {S : Sto} {l n t : List Nat} {d : D} {j jf : Nat} {o : Int} {L : Kvl}
def old (L : Kvl) (n : List Nat) : List Nat × Nat := (gv L (Sum.inr (mk n))).getD ([], 0)
theorem vm_len (f : List Nat × Nat → D) : (vmap f L).length = L.length := List.length_map _
theorem gv_old_t : (gv (vmap tD L) (Sum.inr (mk n))).getD (.tup [.str (Str.ofString ""), .int 0]) = tD (old L n) := by
  rw [gv_map]
  unfold old
  cases gv L (Sum.inr (mk n)) with
  | none => rw [k0]; rfl
  | some v => rfl
theorem gv_old_l : (gv (vmap lD L) (Sum.inr (mk n))).getD (.lst [.str (Str.ofString ""), .int 0]) = lD (old L n) := by
  rw [gv_map]
  unfold old
  cases gv L (Sum.inr (mk n)) with
  | none => rw [k0]; rfl
  | some v => rfl
theorem nm_up : (Str.ofString "_use_power") ∉ ([Str.ofString "_files", Str.ofString "_ops", Str.ofString "_power"] : List Str) := by decide
theorem nm_fd : (Str.ofString "_found") ∉ ([Str.ofString "_files", Str.ofString "_ops", Str.ofString "_power"] : List Str) := by decide
theorem lk_up : List.lookup (Str.ofString "_use_power") (DkF jf o) = none := rfl
theorem lk_fd : List.lookup (Str.ofString "_found") (DkF jf o) = none := rfl
theorem write_ok (hk : Dk S j jf o L) (ne : jf ≠ j) (hn : NmOk n) (ht : TxOk t) (hb : (old L n).1.length ≤ 900000) (hL : L.length < 100000) :
    m_Disk_write [.ref j, .str (mk n), .str (mk t)] S = some (.ok .non, (S.set j (.ins "Disk" (DkF jf (o + 1)))).set jf (.dct (vmap tD (gput L (Sum.inr (mk n)) ((old L n).1 ++ t, (old L n).2))))) := by
  have hk2 := dk_set hk ne
  apply wp_eq
  unfold m_Disk_write
  walk_at "go"
  rw [(ok_name hn).1]
  walk_at "go"
  rw [p_signs, ht.2.2.1]
  walk_at "go"
  rw [eqE_nil, decide_eq_false ht.1]
  walk_at "go"
  rw [hk.a]
  walk_at "go"
  rw [lk_up]
  walk_at "go"
  rw [use_power hk]
  walk_at "go"
  rw [hk2.a]
  walk_at "go"
  rw [lk_f]
  walk_at "go"
  simp only [and_self, if_true, dct_at hk2.b, wp_some, key_str, gv_old_t]
  refine ⟨by decide, ?_⟩
  unfold tD
  simp only [wp_some]
  walk_at "go"
  refine itp (by have := ht.2.2.2; omega) ⟨by decide, ?_⟩
  repeat (first | walk_at "go" | simp only [hk2.a, lk_f, dct_at hk2.b, key_str, and_self, if_true, vm_len])
  refine itp hL ?_
  rw [show (D.tup [D.str (mk ((old L n).1 ++ t)), D.int ((old L n).2 : Int)]) = tD ((old L n).1 ++ t, (old L n).2) from rfl, gput_map]
  rfl
theorem sync_ok {v : List Nat × Nat} (hk : Dk S j jf o L) (ne : jf ≠ j) (hn : NmOk n) (h : gv L (Sum.inr (mk n)) = some v) (hv : v.1.length ≤ 900000) (hL : L.length < 100000) :
    m_Disk_sync [.ref j, .str (mk n)] S = some (.ok .non, (S.set j (.ins "Disk" (DkF jf (o + 1)))).set jf (.dct (vmap tD (gput L (Sum.inr (mk n)) (v.1, v.1.length))))) := by
  have hk2 := dk_set hk ne
  apply wp_eq
  unfold m_Disk_sync
  walk_at "go"
  rw [hk.a]
  walk_at "go"
  simp only [lk_fd, and_self, if_true]
  show wp ((m_Disk__found [.ref j, .str (mk n)] S)) _
  rw [found_ok hk hn h]
  unfold tD
  walk_at "go"
  rw [hk.a]
  walk_at "go"
  simp only [lk_up, and_self, if_true]
  show wp ((m_Disk__use_power [.ref j] S)) _
  rw [use_power hk]
  walk_at "go"
  refine itp (by omega) ⟨by decide, ?_⟩
  repeat (first | walk_at "go" | simp only [hk2.a, lk_f, dct_at hk2.b, key_str, and_self, if_true, vm_len])
  refine itp hL ?_
  have e := gput_map tD (Sum.inr (mk n)) (v.1, v.1.length) L
  unfold tD at e
  rw [show (fun v : List Nat × Nat => D.tup [D.str (mk v.1), D.int (v.2 : Int)]) = tD from rfl] at e ⊢
  rw [show (D.tup [D.str (mk v.1), D.int (v.1.length : Int)]) = tD (v.1, v.1.length) from rfl, gput_map]
theorem read_ok {v : List Nat × Nat} (hk : Dk S j jf o L) (hn : NmOk n) (h : gv L (Sum.inr (mk n)) = some v) : m_Disk_read [.ref j, .str (mk n)] S = some (.ok (.str (mk v.1)), S) := by
  apply wp_eq
  unfold m_Disk_read
  walk_at "go"
  rw [hk.a]
  walk_at "go"
  simp only [lk_fd, and_self, if_true]
  show wp ((m_Disk__found [.ref j, .str (mk n)] S)) _
  rw [found_ok hk hn h]
  unfold tD
  walk_at "go"
theorem synced_ok {v : List Nat × Nat} (hk : Dk S j jf o L) (hn : NmOk n) (h : gv L (Sum.inr (mk n)) = some v) : m_Disk_synced [.ref j, .str (mk n)] S = some (.ok (.int (v.2 : Int)), S) := by
  apply wp_eq
  unfold m_Disk_synced
  walk_at "go"
  rw [hk.a]
  walk_at "go"
  simp only [lk_fd, and_self, if_true]
  show wp ((m_Disk__found [.ref j, .str (mk n)] S)) _
  rw [found_ok hk hn h]
  unfold tD
  walk_at "go"
end
end K07

namespace K07
open PySem PySem.StrLaws L2 TL M Ln
local macro_rules | `(tactic| walk_at "go") => `(tactic| simp (maxSteps := 100000000) only [w_def, w_var, w_c, w_bin, w_and, w_or, w_bK, w_not, w_if, w_nil, w_cons, w_tup, w_lst, w_new, w_tv, w_tand, w_tor, w_tnot, w_chain, w_call, w_kw, w_cb, w_ix, w_nop, w_p, w_sl, w_neg, w_ms, w_m1, w_d0, w_app, w_ext, w_pop, w_tr, w_newc, w_s1, w_repl, w_mu, w_addn, w_dget, w_din, w_dget2, w_asgs, w_attr, w_xo, w_lx, w_bx, w_none', w_binS, w_islt, w_zf, w_slR, w_forG, w_forE, w_sE, w_sw, w_lcG, w_sq, w_forx, w_gsd, w_fld, w_setF, w_meth, w_xmeth, w_mk, w_ifE, w_del, w_newD0, w_dnin, w_listKI, w_sortK, w_rev, w_dpop, w_xmethK, w_xmethR, w_lstx, w_isx, w_dctn', w_kwR', w_xkwR, w_mulL', w_sr2, len_mk, add_mk, w_sxr, w_xdef, w_xseq, w_xraise, w_xtry, w_qus, w_okf, w_xkw, mxIf, mxCons, mxCallM, mxCall, mxBin, mxTv, mxRet, mxDrop, mxAsg, outX,
  w_ret, w_skip, w_drop, w_asg, w_par, w_ifs, w_seq, w_seti, w_for, w_lc, w_sr, w_sl', w_st, w_ss, w_sz, w_yes, wp_some, wp_none, wp_bind, wp_map, wp_ite,
  List.map_cons, List.map_nil, List.length_cons, List.length_nil, Nat.reduceAdd, Nat.reduceSub, List.replicate_succ, List.replicate_zero, List.cons_append, List.nil_append, List.append_nil,
  List.getElem?_cons_zero, List.getElem?_cons_succ, List.set_cons_zero, List.set_cons_succ, gN, setAll, gT,
  e_addI, e_addT, e_addL, e_subI, e_mulI, e_modI, e_fdvI, e_powI, e_ltI, e_leI, e_gtI, e_geI, e_ltS, e_gtS, e_isB, e_int, e_abs, e_max, e_min, e_lenT, e_lenL, e_lenQ, e_ixT, e_ixL, e_ixQ, e_ixS, e_slT, e_slL, e_slQ, e_listT, e_listL, e_isi, e_eqI, e_eqS, e_neI, e_neS, e_ninS, iI, iB, iS, iT, at0, at1, at2, at3, at4, at5, at6, at7,
  Bool.false_eq_true, if_false, if_true, decide_eq_true_eq, reduceIte, Bool.not_true, Bool.not_false])
/-! ### what repr shows -/
def Fd (S : Sto) (d : D) (k b : Nat) : Prop := ∃ p, toQS S d = some p ∧ p.showable = true ∧ p.leavesShort 50 = true ∧ p.depth ≤ k ∧ p.bulk ≤ b
def FdA (S : Sto) (ds : List D) (k b : Nat) : Prop := ∃ ps, toQSA S ds = some ps ∧ PyData.showableAll ps = true ∧ PyData.leavesShortAll 50 ps = true ∧ PyData.depthAll ps ≤ k ∧ PyData.bulkAll ps ≤ b
section
variable {S : Sto} {d : D} {ds : List D} {k a b : Nat} {l : List Nat}
theorem fdA_nil : FdA S [] k b := ⟨[], by rw [toQSA], by rw [PyData.showableAll], by rw [PyData.leavesShortAll], by rw [PyData.depthAll]; omega, by rw [PyData.bulkAll]; omega⟩
theorem fdA_cons (h : Fd S d k a) (t : FdA S ds k b) : FdA S (d :: ds) k (a + b + 1) := by
  obtain ⟨p, h1, h2, h3, h4, h5⟩ := h
  obtain ⟨ps, t1, t2, t3, t4, t5⟩ := t
  refine ⟨p :: ps, by rw [toQSA, h1, t1]; rfl, by rw [PyData.showableAll, h2, t2]; rfl, by rw [PyData.leavesShortAll, h3, t3]; rfl, by rw [PyData.depthAll]; omega, by rw [PyData.bulkAll]; omega⟩
theorem fd_lst (h : FdA S ds k b) : Fd S (.lst ds) (k + 1) b := by
  obtain ⟨ps, t1, t2, t3, t4, t5⟩ := h
  refine ⟨.list ps, by rw [toQS, t1]; rfl, by rw [PyData.showable, t2], by rw [PyData.leavesShort, t3], by rw [PyData.depth]; omega, by rw [PyData.bulk]; omega⟩
theorem fd_tup (h : FdA S ds k b) : Fd S (.tup ds) (k + 1) b := by
  obtain ⟨ps, t1, t2, t3, t4, t5⟩ := h
  refine ⟨.tuple ps, by rw [toQS, t1]; rfl, by rw [PyData.showable, t2], by rw [PyData.leavesShort, t3], by rw [PyData.depth]; omega, by rw [PyData.bulk]; omega⟩
theorem fd_str (h : l.length ≤ b) (hc : ∀ c ∈ l, c < 128) : Fd S (.str (mk l)) k b := by
  refine ⟨.str (mk l), by rw [toQS], by rw [PyData.showable], ?_, by rw [PyData.depth]; omega, ?_⟩
  · rw [PyData.leavesShort, show (mk l).cps.toList = l from cs_mk l, List.all_eq_true]
    intro c m
    have := hc c m
    simp
    omega
  · rw [PyData.bulk]
    have e : (mk l).cps.size = l.length := mk_len l
    rw [e]; exact h
theorem fd_non : Fd S .non k b := ⟨.none, by rw [toQS], by rw [PyData.showable], by rw [PyData.leavesShort], by rw [PyData.depth]; omega, by rw [PyData.bulk]; omega⟩
theorem fd_bl {c : Bool} : Fd S (.bl c) k b := ⟨.bool c, by rw [toQS], by rw [PyData.showable], by rw [PyData.leavesShort], by rw [PyData.depth]; omega, by rw [PyData.bulk]; omega⟩
theorem fd_mono {k' b' : Nat} (h : Fd S d k b) (h1 : k ≤ k') (h2 : b ≤ b') : Fd S d k' b' := by
  obtain ⟨p, q1, q2, q3, q4, q5⟩ := h
  exact ⟨p, q1, q2, q3, Nat.le_trans q4 h1, Nat.le_trans q5 h2⟩
theorem fdA_mono {k' b' : Nat} (h : FdA S ds k b) (h1 : k ≤ k') (h2 : b ≤ b') : FdA S ds k' b' := by
  obtain ⟨p, q1, q2, q3, q4, q5⟩ := h
  exact ⟨p, q1, q2, q3, Nat.le_trans q4 h1, Nat.le_trans q5 h2⟩
theorem fdA_app {es : List D} (h : FdA S ds k a) (t : FdA S es k b) : FdA S (ds ++ es) k (a + b) := by
  induction ds generalizing a with
  | nil => exact fdA_mono t (Nat.le_refl _) (by omega)
  | cons x xs ih =>
    obtain ⟨ps, t1, t2, t3, t4, t5⟩ := h
    rw [toQSA] at t1
    cases e1 : toQS S x with
    | none => rw [e1] at t1; cases t1
    | some p =>
      cases e2 : toQSA S xs with
      | none => rw [e1, e2] at t1; cases t1
      | some qs =>
        rw [e1, e2] at t1
        cases t1
        rw [PyData.showableAll, Bool.and_eq_true] at t2
        rw [PyData.leavesShortAll, Bool.and_eq_true] at t3
        rw [PyData.depthAll] at t4
        rw [PyData.bulkAll] at t5
        have i := ih (a := PyData.bulkAll qs) ⟨qs, e2, t2.2, t3.2, by omega, Nat.le_refl _⟩
        exact fdA_mono (fdA_cons (a := p.bulk) ⟨p, e1, t2.1, t3.1, by omega, Nat.le_refl _⟩ i) (Nat.le_refl _) (by omega)
theorem e_repr (h : Fd S d 60 100000) : ∃ x, reprS S [d] = some (.str x) := by
  obtain ⟨p, h1, h2, h3, h4, h5⟩ := h
  refine ⟨p.shown, ?_⟩
  show (toQS S d).bind _ = _
  rw [h1]
  show (if _ then _ else _) = _
  rw [if_pos]
  left
  unfold fitB
  rw [h2, h3, decide_eq_true h4, decide_eq_true h5]
  rfl
theorem fd_int {i : Int} (h : i.natAbs.log2 < 1920) (h2 : (PyData.int i).shown.length ≤ 50) : Fd S (.int i) k b := ⟨.int i, by rw [toQS], by rw [PyData.showable, decide_eq_true h], by rw [PyData.leavesShort, decide_eq_true h2], by rw [PyData.depth]; omega, by rw [PyData.bulk]; omega⟩
end
section
variable {S : Sto} {l : List Nat} {d v : D} {i : Nat}
theorem isR_ls {j : Nat} {xs : List D} {n : String} (h : S[j]? = some (.lst xs)) : isR2 S [.ref j, .ty n] = (isiD (.lst []) n).map .bl := by
  show (match S[j]? with | some (.lst _) => (isiD (.lst []) n).map D.bl | some (.dct _) => (isiD (.dct []) n).map D.bl | _ => none) = _
  rw [h]
theorem ix_l0' {a b : D} : ixD S (.lst [a, b]) (.int 0) = some a := rfl
theorem ix_l1' {a b : D} : ixD S (.lst [a, b]) (.int 1) = some b := rfl
theorem eqE_s {a b : Str} : eqE (.str a) (.str b) = some (.bl (decide (a = b))) := rfl
end
section
variable {S : Sto} {jc : Nat} {o : Int}
theorem ix_c (h : S[jc]? = some (.lst [.int o])) : ixD S (.ref jc) (.int 0) = some (.int o) := by simp only [ixD, h]; rfl
theorem st_c {v : D} (h : S[jc]? = some (.lst [.int o])) : stSet S jc 0 v = some (S.set jc (.lst [v])) := by simp only [stSet, h]; rfl
theorem ib {b : Bool} : intD S [.bl b] = some (.int (if b then 1 else 0)) := rfl
end
section
variable {S : Sto} {d : D} {L : Kvl}
theorem fd_sm {i : Int} {k b : Nat} (h : i.natAbs < 10 ^ 40) : Fd S (.int i) k b := fd_int (int_small h).2 (int_small h).1
theorem fd_lst2 {a b : D} {k x y : Nat} (ha : Fd S a k x) (hb : Fd S b k y) : Fd S (.lst [a, b]) (k + 1) (x + y + 2) := fd_mono (fd_lst (fdA_cons ha (fdA_cons hb (fdA_nil (b := 0))))) (Nat.le_refl _) (by omega)
theorem toPS_ls {d : D} {as : List (List Nat)} (h : lsOf S d = some (strsD as)) : toPS S d = some (.list (as.map fun l => PyData.str (mk l))) := by
  cases d <;> try (cases h)
  · rw [toPS, toPSA_strs]; rfl
  · rename_i j
    rw [toPS]
    have h' : stLst S j = some (strsD as) := h
    rw [h']
    show Option.map PyData.list (toPA (strsD as)) = _
    rw [toPA_strs]
    rfl
theorem ne_ls {c d : D} {as bs : List (List Nat)} (h : lsOf S c = some (strsD as)) (h' : lsOf S d = some (strsD bs)) (ha : ∀ l ∈ as, l.all sgn = true) (hb : ∀ l ∈ bs, l.all sgn = true) : neS S c d = some (.bl (!decide (as = bs))) := by
  unfold neS
  rw [toPS_ls h, toPS_ls h']
  show (if _ then _ else _) = _
  rw [if_pos ⟨shaped_strs ha, shaped_strs hb⟩, PyData.eqv, eqvA_strs]
theorem eq_ls {c d : D} {as bs : List (List Nat)} (h : lsOf S c = some (strsD as)) (h' : lsOf S d = some (strsD bs)) (ha : ∀ l ∈ as, l.all sgn = true) (hb : ∀ l ∈ bs, l.all sgn = true) : eqS S c d = some (.bl (decide (as = bs))) := by
  unfold eqS
  rw [toPS_ls h, toPS_ls h']
  show (if _ then _ else _) = _
  rw [if_pos ⟨shaped_strs ha, shaped_strs hb⟩, PyData.eqv, eqvA_strs]
theorem keys_eq (f g : List Nat × Nat → D) : keysD (vmap f L) = keysD (vmap g L) := by
  unfold keysD vmap
  rw [List.map_map, List.map_map]
  rfl
theorem fd_v {v : List Nat × Nat} (h : v.1.length ≤ 50000) (hc : ∀ c ∈ v.1, c < 128) (h2 : v.2 ≤ 50000) : Fd S (.lst [.str (mk v.1), .int (v.2 : Int)]) 60 100000 ∧ Fd S (.lst [.int (v.2 : Int), .str (mk v.1)]) 60 100000 := by
  have f1 : Fd S (.str (mk v.1)) 0 50000 := fd_str h hc
  have f2 : Fd S (.int (v.2 : Int)) 0 0 := fd_sm (by have e : ((v.2 : Int)).natAbs = v.2 := Int.natAbs_natCast _; rw [e]; exact Nat.lt_of_le_of_lt h2 (by decide))
  exact ⟨fd_mono (fd_lst2 f1 f2) (by decide) (by decide), fd_mono (fd_lst2 f2 f1) (by decide) (by decide)⟩
end
end K07

namespace K07
open PySem PySem.StrLaws L2 TL M Ln
local macro_rules | `(tactic| walk_at "go") => `(tactic| simp (maxSteps := 100000000) only [w_def, w_var, w_c, w_bin, w_and, w_or, w_bK, w_not, w_if, w_nil, w_cons, w_tup, w_lst, w_new, w_tv, w_tand, w_tor, w_tnot, w_chain, w_call, w_kw, w_cb, w_ix, w_nop, w_p, w_sl, w_neg, w_ms, w_m1, w_d0, w_app, w_ext, w_pop, w_tr, w_newc, w_s1, w_repl, w_mu, w_addn, w_dget, w_din, w_dget2, w_asgs, w_attr, w_xo, w_lx, w_bx, w_none', w_binS, w_islt, w_zf, w_slR, w_forG, w_forE, w_sE, w_sw, w_lcG, w_sq, w_forx, w_gsd, w_fld, w_setF, w_meth, w_xmeth, w_mk, w_ifE, w_del, w_newD0, w_dnin, w_listKI, w_sortK, w_rev, w_dpop, w_xmethK, w_xmethR, w_lstx, w_isx, w_dctn', w_kwR', w_xkwR, w_mulL', w_sr2, len_mk, add_mk, w_sxr, w_xdef, w_xseq, w_xraise, w_xtry, w_qus, w_okf, w_xkw, mxIf, mxCons, mxCallM, mxCall, mxBin, mxTv, mxRet, mxDrop, mxAsg, outX,
  w_ret, w_skip, w_drop, w_asg, w_par, w_ifs, w_seq, w_seti, w_for, w_lc, w_sr, w_sl', w_st, w_ss, w_sz, w_yes, wp_some, wp_none, wp_bind, wp_map, wp_ite,
  List.map_cons, List.map_nil, List.length_cons, List.length_nil, Nat.reduceAdd, Nat.reduceSub, List.replicate_succ, List.replicate_zero, List.cons_append, List.nil_append, List.append_nil,
  List.getElem?_cons_zero, List.getElem?_cons_succ, List.set_cons_zero, List.set_cons_succ, gN, setAll, gT,
  e_addI, e_addT, e_addL, e_subI, e_mulI, e_modI, e_fdvI, e_powI, e_ltI, e_leI, e_gtI, e_geI, e_ltS, e_gtS, e_isB, e_int, e_abs, e_max, e_min, e_lenT, e_lenL, e_lenQ, e_ixT, e_ixL, e_ixQ, e_ixS, e_slT, e_slL, e_slQ, e_listT, e_listL, e_isi, e_eqI, e_eqS, e_neI, e_neS, e_ninS, iI, iB, iS, iT, at0, at1, at2, at3, at4, at5, at6, at7,
  Bool.false_eq_true, if_false, if_true, decide_eq_true_eq, reduceIte, Bool.not_true, Bool.not_false])
section
variable {S : Sto} {l n t : List Nat} {d x : D} {j jf jd jc : Nat} {o : Int} {L : Kvl}
/-- a disk, and the law's own account of it -/
structure Pr (S : Sto) (j jf jd jc : Nat) (o : Int) (L : Kvl) : Prop where
  dk : Dk S j jf o L
  d : S[jd]? = some (.dct (vmap lD L))
  c : S[jc]? = some (.lst [.int o])
theorem Pr.ext {G : Sto} (h : Pr S j jf jd jc o L) : Pr (S ++ G) j jf jd jc o L :=
  ⟨⟨by rw [List.getElem?_append_left (lt_of_get h.dk.a)]; exact h.dk.a, by rw [List.getElem?_append_left (lt_of_get h.dk.b)]; exact h.dk.b⟩, by rw [List.getElem?_append_left (lt_of_get h.d)]; exact h.d, by rw [List.getElem?_append_left (lt_of_get h.c)]; exact h.c⟩
/-- what is right of the list of files -/
structure Lk (L : Kvl) (B : Nat) : Prop where
  nm : ∀ kv ∈ L, ∃ n, kv.1 = Sum.inr (mk n) ∧ NmOk n
  tx : ∀ kv ∈ L, kv.2.1.length ≤ B ∧ (∀ c ∈ kv.2.1, c < 128) ∧ kv.2.2 ≤ kv.2.1.length
  nd : (L.map (·.1)).Nodup
theorem keys_t (f : List Nat × Nat → D) (h : ∀ kv ∈ L, ∃ n, kv.1 = Sum.inr (mk n) ∧ NmOk n) : ∃ xs : List Str, strsOf (keysD (vmap f L)) = some xs ∧ keysD (vmap f L) = xs.map .str ∧ xs.length = L.length ∧ ∀ x ∈ xs, ∃ n v, x = mk n ∧ NmOk n ∧ gv L (Sum.inr (mk n)) = some v := by
  induction L with
  | nil => exact ⟨[], rfl, rfl, rfl, fun _ m => by cases m⟩
  | cons kv L ih =>
    obtain ⟨xs, h1, h2, h3, h4⟩ := ih fun kv m => h kv (List.mem_cons_of_mem _ m)
    obtain ⟨n, hn, ho⟩ := h kv List.mem_cons_self
    obtain ⟨k, v⟩ := kv
    have hk : k = Sum.inr (mk n) := hn
    subst hk
    refine ⟨mk n :: xs, ?_, ?_, by rw [List.length_cons, List.length_cons, h3], fun x m => ?_⟩
    · show (strsOf (keysD (vmap f L))).map _ = _
      rw [h1]
      rfl
    · show D.str (mk n) :: keysD (vmap f L) = _
      rw [h2]
      rfl
    · rcases List.mem_cons.mp m with rfl | m
      · exact ⟨n, v, rfl, ho, by simp [gv, List.find?_cons]⟩
      · obtain ⟨n', v', e1, e2, e3⟩ := h4 x m
        by_cases e : Sum.inr (mk n) = (Sum.inr (mk n') : Key)
        · exact ⟨n', v, e1, e2, by simp [gv, List.find?_cons, e]⟩
        · refine ⟨n', v', e1, e2, ?_⟩
          unfold gv at e3 ⊢
          rw [List.find?_cons, decide_eq_false e]
          exact e3
theorem sort_mem {xs : List Str} {x : Str} (m : x ∈ sortC xs) : x ∈ xs := (List.mergeSort_perm xs leS).mem_iff.mp m
theorem sort_len (xs : List Str) : (sortC xs).length = xs.length := (List.mergeSort_perm xs leS).length_eq
theorem gv_mem {k : Key} {v : List Nat × Nat} (h : gv L k = some v) : ∃ kv ∈ L, kv.2 = v := by
  unfold gv at h
  obtain ⟨kv, h1, h2⟩ := Option.map_eq_some_iff.mp h
  exact ⟨kv, List.mem_of_find?_eq_some h1, h2⟩
end
end K07

namespace K07
open PySem PySem.StrLaws L2 TL M Ln
local macro_rules | `(tactic| walk_at "go") => `(tactic| simp (maxSteps := 100000000) only [w_def, w_var, w_c, w_bin, w_and, w_or, w_bK, w_not, w_if, w_nil, w_cons, w_tup, w_lst, w_new, w_tv, w_tand, w_tor, w_tnot, w_chain, w_call, w_kw, w_cb, w_ix, w_nop, w_p, w_sl, w_neg, w_ms, w_m1, w_d0, w_app, w_ext, w_pop, w_tr, w_newc, w_s1, w_repl, w_mu, w_addn, w_dget, w_din, w_dget2, w_asgs, w_attr, w_xo, w_lx, w_bx, w_none', w_binS, w_islt, w_zf, w_slR, w_forG, w_forE, w_sE, w_sw, w_lcG, w_sq, w_forx, w_gsd, w_fld, w_setF, w_meth, w_xmeth, w_mk, w_ifE, w_del, w_newD0, w_dnin, w_listKI, w_sortK, w_rev, w_dpop, w_xmethK, w_xmethR, w_lstx, w_isx, w_dctn', w_kwR', w_xkwR, w_mulL', w_sr2, len_mk, add_mk, w_sxr, w_xdef, w_xseq, w_xraise, w_xtry, w_qus, w_okf, w_xkw, mxIf, mxCons, mxCallM, mxCall, mxBin, mxTv, mxRet, mxDrop, mxAsg, outX,
  w_ret, w_skip, w_drop, w_asg, w_par, w_ifs, w_seq, w_seti, w_for, w_lc, w_sr, w_sl', w_st, w_ss, w_sz, w_yes, wp_some, wp_none, wp_bind, wp_map, wp_ite,
  List.map_cons, List.map_nil, List.length_cons, List.length_nil, Nat.reduceAdd, Nat.reduceSub, List.replicate_succ, List.replicate_zero, List.cons_append, List.nil_append, List.append_nil,
  List.getElem?_cons_zero, List.getElem?_cons_succ, List.set_cons_zero, List.set_cons_succ, gN, setAll, gT,
  e_addI, e_addT, e_addL, e_subI, e_mulI, e_modI, e_fdvI, e_powI, e_ltI, e_leI, e_gtI, e_geI, e_ltS, e_gtS, e_isB, e_int, e_abs, e_max, e_min, e_lenT, e_lenL, e_lenQ, e_ixT, e_ixL, e_ixQ, e_ixS, e_slT, e_slL, e_slQ, e_listT, e_listL, e_isi, e_eqI, e_eqS, e_neI, e_neS, e_ninS, iI, iB, iS, iT, at0, at1, at2, at3, at4, at5, at6, at7,
  Bool.false_eq_true, if_false, if_true, decide_eq_true_eq, reduceIte, Bool.not_true, Bool.not_false])
/-! ### draws -/
/-- a box: what is left of a great cell, whether it is one, the rest of it, how many draws were mixed -/
def Bx (S : Sto) (j : Nat) (n : Int) : Prop := ∃ g f c d, S[j]? = some (.lst [.int g, .bl f, .int c, .int d]) ∧ 0 ≤ c ∧ c < 2147483629 ∧ 0 ≤ d ∧ d ≤ n
theorem Bx.mono {S : Sto} {j : Nat} {n m : Int} (h : Bx S j n) (l : n ≤ m) : Bx S j m := by
  obtain ⟨g, f, c, d, h1, h2, h3, h4, h5⟩ := h
  exact ⟨g, f, c, d, h1, h2, h3, h4, Int.le_trans h5 l⟩
section
variable {S : Sto} {j : Nat} {a b c d x : D}
theorem ix0 (h : S[j]? = some (.lst [a, b, c, d])) : ixD S (.ref j) (.int 0) = some a := by simp only [ixD, h]; rfl
theorem ix1 (h : S[j]? = some (.lst [a, b, c, d])) : ixD S (.ref j) (.int 1) = some b := by simp only [ixD, h]; rfl
theorem ix2 (h : S[j]? = some (.lst [a, b, c, d])) : ixD S (.ref j) (.int 2) = some c := by simp only [ixD, h]; rfl
theorem ix3 (h : S[j]? = some (.lst [a, b, c, d])) : ixD S (.ref j) (.int 3) = some d := by simp only [ixD, h]; rfl
theorem st0 (h : S[j]? = some (.lst [a, b, c, d])) : stSet S j 0 x = some (S.set j (.lst [x, b, c, d])) := by simp only [stSet, h]; rfl
theorem st3 (h : S[j]? = some (.lst [a, b, c, d])) : stSet S j 3 x = some (S.set j (.lst [a, b, c, x])) := by simp only [stSet, h]; rfl
theorem set_at {o : Ob} (h : S[j]? = some (.lst [a, b, c, d])) : (S.set j o)[j]? = some o := List.getElem?_set_self (lt_of_get h)
end

/-- only the box has changed -/
structure BO (j : Nat) (S S' : Sto) : Prop where
  len : S'.length = S.length
  at_ : ∀ i, i ≠ j → S'[i]? = S[i]?
theorem BO.set {j : Nat} {S : Sto} {o : Ob} : BO j S (S.set j o) := ⟨by simp, fun i h => List.getElem?_set_ne (fun z => h z.symm)⟩
theorem BO.setset {j : Nat} {S : Sto} {o p : Ob} : BO j S ((S.set j o).set j p) := ⟨by simp, fun i h => by rw [List.getElem?_set_ne (fun z => h z.symm), List.getElem?_set_ne (fun z => h z.symm)]⟩
theorem BO.refl {j : Nat} {S : Sto} : BO j S S := ⟨rfl, fun _ _ => rfl⟩
theorem BO.trans {j : Nat} {S S' S2 : Sto} (a : BO j S S') (b : BO j S' S2) : BO j S S2 := ⟨b.len.trans a.len, fun i h => (b.at_ i h).trans (a.at_ i h)⟩
theorem take_spec2 {S : Sto} {j : Nat} {n m : Int} {Q : D × Sto → Prop} (B : Bx S j n) (hm : 0 < m) (hm2 : m < 1000000) (hn : n ≤ 1000000000) (h : ∀ r S', 0 ≤ r → r < m → Bx S' j (n + 1) → BO j S S' → Q (.int r, S')) : wp (m__law_take [.ref j, .int m] S) Q := by
  obtain ⟨g, f, c, d, hS, c0, c1, d0, d1⟩ := B
  have hS2 : ∀ o, (S.set j o)[j]? = some o := fun o => set_at hS
  have i2 : ∀ x y z w, ixD (S.set j (.lst [x, y, z, w])) (.ref j) (.int 2) = some z := fun x y z w => ix2 (hS2 _)
  have i3 : ∀ x y z w, ixD (S.set j (.lst [x, y, z, w])) (.ref j) (.int 3) = some w := fun x y z w => ix3 (hS2 _)
  by_cases fg : f = true ∧ 0 < g
  · obtain ⟨rfl, g0⟩ := fg
    unfold m__law_take
    repeat (first | walk_at "go" | simp only [ix0 hS, ix1 hS, ix2 hS, ix3 hS, st0 hS, st3 hS, hS2, if_pos g0])
    refine itp hm (itp ⟨hm, by omega⟩ ?_)
    exact h _ _ (Int.emod_nonneg _ (by omega)) (Int.emod_lt_of_pos _ hm) ⟨_, _, c, d, hS2 _, c0, c1, d0, by omega⟩ BO.set
  · have key : ∀ (O : Out × Sto → Prop) (t : EtF) (s1 s2 : StF) (ρ : En), (∀ B : Bool × Sto → Prop, B (false, S) → wp (t ρ S) B) → wp (s2 ρ S) O → wp (mIfS t s1 s2 ρ S) O := by
      intro O t s1 s2 ρ h1 h2
      rw [w_ifs]
      exact h1 _ (itn (by simp) h2)
    unfold m__law_take
    rw [w_def, w_seq]
    refine key _ _ _ _ _ (fun B hB => ?_) ?_
    · repeat (first | walk_at "go" | simp only [ix0 hS, ix1 hS, ix2 hS, ix3 hS, st0 hS, st3 hS, hS2])
      cases f with
      | false => exact itn (by simp) hB
      | true =>
        have : ¬ 0 < g := fun q => fg ⟨rfl, q⟩
        refine itp rfl ?_
        rw [decide_eq_false this]
        exact hB
    · repeat (first | walk_at "go" | simp only [i2, i3, ix0 hS, ix1 hS, ix2 hS, ix3 hS, st0 hS, st3 hS, hS2])
      refine itp (.inl (by decide)) (itp ⟨by decide, by decide, by omega⟩ (itp (by decide) ?_))
      refine itp (.inr (by decide)) ?_
      repeat (first | walk_at "go" | simp only [i2, i3, ix0 hS, ix1 hS, ix2 hS, ix3 hS, st0 hS, st3 hS, hS2])
      refine itp (.inl (by decide)) ?_
      generalize hx : (c + 15485927 * (d + 1) + 179424691) ^ (5 : Int).toNat % 2147483647 = x
      have x0 : 0 ≤ x := by rw [← hx]; exact Int.emod_nonneg _ (by decide)
      have x1 : x < 2147483647 := by rw [← hx]; exact Int.emod_lt_of_pos _ (by decide)
      refine itp ⟨by decide, by decide, by omega⟩ (itp (by decide) (itp ⟨by decide, by decide⟩ (itp hm ?_)))
      exact h _ _ (Int.emod_nonneg _ (by omega)) (Int.emod_lt_of_pos _ hm) ⟨g, f, c, d + 1, hS2 _, c0, c1, by omega, by omega⟩ BO.set

section
variable {S : Sto} {j : Nat} {n : Int}
theorem intsOf_map : ∀ ns : List Int, intsOf (ns.map .int) = some ns
  | [] => rfl
  | n :: ns => by
    show (intsOf (ns.map .int)).map _ = _
    rw [intsOf_map ns]
    rfl
theorem cut_map {α β : Type} {f : α → β} {xs : List α} {lo hi : Option Int} : cut (xs.map f) lo hi = (cut xs lo hi).map f := by
  unfold cut
  rw [List.length_map, List.map_take, List.map_drop]
theorem cell_spec {ns : List Int} {k : Int} {Q : D × Sto → Prop} (k0 : 0 ≤ k) (h : ∀ r, Q (.int r, S)) : wp (m__law_cell [.seq (ns.map .int), .int k] S) Q := by
  unfold m__law_cell
  walk_at "go"
  rw [List.length_map]
  refine it2 (fun q => wp_at k0 (by simpa using q) fun d hd => ?_) fun q => itp (.inl (by decide)) ?_
  · obtain ⟨r, _, rfl⟩ := List.mem_map.mp hd
    exact h r
  · rw [cut_map]
    have e : sumD S [.lst ((cut ns none (some 1)).map .int)] = some (.int (cut ns none (some 1)).sum) := by
      show (intsOf _).map _ = _
      rw [intsOf_map]
      rfl
    rw [e]
    walk_at "go"
    exact itp (by decide) (h _)

theorem box_spec {g : Int} {Q : D × Sto → Prop} (h : ∀ o, Bx (S ++ [o]) S.length 0 → Q (.ref S.length, S ++ [o])) : wp (m__law_box [.int g] S) Q := by
  unfold m__law_box
  walk_at "go"
  refine itp (by decide) (itp (by decide) ⟨by decide, ?_⟩)
  have e : ∀ o : Ob, (S ++ [o])[S.length]? = some o := fun o => by
    rw [List.getElem?_append_right (Nat.le_refl _)]
    simp
  exact h _ ⟨(if g < 0 then -g else g), decide (10 ^ Int.toNat 18 ≤ if g < 0 then -g else g), (if g < 0 then -g else g) % 2147483629, 0, e _, Int.emod_nonneg _ (by decide), Int.emod_lt_of_pos _ (by decide), by decide, by decide⟩
end
section
variable {S : Sto} {j : Nat} {n : Int} {l : List Nat}
theorem slF {a : Nat} {lo : Int} (h1 : lo = (a : Int)) (h : l.length ≤ 1000000) : slD S (.str (mk l)) (some lo) none = some (.str (mk (l.drop a))) := by
  have e : slD S (.str (mk l)) (some lo) none = if (mk l).length ≤ 1000000 then some (.str (cutS (mk l) (some lo) none)) else none := rfl
  rw [e, if_pos (by rw [mk_len]; exact h), h1]
  congr 2
  refine str_ext ?_
  rw [cs_mk]
  unfold cutS
  rw [HT.sIx_nat]
  have e2 : HT.sIx (mk l).length (mk l).length none = (mk l).length := rfl
  rw [e2]
  show List.take _ (List.drop _ (cs (mk l))) = _
  rw [mk_len, cs_mk]
  by_cases q : a ≤ l.length
  · rw [Nat.min_eq_left q]
    exact List.take_of_length_le (by rw [List.length_drop]; omega)
  · rw [Nat.min_eq_right (by omega), List.drop_length, List.drop_eq_nil_of_le (by omega)]
    simp
end
section
variable {S : Sto} {j : Nat} {n : Int}
theorem Bx.of_eq {S' : Sto} (B : Bx S j n) (e : S'[j]? = S[j]?) : Bx S' j n := by
  obtain ⟨g, f, c, d, h1, h2⟩ := B
  exact ⟨g, f, c, d, e.trans h1, h2⟩
theorem Bx.lt (B : Bx S j n) : j < S.length := by
  obtain ⟨g, f, c, d, h1, h2⟩ := B
  exact lt_of_get h1
theorem Bx.ext {G : Sto} (B : Bx S j n) : Bx (S ++ G) j n := B.of_eq (List.getElem?_append_left B.lt)
theorem one_flat (ls : List Nat) : (ls.map fun c => [c]).flatten = ls := by
  induction ls with
  | nil => rfl
  | cons c r ih => rw [List.map_cons, List.flatten_cons, ih]; rfl
theorem join_one {S0 : Sto} {ls : List Nat} (h : ls.length ≤ 100000) : joinD S0 (.str (Str.ofString "")) (.lst (strsD (ls.map fun c => [c]))) = some (.str (mk ls)) := by
  have e := join_mk (S := S0) (ls := ls.map fun c => [c]) (by rw [one_flat]; omega)
  rw [one_flat] at e
  exact e
/-- one sign of a text -/
theorem ix_mk {L : List Nat} {r : Int} {Q : D → Prop} (h : L.length ≤ 1000000) (h0 : 0 ≤ r) (h1 : r < L.length) (hQ : ∀ c ∈ L, Q (.str (mk [c]))) : wp (ixD S (.str (mk L)) (.int r)) Q := by
  have e : ixD S (.str (mk L)) (.int r) = if (mk L).length ≤ 1000000 then (atI (mk L).cps.toList r).map fun c => D.str ⟨#[c]⟩ else none := rfl
  rw [e, if_pos (by rw [mk_len]; exact h), show (mk L).cps.toList = L from cs_mk L, wp_map]
  exact wp_at h0 h1 hQ
theorem strsD_len (as : List (List Nat)) : (strsD as).length = as.length := List.length_map _
end
end K07

namespace K07
open PySem PySem.StrLaws L2 TL M Ln
local macro_rules | `(tactic| walk_at "go") => `(tactic| simp (maxSteps := 100000000) only [w_def, w_var, w_c, w_bin, w_and, w_or, w_bK, w_not, w_if, w_nil, w_cons, w_tup, w_lst, w_new, w_tv, w_tand, w_tor, w_tnot, w_chain, w_call, w_kw, w_cb, w_ix, w_nop, w_p, w_sl, w_neg, w_ms, w_m1, w_d0, w_app, w_ext, w_pop, w_tr, w_newc, w_s1, w_repl, w_mu, w_addn, w_dget, w_din, w_dget2, w_asgs, w_attr, w_xo, w_lx, w_bx, w_none', w_binS, w_islt, w_zf, w_slR, w_forG, w_forE, w_sE, w_sw, w_lcG, w_sq, w_forx, w_gsd, w_fld, w_setF, w_meth, w_xmeth, w_mk, w_ifE, w_del, w_newD0, w_dnin, w_listKI, w_sortK, w_rev, w_dpop, w_xmethK, w_xmethR, w_lstx, w_isx, w_dctn', w_kwR', w_xkwR, w_mulL', w_sr2, len_mk, add_mk, w_sxr, w_xdef, w_xseq, w_xraise, w_xtry, w_qus, w_okf, w_xkw, mxIf, mxCons, mxCallM, mxCall, mxBin, mxTv, mxRet, mxDrop, mxAsg, outX,
  w_ret, w_skip, w_drop, w_asg, w_par, w_ifs, w_seq, w_seti, w_for, w_lc, w_sr, w_sl', w_st, w_ss, w_sz, w_yes, wp_some, wp_none, wp_bind, wp_map, wp_ite,
  List.map_cons, List.map_nil, List.length_cons, List.length_nil, Nat.reduceAdd, Nat.reduceSub, List.replicate_succ, List.replicate_zero, List.cons_append, List.nil_append, List.append_nil,
  List.getElem?_cons_zero, List.getElem?_cons_succ, List.set_cons_zero, List.set_cons_succ, gN, setAll, gT,
  e_addI, e_addT, e_addL, e_subI, e_mulI, e_modI, e_fdvI, e_powI, e_ltI, e_leI, e_gtI, e_geI, e_ltS, e_gtS, e_isB, e_int, e_abs, e_max, e_min, e_lenT, e_lenL, e_lenQ, e_ixT, e_ixL, e_ixQ, e_ixS, e_slT, e_slL, e_slQ, e_listT, e_listL, e_isi, e_eqI, e_eqS, e_neI, e_neS, e_ninS, iI, iB, iS, iT, at0, at1, at2, at3, at4, at5, at6, at7,
  Bool.false_eq_true, if_false, if_true, decide_eq_true_eq, reduceIte, Bool.not_true, Bool.not_false])
section
variable {S : Sto} {j N : Nat} {n : Int} {d : D} {L : Kvl} {B : Nat}
/-- what is not the box stays, and things may be added -/
structure BE (j : Nat) (S S' : Sto) : Prop where
  le : S.length ≤ S'.length
  at_ : ∀ i, i < S.length → i ≠ j → S'[i]? = S[i]?
theorem BO.be {S' : Sto} (b : BO j S S') : BE j S S' := ⟨Nat.le_of_eq b.len.symm, fun i _ h => b.at_ i h⟩
theorem BE.ext {G : Sto} : BE j S (S ++ G) := ⟨by rw [List.length_append]; omega, fun i h _ => List.getElem?_append_left h⟩
theorem BE.trans {S' S2 : Sto} (a : BE j S S') (b : BE j S' S2) : BE j S S2 := ⟨Nat.le_trans a.le b.le, fun i h q => (b.at_ i (Nat.lt_of_lt_of_le h a.le) q).trans (a.at_ i h q)⟩
theorem get_new {o : Ob} : (S ++ [o])[S.length]? = some o := get_at (B := [])
theorem lt_app {a b : List Nat} (h1 : ∀ c ∈ a, c < 128) (h2 : ∀ c ∈ b, c < 128) : ∀ c ∈ a ++ b, c < 128 := fun c m => (List.mem_append.mp m).elim (h1 c) (h2 c)
theorem slM {l : List Nat} {a k : Nat} {b : Int} (hb : b = ((a + k : Nat) : Int)) (h : l.length ≤ 1000000) : slD S (.str (mk l)) (some (a : Int)) (some b) = some (.str (mk ((l.drop a).take k))) := by
  rw [hb, slA (by rw [mk_len]; exact h), cs_mk]
theorem slM2 {l : List Nat} {a k : Nat} {lo hi : Int} (h1 : lo = (a : Int)) (h2 : hi = ((a + k : Nat) : Int)) (h : l.length ≤ 1000000) : slD S (.str (mk l)) (some lo) (some hi) = some (.str (mk ((l.drop a).take k))) := by
  rw [h1]
  exact slM h2 h
theorem slN {l : List Nat} {k : Nat} {hi : Int} (h1 : hi = (k : Int)) (h : l.length ≤ 1000000) : slD S (.str (mk l)) none (some hi) = some (.str (mk (l.take k))) := by
  have e := slM2 (S := S) (l := l) (a := 0) (k := k) (lo := 0) (hi := hi) rfl (by omega) h
  rw [List.drop_zero] at e
  rw [← e]
  rfl
theorem map_str (xs : List Str) : xs.map D.str = strsD (xs.map cs) := by
  unfold strsD
  rw [List.map_map]
  exact List.map_congr_left fun x _ => by simp [mk_cs]
theorem ne_strs {as bs : List (List Nat)} (ha : ∀ l ∈ as, l.all sgn = true) (hb : ∀ l ∈ bs, l.all sgn = true) : neD (.lst (strsD as)) (.lst (strsD bs)) = some (.bl (!decide (as = bs))) := by
  have e : eqD (.lst (strsD as)) (.lst (strsD bs)) = some (.bl (decide (as = bs))) := by
    show eqD0 _ _ = _
    unfold eqD0
    rw [toP, toP, toPA_strs, toPA_strs]
    show (if _ then _ else _) = _
    rw [if_pos ⟨shaped_strs ha, shaped_strs hb⟩, PyData.eqv, eqvA_strs]
  unfold neD
  rw [e]
theorem sg_sgn : ∀ c ∈ SG, sgn c = true := by decide +kernel
theorem nm_sgn {l : List Nat} (h : NmOk l) : l.all sgn = true := by
  have h1 := h.1
  unfold nmB at h1
  rw [Bool.and_eq_true] at h1
  refine List.all_eq_true.mpr fun c m => sg_sgn c ?_
  exact of_decide_eq_true (List.all_eq_true.mp h1.2 c m)
theorem nm_ne {l : List Nat} (h : NmOk l) : 1 ≤ l.length := by
  have h1 := h.1
  unfold nmB at h1
  rw [Bool.and_eq_true] at h1
  exact (of_decide_eq_true h1.1).1
end
end K07

namespace K07
open PySem PySem.StrLaws L2 TL M Ln
local macro_rules | `(tactic| walk_at "go") => `(tactic| simp (maxSteps := 100000000) only [w_def, w_var, w_c, w_bin, w_and, w_or, w_bK, w_not, w_if, w_nil, w_cons, w_tup, w_lst, w_new, w_tv, w_tand, w_tor, w_tnot, w_chain, w_call, w_kw, w_cb, w_ix, w_nop, w_p, w_sl, w_neg, w_ms, w_m1, w_d0, w_app, w_ext, w_pop, w_tr, w_newc, w_s1, w_repl, w_mu, w_addn, w_dget, w_din, w_dget2, w_asgs, w_attr, w_xo, w_lx, w_bx, w_none', w_binS, w_islt, w_zf, w_slR, w_forG, w_forE, w_sE, w_sw, w_lcG, w_sq, w_forx, w_gsd, w_fld, w_setF, w_meth, w_xmeth, w_mk, w_ifE, w_del, w_newD0, w_dnin, w_listKI, w_sortK, w_rev, w_dpop, w_xmethK, w_xmethR, w_lstx, w_isx, w_dctn', w_kwR', w_xkwR, w_mulL', w_sr2, len_mk, add_mk, w_sxr, w_xdef, w_xseq, w_xraise, w_xtry, w_qus, w_okf, w_xkw, mxIf, mxCons, mxCallM, mxCall, mxBin, mxTv, mxRet, mxDrop, mxAsg, outX,
  w_ret, w_skip, w_drop, w_asg, w_par, w_ifs, w_seq, w_seti, w_for, w_lc, w_sr, w_sl', w_st, w_ss, w_sz, w_yes, wp_some, wp_none, wp_bind, wp_map, wp_ite,
  List.map_cons, List.map_nil, List.length_cons, List.length_nil, Nat.reduceAdd, Nat.reduceSub, List.replicate_succ, List.replicate_zero, List.cons_append, List.nil_append, List.append_nil,
  List.getElem?_cons_zero, List.getElem?_cons_succ, List.set_cons_zero, List.set_cons_succ, gN, setAll, gT,
  e_addI, e_addT, e_addL, e_subI, e_mulI, e_modI, e_fdvI, e_powI, e_ltI, e_leI, e_gtI, e_geI, e_ltS, e_gtS, e_isB, e_int, e_abs, e_max, e_min, e_lenT, e_lenL, e_lenQ, e_ixT, e_ixL, e_ixQ, e_ixS, e_slT, e_slL, e_slQ, e_listT, e_listL, e_isi, e_eqI, e_eqS, e_neI, e_neS, e_ninS, iI, iB, iS, iT, at0, at1, at2, at3, at4, at5, at6, at7,
  Bool.false_eq_true, if_false, if_true, decide_eq_true_eq, reduceIte, Bool.not_true, Bool.not_false])
/-! ### what a fall leaves -/
section
variable {L : Kvl} {ks : List Nat} {ls a b : List (List Nat)} {i : Nat} {l : List Nat} {v : List Nat × Nat} {B : Nat}
def kp (ks : List Nat) (i : Nat) (v : List Nat × Nat) : Nat := if ks = [] then v.2 else v.2 + (ks.getD (i % ks.length) 0) % (v.1.length - v.2 + 1)
theorem kp_bd (h : v.2 ≤ v.1.length) : v.2 ≤ kp ks i v ∧ kp ks i v ≤ v.1.length := by
  unfold kp
  split
  · exact ⟨Nat.le_refl _, h⟩
  · have := Nat.mod_lt (ks.getD (i % ks.length) 0) (show 0 < v.1.length - v.2 + 1 by omega)
    omega
theorem kp_full (h : v.2 = v.1.length) : kp ks i v = v.2 := by
  unfold kp
  split
  · rfl
  · rw [show v.1.length - v.2 + 1 = 1 by omega, Nat.mod_one]; rfl
def F1 (L : Kvl) (ks : List Nat) (i : Nat) (l : List Nat) : Kvl := if 0 < kp ks i (old L l) then [(Sum.inr (mk l), ((old L l).1.take (kp ks i (old L l)), kp ks i (old L l)))] else []
def FL (L : Kvl) (ks : List Nat) : Nat → List (List Nat) → Kvl
  | _, [] => []
  | i, l :: r => F1 L ks i l ++ FL L ks (i + 1) r
theorem FL_app : ∀ (a : List (List Nat)) {i : Nat} {b : List (List Nat)}, FL L ks i (a ++ b) = FL L ks i a ++ FL L ks (i + a.length) b
  | [], i, b => by simp [FL]
  | l :: r, i, b => by
    rw [List.cons_append, FL, FL, FL_app r, List.append_assoc, List.length_cons]
    rw [show i + 1 + r.length = i + (r.length + 1) by omega]
theorem FL_one : FL L ks i [l] = F1 L ks i l := by rw [FL, FL, List.append_nil]
theorem gv_app {x y : Kvl} {k : Key} : gv (x ++ y) k = (gv x k).or (gv y k) := by
  unfold gv
  rw [List.find?_append, Option.map_or]
theorem gv_none {x : Kvl} {k : Key} (h : ∀ kv ∈ x, kv.1 ≠ k) : gv x k = none := by
  unfold gv
  rw [List.find?_eq_none.mpr fun kv m => by simpa using h kv m]
  rfl
theorem gput_new {x : Kvl} {k : Key} (h : ∀ kv ∈ x, kv.1 ≠ k) : gput x k v = x ++ [(k, v)] := by
  unfold gput
  have e : (x.any fun kv => decide (kv.1 = k)) = false := List.any_eq_false.mpr fun kv m => by simpa using h kv m
  rw [e, if_neg (by decide)]
theorem F1_mem : ∀ kv ∈ F1 L ks i l, kv.1 = Sum.inr (mk l) ∧ kv.2 = ((old L l).1.take (kp ks i (old L l)), kp ks i (old L l)) ∧ 0 < kp ks i (old L l) := by
  intro kv m
  unfold F1 at m
  split at m
  · rename_i q
    rw [List.mem_singleton.mp m]
    exact ⟨rfl, rfl, q⟩
  · cases m
theorem FL_mem : ∀ (ls : List (List Nat)) (i : Nat), ∀ kv ∈ FL L ks i ls, ∃ l ∈ ls, ∃ p, kv.1 = Sum.inr (mk l) ∧ kv.2 = ((old L l).1.take (kp ks p (old L l)), kp ks p (old L l)) ∧ 0 < kp ks p (old L l)
  | [], i, kv, m => by cases m
  | l :: r, i, kv, m => by
    rw [FL] at m
    rcases List.mem_append.mp m with m | m
    · obtain ⟨h1, h2, h3⟩ := F1_mem kv m
      exact ⟨l, List.mem_cons_self, i, h1, h2, h3⟩
    · obtain ⟨l', m', p, h⟩ := FL_mem r (i + 1) kv m
      exact ⟨l', List.mem_cons_of_mem _ m', p, h⟩
theorem key_inj {a b : List Nat} (h : (Sum.inr (mk a) : Key) = Sum.inr (mk b)) : a = b := mk_inj.mp (Sum.inr.inj h)
theorem FL_no (h : l ∉ ls) : gv (FL L ks i ls) (Sum.inr (mk l)) = none := gv_none fun kv m => by
  obtain ⟨l', m', p, h1, _⟩ := FL_mem ls i kv m
  rw [h1]
  intro e
  exact h (key_inj e ▸ m')
theorem FL_nokey (h : l ∉ ls) : ∀ kv ∈ FL L ks i ls, kv.1 ≠ Sum.inr (mk l) := fun kv m => by
  obtain ⟨l', m', p, h1, _⟩ := FL_mem ls i kv m
  rw [h1]
  intro e
  exact h (key_inj e ▸ m')
theorem FL_gv : ∀ (ls : List (List Nat)) (i : Nat), ls.Nodup → ∀ l ∈ ls, ∃ p, gv (FL L ks i ls) (Sum.inr (mk l)) = if 0 < kp ks p (old L l) then some ((old L l).1.take (kp ks p (old L l)), kp ks p (old L l)) else none
  | [], _, _, l, m => by cases m
  | x :: r, i, nd, l, m => by
    obtain ⟨nx, nr⟩ := List.nodup_cons.mp nd
    rw [FL, gv_app]
    rcases List.mem_cons.mp m with rfl | m
    · refine ⟨i, ?_⟩
      rw [FL_no nx, Option.or_none]
      unfold F1
      split
      · simp [gv, List.find?_cons]
      · rfl
    · obtain ⟨p, e⟩ := FL_gv r (i + 1) nr l m
      refine ⟨p, ?_⟩
      have h0 : gv (F1 L ks i x) (Sum.inr (mk l)) = none := gv_none fun kv mk' => by
        obtain ⟨h1, _⟩ := F1_mem kv mk'
        rw [h1]
        intro e
        exact nx (key_inj e ▸ m)
      rw [h0, e]
      rfl
theorem FL_sub : ∀ (ls : List (List Nat)) (i : Nat), ((FL L ks i ls).map (·.1)).Sublist (ls.map fun l => (Sum.inr (mk l) : Key))
  | [], _ => .slnil
  | x :: r, i => by
    rw [FL, List.map_append, List.map_cons]
    have ih := FL_sub r (i + 1)
    unfold F1
    split
    · exact ih.cons₂ _
    · exact ih.cons _
theorem FL_len : (FL L ks i ls).length ≤ ls.length := by
  have := (FL_sub (L := L) (ks := ks) ls i).length_le
  simpa using this
theorem uq {x : Kvl} (nd : (x.map (·.1)).Nodup) : ∀ kv ∈ x, gv x kv.1 = some kv.2 := by
  induction x with
  | nil => intro kv m; cases m
  | cons y r ih =>
    rw [List.map_cons] at nd
    obtain ⟨n1, n2⟩ := List.nodup_cons.mp nd
    intro kv m
    rcases List.mem_cons.mp m with rfl | m
    · simp [gv, List.find?_cons]
    · have h : y.1 ≠ kv.1 := fun e => n1 (e ▸ List.mem_map_of_mem m)
      have := ih n2 kv m
      unfold gv at this ⊢
      rw [List.find?_cons, decide_eq_false h]
      exact this
/-- a second fall changes nothing -/
theorem FL_again (hs : ∀ kv ∈ L, kv.2.2 = kv.2.1.length ∧ 0 < kv.2.2) : ∀ (R : Kvl) (r : List (List Nat)) (i : Nat), (∀ kv ∈ R, kv ∈ L ∧ gv L kv.1 = some kv.2) → R.map (·.1) = r.map (fun l => (Sum.inr (mk l) : Key)) → FL L ks i r = R
  | [], [], _, _, _ => rfl
  | [], _ :: _, _, _, e => by cases e
  | _ :: _, [], _, _, e => by cases e
  | kv :: R, l :: r, i, h, e => by
    rw [List.map_cons, List.map_cons] at e
    obtain ⟨e1, e2⟩ := List.cons.inj e
    obtain ⟨m, g⟩ := h kv List.mem_cons_self
    obtain ⟨h1, h2⟩ := hs kv m
    have eo : old L l = kv.2 := by
      unfold old
      rw [← e1, g]
      rfl
    rw [FL, FL_again hs R r (i + 1) (fun kv m => h kv (List.mem_cons_of_mem _ m)) e2]
    unfold F1
    rw [eo, kp_full h1, if_pos h2]
    obtain ⟨k, t, c⟩ := kv
    simp only at e1 h1 ⊢
    rw [e1, h1, List.take_length]
    rfl
/-! ### the names in order -/
theorem sortC_pw (xs : List Str) : (sortC xs).Pairwise fun a b => leS a b = true := List.pairwise_mergeSort (fun a b c p q => by
    unfold leS at p q ⊢
    simp at p q ⊢
    exact lt_trans' _ _ _ p q) (fun a b => by
    unfold leS
    rcases lt_total a.cps.toList b.cps.toList with q | q <;> simp [q]) xs
theorem sortC_id {xs : List Str} (h : xs.Pairwise fun a b => leS a b = true) : sortC xs = xs := by
  refine List.Perm.eq_of_pairwise (fun a b _ _ p q => ?_) (sortC_pw xs) h (List.mergeSort_perm xs leS)
  unfold leS at p q
  simp at p q
  exact str_cps (lt_anti _ _ p q)
theorem keys_s (h : ∀ kv ∈ L, ∃ n, kv.1 = Sum.inr (mk n) ∧ NmOk n) : ∃ xs : List Str, L.map (·.1) = xs.map Sum.inr ∧ (∀ f, strsOf (keysD (vmap f L)) = some xs) ∧ ∀ x ∈ xs, ∃ n, x = mk n ∧ NmOk n := by
  induction L with
  | nil => exact ⟨[], rfl, fun _ => rfl, fun _ m => by cases m⟩
  | cons kv L ih =>
    obtain ⟨xs, h1, h2, h3⟩ := ih fun kv m => h kv (List.mem_cons_of_mem _ m)
    obtain ⟨n, hn, ho⟩ := h kv List.mem_cons_self
    obtain ⟨k, v⟩ := kv
    have hk : k = Sum.inr (mk n) := hn
    subst hk
    refine ⟨mk n :: xs, by rw [List.map_cons, List.map_cons, h1], fun f => ?_, fun x m => ?_⟩
    · show (strsOf (keysD (vmap f L))).map _ = _
      rw [h2]
      rfl
    · rcases List.mem_cons.mp m with rfl | m
      · exact ⟨n, rfl, ho⟩
      · exact h3 x m
/-- the sorted list of the names of the files -/
structure Nms (L : Kvl) (xs : List Str) (ls : List (List Nat)) : Prop where
  ky : L.map (·.1) = xs.map Sum.inr
  st : ∀ f, strsOf (keysD (vmap f L)) = some xs
  lt : xs.length < 64
  so : (sortC xs).map D.str = strsD ls
  mp : sortC xs = ls.map mk
  len : ls.length = L.length
  nd : ls.Nodup
  ok : ∀ l ∈ ls, NmOk l ∧ ∃ v, gv L (Sum.inr (mk l)) = some v
  mem : ∀ l v, gv L (Sum.inr (mk l)) = some v → l ∈ ls
theorem nms (hL : Lk L B) (h64 : L.length < 64) : ∃ xs ls, Nms L xs ls := by
  obtain ⟨xs, h1, h2, h3⟩ := keys_s hL.nm
  have hl : xs.length = L.length := by
    have := congrArg List.length h1
    simpa using this.symm
  have ndx : xs.Nodup := by
    have := hL.nd
    rw [h1] at this
    unfold List.Nodup at this ⊢
    rw [List.pairwise_map] at this
    exact this.imp fun h e => h (congrArg Sum.inr e)
  have nds : (sortC xs).Nodup := (List.mergeSort_perm xs leS).nodup_iff.mpr ndx
  have inx : ∀ x ∈ xs, ∃ v, gv L (Sum.inr x) = some v := by
    intro x m
    have : (Sum.inr x : Key) ∈ L.map (·.1) := by rw [h1]; exact List.mem_map_of_mem m
    obtain ⟨kv, m2, e⟩ := List.mem_map.mp this
    exact ⟨kv.2, e ▸ uq hL.nd kv m2⟩
  refine ⟨xs, (sortC xs).map cs, h1, h2, by omega, map_str _, ?_, by rw [List.length_map, sort_len, hl], ?_, fun l m => ?_, fun l v e => ?_⟩
  · rw [List.map_map]
    conv => lhs; rw [← List.map_id (sortC xs)]
    exact List.map_congr_left fun x _ => (mk_cs x).symm
  · unfold List.Nodup at nds ⊢
    rw [List.pairwise_map]
    exact nds.imp fun h e => h (by have e' := congrArg mk e; rwa [mk_cs, mk_cs] at e')
  · obtain ⟨x, hx, rfl⟩ := List.mem_map.mp m
    have hx' := sort_mem hx
    obtain ⟨n, rfl, ho⟩ := h3 x hx'
    rw [cs_mk]
    exact ⟨ho, inx _ hx'⟩
  · unfold gv at e
    obtain ⟨kv, e1, e2⟩ := Option.map_eq_some_iff.mp e
    have m := List.mem_of_find?_eq_some e1
    have e3 : kv.1 = Sum.inr (mk l) := by simpa using List.find?_some e1
    have : (Sum.inr (mk l) : Key) ∈ xs.map Sum.inr := by rw [← h1, ← e3]; exact List.mem_map_of_mem m
    obtain ⟨x, mx, ex⟩ := List.mem_map.mp this
    have ex' : x = mk l := Sum.inr.inj ex
    subst ex'
    refine List.mem_map.mpr ⟨mk l, ?_, cs_mk l⟩
    exact (List.mergeSort_perm xs leS).mem_iff.mpr mx
end
end K07

namespace K07
open PySem PySem.StrLaws L2 TL M Ln
local macro_rules | `(tactic| walk_at "go") => `(tactic| simp (maxSteps := 100000000) only [w_def, w_var, w_c, w_bin, w_and, w_or, w_bK, w_not, w_if, w_nil, w_cons, w_tup, w_lst, w_new, w_tv, w_tand, w_tor, w_tnot, w_chain, w_call, w_kw, w_cb, w_ix, w_nop, w_p, w_sl, w_neg, w_ms, w_m1, w_d0, w_app, w_ext, w_pop, w_tr, w_newc, w_s1, w_repl, w_mu, w_addn, w_dget, w_din, w_dget2, w_asgs, w_attr, w_xo, w_lx, w_bx, w_none', w_binS, w_islt, w_zf, w_slR, w_forG, w_forE, w_sE, w_sw, w_lcG, w_sq, w_forx, w_gsd, w_fld, w_setF, w_meth, w_xmeth, w_mk, w_ifE, w_del, w_newD0, w_dnin, w_listKI, w_sortK, w_rev, w_dpop, w_xmethK, w_xmethR, w_lstx, w_isx, w_dctn', w_kwR', w_xkwR, w_mulL', w_sr2, len_mk, add_mk, w_sxr, w_xdef, w_xseq, w_xraise, w_xtry, w_qus, w_okf, w_xkw, mxIf, mxCons, mxCallM, mxCall, mxBin, mxTv, mxRet, mxDrop, mxAsg, outX,
  w_ret, w_skip, w_drop, w_asg, w_par, w_ifs, w_seq, w_seti, w_for, w_lc, w_sr, w_sl', w_st, w_ss, w_sz, w_yes, wp_some, wp_none, wp_bind, wp_map, wp_ite,
  List.map_cons, List.map_nil, List.length_cons, List.length_nil, Nat.reduceAdd, Nat.reduceSub, List.replicate_succ, List.replicate_zero, List.cons_append, List.nil_append, List.append_nil,
  List.getElem?_cons_zero, List.getElem?_cons_succ, List.set_cons_zero, List.set_cons_succ, gN, setAll, gT,
  e_addI, e_addT, e_addL, e_subI, e_mulI, e_modI, e_fdvI, e_powI, e_ltI, e_leI, e_gtI, e_geI, e_ltS, e_gtS, e_isB, e_int, e_abs, e_max, e_min, e_lenT, e_lenL, e_lenQ, e_ixT, e_ixL, e_ixQ, e_ixS, e_slT, e_slL, e_slQ, e_listT, e_listL, e_isi, e_eqI, e_eqS, e_neI, e_neS, e_ninS, iI, iB, iS, iT, at0, at1, at2, at3, at4, at5, at6, at7,
  Bool.false_eq_true, if_false, if_true, decide_eq_true_eq, reduceIte, Bool.not_true, Bool.not_false])
section
variable {S : Sto} {L : Kvl} {ks : List Nat} {ls ls2 : List (List Nat)} {xs xs2 : List Str} {B : Nat} {d : D} {ds : List D}
theorem old_of {l : List Nat} {v : List Nat × Nat} (h : gv L (Sum.inr (mk l)) = some v) : old L l = v := by
  unfold old
  rw [h]
  rfl
theorem old_ok (hL : Lk L B) (N : Nms L xs ls) {l : List Nat} (m : l ∈ ls) : NmOk l ∧ gv L (Sum.inr (mk l)) = some (old L l) ∧ (old L l).1.length ≤ B ∧ (∀ c ∈ (old L l).1, c < 128) ∧ (old L l).2 ≤ (old L l).1.length := by
  obtain ⟨h1, v, h2⟩ := N.ok l m
  rw [old_of h2]
  obtain ⟨kv, m2, rfl⟩ := gv_mem h2
  obtain ⟨t1, t2, t3⟩ := hL.tx kv m2
  exact ⟨h1, h2, t1, t2, t3⟩
theorem lk_fall (hL : Lk L B) (N : Nms L xs ls) : Lk (FL L ks 0 ls) B ∧ ∀ kv ∈ FL L ks 0 ls, kv.2.2 = kv.2.1.length ∧ 0 < kv.2.2 := by
  have key : ∀ kv ∈ FL L ks 0 ls, (∃ n, kv.1 = Sum.inr (mk n) ∧ NmOk n) ∧ kv.2.1.length ≤ B ∧ (∀ c ∈ kv.2.1, c < 128) ∧ kv.2.2 = kv.2.1.length ∧ 0 < kv.2.2 := by
    intro kv m
    obtain ⟨l, ml, p, h1, h2, h3⟩ := FL_mem ls 0 kv m
    obtain ⟨q1, q2, q3, q4, q5⟩ := old_ok hL N ml
    obtain ⟨b1, b2⟩ := kp_bd (ks := ks) (i := p) q5
    rw [h2]
    refine ⟨⟨l, h1, q1⟩, ?_, fun c mc => q4 c (List.mem_of_mem_take mc), ?_, h3⟩
    · rw [List.length_take]; omega
    · show kp ks p (old L l) = (List.take (kp ks p (old L l)) (old L l).1).length
      rw [List.length_take]; omega
  refine ⟨⟨fun kv m => (key kv m).1, fun kv m => ?_, ?_⟩, fun kv m => ⟨(key kv m).2.2.2.1, (key kv m).2.2.2.2⟩⟩
  · obtain ⟨_, h2, h3, h4, _⟩ := key kv m
    exact ⟨h2, h3, by omega⟩
  · refine (FL_sub ls 0).nodup ?_
    have := N.nd
    unfold List.Nodup at this ⊢
    rw [List.pairwise_map]
    exact this.imp fun h e => h (key_inj e)
def RK (a b : Key) : Prop := ∃ x y, a = .inr x ∧ b = .inr y ∧ leS x y = true
theorem fall_keys (N : Nms L xs ls) (N2 : Nms (FL L ks 0 ls) xs2 ls2) : (FL L ks 0 ls).map (·.1) = ls2.map fun l => (Sum.inr (mk l) : Key) := by
  have p1 : (ls.map fun l => (Sum.inr (mk l) : Key)).Pairwise RK := by
    have q := sortC_pw xs
    rw [N.mp, List.pairwise_map] at q
    rw [List.pairwise_map]
    exact q.imp fun h => ⟨_, _, rfl, rfl, h⟩
  have p2 := p1.sublist (FL_sub (L := L) (ks := ks) ls 0)
  have p3 : xs2.Pairwise fun a b => leS a b = true := by
    rw [N2.ky, List.pairwise_map] at p2
    exact p2.imp fun ⟨x, y, e1, e2, h⟩ => by
      cases e1; cases e2; exact h
  have e := sortC_id p3
  rw [N2.mp] at e
  rw [N2.ky, ← e, List.map_map]
  rfl
theorem again_eq (hL : Lk L B) (N : Nms L xs ls) (N2 : Nms (FL L ks 0 ls) xs2 ls2) (ks2 : List Nat) : FL (FL L ks 0 ls) ks2 0 ls2 = FL L ks 0 ls := by
  obtain ⟨h1, h2⟩ := lk_fall (ks := ks) hL N
  exact FL_again h2 _ ls2 0 (fun kv m => ⟨m, uq h1.nd kv m⟩) (fall_keys N N2)
/-! ### lists of counts -/
theorem r_i {i : Int} : isR2 S [.int i, .ty "int"] = some (.bl true) := rfl
theorem r_ib {i : Int} : isR2 S [.int i, .ty "bool"] = some (.bl false) := rfl
theorem p_integer (i : Int) : m_is_integer [.int i] S = some (.bl true, S) := by
  apply wp_eq
  unfold m_is_integer
  walk_at "go"
  simp only [r_i]
  walk_at "go"
  simp only [r_ib]
  walk_at "go"
theorem cnt_int {i : Int} : m_is_count [.int i] S = some (.bl (decide (0 ≤ i)), S) := by
  apply wp_eq
  unfold m_is_count
  walk_at "go"
  rw [p_integer]
  walk_at "go"
theorem cnt_no (h : isR2 S [d, .ty "int"] = some (.bl false)) : m_is_count [d] S = some (.bl false, S) := by
  have e : m_is_integer [d] S = some (.bl false, S) := by
    apply wp_eq
    unfold m_is_integer
    walk_at "go"
    rw [h]
    walk_at "go"
  apply wp_eq
  unfold m_is_count
  walk_at "go"
  rw [e]
  walk_at "go"
theorem cnt_bl {b : Bool} : m_is_count [.bl b] S = some (.bl false, S) := by
  have e : m_is_integer [.bl b] S = some (.bl false, S) := by
    apply wp_eq
    unfold m_is_integer
    walk_at "go"
    rw [show isR2 S [.bl b, .ty "int"] = some (.bl true) from rfl]
    walk_at "go"
    rw [show isR2 S [.bl b, .ty "bool"] = some (.bl true) from rfl]
    walk_at "go"
  apply wp_eq
  unfold m_is_count
  walk_at "go"
  rw [e]
  walk_at "go"
theorem all_map {p : D → Bool} : ∀ ds : List D, allD S [.lst (ds.map fun x => .bl (p x))] = some (.bl (ds.all p)) := by
  intro ds
  show (blsOf _).map _ = _
  have e : (ds.map fun x => D.bl (p x)) = (ds.map p).map D.bl := by rw [List.map_map]; rfl
  rw [e, blsOf_map]
  show some (D.bl ((ds.map p).all id)) = _
  rw [List.all_map]
  rfl
theorem p_list {p : D → Bool} (h : SqAt S d ds) (hl : ds.length ≤ 100000) (hc : ∀ x ∈ ds, m_is_count [x] S = some (.bl (p x), S)) : m_is_list_of [d, .fn "is_count"] S = some (.bl (ds.all p), S) := by
  obtain ⟨t, h1, h2⟩ := h.ty
  obtain ⟨g, hG, go⟩ := h.go
  apply wp_eq
  unfold m_is_list_of
  walk_at "go"
  rw [h1]
  walk_at "go"
  refine itp h2 ?_
  refine go ?_
  have e := mapG_pure (te := mHeld 1 tblJ (mCons (mVar 2) mNil)) (j := 2) (ρ := [some d, some (.fn "is_count"), none]) (all := ds) (k := fun x => .bl (p x)) hG ds (fun x hx => by
    apply wp_eq
    rw [w_held (x := "is_count") (F := m_is_count) rfl rfl]
    walk_at "go"
    rw [hc x hx]
    walk_at "go")
  refine wp_of e ⟨by rw [List.length_map]; exact hl, ?_⟩
  dsimp only
  rw [all_map]
  exact wp_some.mpr rfl
theorem p_nolist {t : String} (h : tyN S d = some t) (h2 : (t == "list" || t == "tuple") = false) {f : D} : m_is_list_of [d, f] S = some (.bl false, S) := by
  apply wp_eq
  unfold m_is_list_of
  walk_at "go"
  rw [h]
  walk_at "go"
  rw [h2]
  walk_at "go"
/-! ### what a list or a tuple tells -/
theorem sq_ext {G : Sto} (h : SqAt S d ds) : SqAt (S ++ G) d ds := by
  rcases h with h | h | ⟨j, rfl, hj⟩
  · exact .inl h
  · exact .inr (.inl h)
  · exact .inr (.inr ⟨j, rfl, by rw [List.getElem?_append_left (lt_of_get hj)]; exact hj⟩)
theorem sq_tru (h : SqAt S d ds) : truD S d = some (!ds.isEmpty) := by
  rcases h with rfl | rfl | ⟨j, rfl, hj⟩
  · rfl
  · rfl
  · show (stLst S j).map _ = _
    rw [stLst_of hj]
    rfl
theorem sq_len (h : SqAt S d ds) : lenD S [d] = some (.int ds.length) := by
  rcases h with rfl | rfl | ⟨j, rfl, hj⟩
  · rfl
  · rfl
  · show (match S[j]? with | some (.lst xs) => some (D.int xs.length) | _ => none) = _
    rw [hj]
theorem sq_ix (h : SqAt S d ds) {p : Nat} {x : D} (e : ds[p]? = some x) : ixD S d (.int (p : Int)) = some x := by
  rcases h with rfl | rfl | ⟨j, rfl, hj⟩
  · exact atI_nat e
  · exact atI_nat e
  · show (match S[j]? with | some (.lst xs) => atI xs (p : Int) | _ => none) = _
    rw [hj]
    exact atI_nat e
def ksD (ks : List Nat) : List D := ks.map fun (k : Nat) => D.int (k : Int)
theorem ksD_at {p : Nat} (h : p < ks.length) : (ksD ks)[p]? = some (.int ((ks.getD p 0 : Nat) : Int)) := by
  unfold ksD
  rw [List.getElem?_map, List.getElem?_eq_getElem h, List.getD_eq_getElem?_getD, List.getElem?_eq_getElem h]
  rfl
theorem ks_list (h : SqAt S d (ksD ks)) (hl : ks.length ≤ 1000) : m_is_list_of [d, .fn "is_count"] S = some (.bl true, S) := by
  have e := p_list (p := fun x => match x with | .int i => decide (0 ≤ i) | _ => false) h (by unfold ksD; rw [List.length_map]; omega) (fun x m => by
    unfold ksD at m
    obtain ⟨k, _, rfl⟩ := List.mem_map.mp m
    exact cnt_int)
  rw [e]
  congr 2
  have : ((ksD ks).all fun x => match x with | .int i => decide (0 ≤ i) | _ => false) = true := by
    refine List.all_eq_true.mpr fun x m => ?_
    unfold ksD at m
    obtain ⟨k, _, rfl⟩ := List.mem_map.mp m
    exact decide_eq_true (by omega)
  rw [this]
end
end K07

namespace K07
open PySem PySem.StrLaws L2 TL M Ln
local macro_rules | `(tactic| walk_at "go") => `(tactic| simp (maxSteps := 100000000) only [w_def, w_var, w_c, w_bin, w_and, w_or, w_bK, w_not, w_if, w_nil, w_cons, w_tup, w_lst, w_new, w_tv, w_tand, w_tor, w_tnot, w_chain, w_call, w_kw, w_cb, w_ix, w_nop, w_p, w_sl, w_neg, w_ms, w_m1, w_d0, w_app, w_ext, w_pop, w_tr, w_newc, w_s1, w_repl, w_mu, w_addn, w_dget, w_din, w_dget2, w_asgs, w_attr, w_xo, w_lx, w_bx, w_none', w_binS, w_islt, w_zf, w_slR, w_forG, w_forE, w_sE, w_sw, w_lcG, w_sq, w_forx, w_gsd, w_fld, w_setF, w_meth, w_xmeth, w_mk, w_ifE, w_del, w_newD0, w_dnin, w_listKI, w_sortK, w_rev, w_dpop, w_xmethK, w_xmethR, w_lstx, w_isx, w_dctn', w_kwR', w_xkwR, w_mulL', w_sr2, len_mk, add_mk, w_sxr, w_xdef, w_xseq, w_xraise, w_xtry, w_qus, w_okf, w_xkw, mxIf, mxCons, mxCallM, mxCall, mxBin, mxTv, mxRet, mxDrop, mxAsg, outX,
  w_ret, w_skip, w_drop, w_asg, w_par, w_ifs, w_seq, w_seti, w_for, w_lc, w_sr, w_sl', w_st, w_ss, w_sz, w_yes, wp_some, wp_none, wp_bind, wp_map, wp_ite,
  List.map_cons, List.map_nil, List.length_cons, List.length_nil, Nat.reduceAdd, Nat.reduceSub, List.replicate_succ, List.replicate_zero, List.cons_append, List.nil_append, List.append_nil,
  List.getElem?_cons_zero, List.getElem?_cons_succ, List.set_cons_zero, List.set_cons_succ, gN, setAll, gT,
  e_addI, e_addT, e_addL, e_subI, e_mulI, e_modI, e_fdvI, e_powI, e_ltI, e_leI, e_gtI, e_geI, e_ltS, e_gtS, e_isB, e_int, e_abs, e_max, e_min, e_lenT, e_lenL, e_lenQ, e_ixT, e_ixL, e_ixQ, e_ixS, e_slT, e_slL, e_slQ, e_listT, e_listL, e_isi, e_eqI, e_eqS, e_neI, e_neS, e_ninS, iI, iB, iS, iT, at0, at1, at2, at3, at4, at5, at6, at7,
  Bool.false_eq_true, if_false, if_true, decide_eq_true_eq, reduceIte, Bool.not_true, Bool.not_false])
section
variable {S : Sto} {L : Kvl} {ks : List Nat} {ls : List (List Nat)} {xs : List Str} {B j jf jd : Nat} {o : Int} {d : D}
theorem Dk.ext {G : Sto} (h : Dk S j jf o L) : Dk (S ++ G) j jf o L :=
  ⟨by rw [List.getElem?_append_left (lt_of_get h.a)]; exact h.a, by rw [List.getElem?_append_left (lt_of_get h.b)]; exact h.b⟩
theorem kp_int {P : Nat} {v : List Nat × Nat} (h : v.2 ≤ v.1.length) (hk : ks ≠ []) : ((v.2 : Int) + ((ks.getD (P % ks.length) 0 : Nat) : Int) % ((v.1.length : Int) - (v.2 : Int) + 1)) = ((kp ks P v : Nat) : Int) := by
  unfold kp
  rw [if_neg hk]
  have e : (v.1.length : Int) - (v.2 : Int) + 1 = ((v.1.length - v.2 + 1 : Nat) : Int) := by omega
  rw [e, ← Int.natCast_emod]
  omega
abbrev fallS (S : Sto) (L : Kvl) (ks : List Nat) (ls : List (List Nat)) (P : List (List Nat)) : Sto := S ++ [.dct (vmap tD (FL L ks 0 P)), .lst (strsD ls)]
noncomputable def fend : StF := (mIfS (mTv (mBin gtD (mVar 6) (mC (.int 0)))) (mAsgS (mTup (mCons (mSl (mVar 5) mNoP (mP (mVar 6))) (mCons (mVar 6) mNil))) (gSD (mVar 2) (mVar 4))) mSkip)
noncomputable abbrev fbody : StF := (mSeq (mAsg (mDGet (mFld "Disk" "_files" (mVar 0)) (mVar 4)) (gT [5, 6]))
  (mSeq (mIfS (mTr (mVar 1)) (mAsg (mBin addD (mVar 6) (mBin modD (mIx (mVar 1) (mBin modD (mVar 3) (mCb lenD (mCons (mVar 1) mNil)))) (mBin addD (mBin subD (mCb lenD (mCons (mVar 5) mNil)) (mVar 6)) (mC (.int 1))))) (gN 6)) mSkip)
  fend))
theorem fall_step {P r : List (List Nat)} {l : List Nat} {o5 o6 : Option D} (hk : Dk S j jf o L) (hL : Lk L B) (hB : B ≤ 100000) (N : Nms L xs ls) (hq : SqAt S d (ksD ks)) (e : ls = P ++ l :: r) {O : Out × Sto → Prop}
    (hO : ∀ o5 o6, O (.nx [some (.ref j), some d, some (.ref S.length), some (.int (P.length : Int)), some (.str (mk l)), o5, o6], fallS S L ks ls (P ++ [l]))) :
    wp (fbody [some (.ref j), some d, some (.ref S.length), some (.int (P.length : Int)), some (.str (mk l)), o5, o6] (fallS S L ks ls P)) O := by
  obtain ⟨q1, q2, q3, q4, q5⟩ := old_ok hL N (l := l) (by rw [e]; simp)
  have hkE := hk.ext (G := [.dct (vmap tD (FL L ks 0 P)), .lst (strsD ls)])
  have hqE := sq_ext (G := [.dct (vmap tD (FL L ks 0 P)), .lst (strsD ls)]) hq
  have nl : l ∉ P := by
    have nd := N.nd
    rw [e] at nd
    have := (List.nodup_append.mp nd).2.2
    intro m
    exact this l m l List.mem_cons_self rfl
  have hP : P.length < 64 := by
    have h1 := congrArg List.length e
    rw [List.length_append, List.length_cons, N.len] at h1
    have h2 : xs.length = L.length := by have := congrArg List.length N.ky; simpa using this.symm
    have := N.lt
    omega
  have hlen : (vmap tD (FL L ks 0 P)).length < 100000 := by
    rw [vm_len]
    have := FL_len (L := L) (ks := ks) (ls := P) (i := 0)
    omega
  have g0 : (fallS S L ks ls P)[S.length]? = some (.dct (vmap tD (FL L ks 0 P))) := get_at
  obtain ⟨b1, b2⟩ := kp_bd (ks := ks) (i := P.length) q5
  have fin : ∀ {o6 : Int}, o6 = ((kp ks P.length (old L l) : Nat) : Int) → wp (fend [some (.ref j), some d, some (.ref S.length), some (.int (P.length : Int)), some (.str (mk l)), some (.str (mk (old L l).1)), some (.int o6)] (fallS S L ks ls P)) O := by
    intro o6 e6
    subst e6
    have ef : FL L ks 0 (P ++ [l]) = FL L ks 0 P ++ F1 L ks P.length l := by rw [FL_app, FL_one, Nat.zero_add]
    unfold fend
    walk_at "go"
    refine it2 (fun h0 => ?_) fun h0 => ?_
    · have h0' : 0 < kp ks P.length (old L l) := by omega
      rw [slN (k := kp ks P.length (old L l)) rfl (by omega)]
      walk_at "go"
      refine ⟨by decide, ?_⟩
      rw [dct_at g0]
      walk_at "go"
      simp only [key_str, wp_some]
      refine itp hlen ?_
      rw [show (D.tup [D.str (mk ((old L l).1.take (kp ks P.length (old L l)))), D.int ((kp ks P.length (old L l) : Nat) : Int)]) = tD ((old L l).1.take (kp ks P.length (old L l)), kp ks P.length (old L l)) from rfl, gput_map, gput_new (FL_nokey nl)]
      have es : fallS S L ks ls (P ++ [l]) = (fallS S L ks ls P).set S.length (.dct (vmap tD (FL L ks 0 P ++ [(Sum.inr (mk l), ((old L l).1.take (kp ks P.length (old L l)), kp ks P.length (old L l)))]))) := by
        unfold fallS
        rw [set_at', ef]
        unfold F1
        rw [if_pos h0']
      rw [← es]
      exact hO _ _
    · have h0' : ¬ 0 < kp ks P.length (old L l) := by omega
      have es : fallS S L ks ls (P ++ [l]) = fallS S L ks ls P := by
        unfold fallS
        rw [ef]
        unfold F1
        rw [if_neg h0', List.append_nil]
      rw [← es]
      exact hO _ _
  unfold fbody
  rw [w_seq, w_asg]
  simp only [w_dget]
  walk_at "go"
  rw [hkE.a]
  walk_at "go"
  simp only [lk_f, if_true, wp_some, dct_at hkE.b, key_str, gv_map, q2, Option.map_some]
  unfold tD
  walk_at "go"
  rw [sq_tru hqE]
  walk_at "go"
  by_cases hne : ks = []
  · refine itn (by rw [hne]; decide) ?_
    refine fin ?_
    unfold kp
    rw [if_pos hne]
  · have hpos : 0 < ks.length := List.length_pos_iff.mpr hne
    refine itp (by
      have : (ksD ks).isEmpty = false := by unfold ksD; cases ks with
        | nil => exact absurd rfl hne
        | cons a b => rfl
      rw [this]; rfl) ?_
    rw [sq_len hqE]
    have hlk : (ksD ks).length = ks.length := by unfold ksD; rw [List.length_map]
    walk_at "go"
    rw [hlk]
    refine itp (by omega) ?_
    rw [← Int.natCast_emod, sq_ix hqE (ksD_at (Nat.mod_lt _ hpos))]
    walk_at "go"
    refine itp (by omega) (itp (by omega) ?_)
    exact fin (kp_int q5 hne)
theorem fall_ok (hk : Dk S j jf o L) (hL : Lk L B) (hB : B ≤ 100000) (N : Nms L xs ls) (hq : SqAt S d (ksD ks)) (hks : ks.length ≤ 1000) :
    m_Disk_fall [.ref j, d] S = some (.ok .non, (fallS S L ks ls ls).set j (.ins "Disk" (DkF S.length (o + 1)))) := by
  have hkE := hk.ext (G := [.dct []])
  apply wp_eq
  unfold m_Disk_fall
  walk_at "go"
  rw [ks_list hq hks]
  walk_at "go"
  rw [hkE.a]
  walk_at "go"
  rw [show List.lookup (Str.ofString "names") (DkF jf o) = none from rfl]
  simp only [and_self, if_true]
  show wp (m_Disk_names [.ref j] (S ++ [Ob.dct []])) _
  rw [names_spec hkE (N.st tD) N.lt, N.so]
  walk_at "go"
  rw [stLst_of (xs := strsD ls) get_new]
  walk_at "go"
  have e0 : S ++ [Ob.dct []] ++ [Ob.lst (strsD ls)] = fallS S L ks ls [] := by
    unfold fallS
    rw [List.append_assoc]
    rfl
  have e1 : (S ++ [Ob.dct []]).length = S.length + 1 := by simp
  rw [e0, e1]
  have gN : ∀ P, (fallS S L ks ls P)[S.length + 1]? = some (.lst (strsD ls)) := fun P => by
    unfold fallS
    rw [List.getElem?_append_right (by omega)]
    rw [show S.length + 1 - S.length = 1 by omega]
    rfl
  refine wp_loopG (fun ds ρ S' => ∃ P r o3 o4 o5 o6, ls = P ++ r ∧ ds = enuD P.length (strsD r) ∧ S' = fallS S L ks ls P ∧ ρ = [some (.ref j), some d, some (.ref S.length), o3, o4, o5, o6]) (fun ds ρ S' w => ?_) (fun ρ S' w => ?_) (fun x ds ρ S' w => ?_) _ _ _ ⟨[], ls, _, _, _, _, rfl, rfl, rfl, rfl⟩
  · obtain ⟨P, r, o3, o4, o5, o6, _, _, rfl, _⟩ := w
    exact gN P
  · obtain ⟨P, r, o3, o4, o5, o6, h1, h2, rfl, rfl⟩ := w
    have hr : r = [] := by
      cases r with
      | nil => rfl
      | cons a b => cases h2
    subst hr
    rw [List.append_nil] at h1
    subst h1
    have hkF := hk.ext (G := [.dct (vmap tD (FL L ks 0 ls)), .lst (strsD ls)])
    have lj := lt_of_get hkF.a
    have s1 : ∀ ob, ((fallS S L ks ls ls).set j ob)[j]? = some ob := fun ob => List.getElem?_set_self lj
    walk_at "go"
    rw [hkF.a]
    have p1 : putD (Str.ofString "_files") (.ref S.length) (DkF jf o) = DkF S.length o := rfl
    have p2 : putD (Str.ofString "_power") .non (DkF S.length o) = DkF S.length o := rfl
    walk_at "go"
    simp only [dk_len, and_self, if_true, wp_some, p1, s1, p2, true_and, List.set_set, lk_o, put_o]
    repeat (first | walk_at "go" | simp only [dk_len, and_self, if_true, wp_some, p1, s1, p2, true_and, List.set_set, lk_o, put_o])
    exact itp (by decide) trivial
  · obtain ⟨P, r, o3, o4, o5, o6, h1, h2, rfl, rfl⟩ := w
    cases r with
    | nil => cases h2
    | cons l r =>
      have h2' : (x :: ds) = D.tup [.int (P.length : Nat), .str (mk l)] :: enuD (P.length + 1) (strsD r) := h2
      cases h2'
      simp only [gT, setAll, List.set_cons_succ, List.set_cons_zero, wp_some]
      refine fall_step hk hL hB N hq h1 fun o5 o6 => ?_
      refine ⟨P ++ [l], r, _, _, _, _, by rw [h1]; simp, by rw [List.length_append, List.length_singleton], rfl, rfl⟩
end
end K07

namespace K07
open PySem PySem.StrLaws L2 TL M Ln
local macro_rules | `(tactic| walk_at "go") => `(tactic| simp (maxSteps := 100000000) only [w_def, w_var, w_c, w_bin, w_and, w_or, w_bK, w_not, w_if, w_nil, w_cons, w_tup, w_lst, w_new, w_tv, w_tand, w_tor, w_tnot, w_chain, w_call, w_kw, w_cb, w_ix, w_nop, w_p, w_sl, w_neg, w_ms, w_m1, w_d0, w_app, w_ext, w_pop, w_tr, w_newc, w_s1, w_repl, w_mu, w_addn, w_dget, w_din, w_dget2, w_asgs, w_attr, w_xo, w_lx, w_bx, w_none', w_binS, w_islt, w_zf, w_slR, w_forG, w_forE, w_sE, w_sw, w_lcG, w_sq, w_forx, w_gsd, w_fld, w_setF, w_meth, w_xmeth, w_mk, w_ifE, w_del, w_newD0, w_dnin, w_listKI, w_sortK, w_rev, w_dpop, w_xmethK, w_xmethR, w_lstx, w_isx, w_dctn', w_kwR', w_xkwR, w_mulL', w_sr2, len_mk, add_mk, w_sxr, w_xdef, w_xseq, w_xraise, w_xtry, w_qus, w_okf, w_xkw, mxIf, mxCons, mxCallM, mxCall, mxBin, mxTv, mxRet, mxDrop, mxAsg, outX,
  w_ret, w_skip, w_drop, w_asg, w_par, w_ifs, w_seq, w_seti, w_for, w_lc, w_sr, w_sl', w_st, w_ss, w_sz, w_yes, wp_some, wp_none, wp_bind, wp_map, wp_ite,
  List.map_cons, List.map_nil, List.length_cons, List.length_nil, Nat.reduceAdd, Nat.reduceSub, List.replicate_succ, List.replicate_zero, List.cons_append, List.nil_append, List.append_nil,
  List.getElem?_cons_zero, List.getElem?_cons_succ, List.set_cons_zero, List.set_cons_succ, gN, setAll, gT,
  e_addI, e_addT, e_addL, e_subI, e_mulI, e_modI, e_fdvI, e_powI, e_ltI, e_leI, e_gtI, e_geI, e_ltS, e_gtS, e_isB, e_int, e_abs, e_max, e_min, e_lenT, e_lenL, e_lenQ, e_ixT, e_ixL, e_ixQ, e_ixS, e_slT, e_slL, e_slQ, e_listT, e_listL, e_isi, e_eqI, e_eqS, e_neI, e_neS, e_ninS, iI, iB, iS, iT, at0, at1, at2, at3, at4, at5, at6, at7,
  Bool.false_eq_true, if_false, if_true, decide_eq_true_eq, reduceIte, Bool.not_true, Bool.not_false])
section
variable {S : Sto} {L : Kvl} {ks : List Nat} {ls : List (List Nat)} {xs : List Str} {B j jf jd : Nat} {o : Int} {d : D}
abbrev falnS (S : Sto) (L : Kvl) (ks : List Nat) (P : List (List Nat)) : Sto := S ++ [.dct (vmap lD (FL L ks 0 P))]
noncomputable def gend : StF := (mIfS (mTv (mBin gtD (mVar 6) (mC (.int 0)))) (mAsgS (mLst (mCons (mSl (mVar 5) mNoP (mP (mVar 6))) (mCons (mVar 6) mNil))) (gSD (mVar 3) (mIx (mVar 4) (mVar 2)))) mSkip)
noncomputable abbrev gbody : StF := (mSeq (mAsg (mDGet (mVar 0) (mIx (mVar 4) (mVar 2))) (gL [5, 6]))
  (mSeq (mIfS (mTv (mBin gtD (mCb lenD (mCons (mVar 1) mNil)) (mC (.int 0)))) (mAsg (mBin addD (mVar 6) (mBin modD (mCb intD (mCons (mIx (mVar 1) (mBin modD (mCb intD (mCons (mVar 2) mNil)) (mCb lenD (mCons (mVar 1) mNil)))) mNil)) (mBin addD (mBin subD (mCb lenD (mCons (mVar 5) mNil)) (mVar 6)) (mC (.int 1))))) (gN 6)) mSkip)
  gend))
theorem names_at {P r : List (List Nat)} {l : List Nat} (e : ls = P ++ l :: r) : atI (strsD ls) (P.length : Int) = some (.str (mk l)) := by
  refine atI_nat ?_
  unfold strsD
  rw [List.getElem?_map, e, List.getElem?_append_right (Nat.le_refl _), Nat.sub_self]
  rfl
theorem fallen_step {P r : List (List Nat)} {l : List Nat} {o5 o6 : Option D} (hd : S[jd]? = some (.dct (vmap lD L))) (hL : Lk L B) (hB : B ≤ 100000) (N : Nms L xs ls) (hq : SqAt S d (ksD ks)) (e : ls = P ++ l :: r) {O : Out × Sto → Prop}
    (hO : ∀ o5 o6, O (.nx [some (.ref jd), some d, some (.int (P.length : Int)), some (.ref S.length), some (.lst (strsD ls)), o5, o6], falnS S L ks (P ++ [l]))) :
    wp (gbody [some (.ref jd), some d, some (.int (P.length : Int)), some (.ref S.length), some (.lst (strsD ls)), o5, o6] (falnS S L ks P)) O := by
  obtain ⟨q1, q2, q3, q4, q5⟩ := old_ok hL N (l := l) (by rw [e]; simp)
  have hdE : (falnS S L ks P)[jd]? = some (.dct (vmap lD L)) := by
    unfold falnS
    rw [List.getElem?_append_left (lt_of_get hd)]; exact hd
  have hqE := sq_ext (G := [.dct (vmap lD (FL L ks 0 P))]) hq
  have nl : l ∉ P := by
    have nd := N.nd
    rw [e] at nd
    have := (List.nodup_append.mp nd).2.2
    intro m
    exact this l m l List.mem_cons_self rfl
  have hP : P.length < 64 := by
    have h1 := congrArg List.length e
    rw [List.length_append, List.length_cons, N.len] at h1
    have h2 : xs.length = L.length := by have := congrArg List.length N.ky; simpa using this.symm
    have := N.lt
    omega
  have hlen : (vmap lD (FL L ks 0 P)).length < 100000 := by
    rw [vm_len]
    have := FL_len (L := L) (ks := ks) (ls := P) (i := 0)
    omega
  have g0 : (falnS S L ks P)[S.length]? = some (.dct (vmap lD (FL L ks 0 P))) := get_at
  have na := names_at e
  obtain ⟨b1, b2⟩ := kp_bd (ks := ks) (i := P.length) q5
  have fin : ∀ {o6 : Int}, o6 = ((kp ks P.length (old L l) : Nat) : Int) → wp (gend [some (.ref jd), some d, some (.int (P.length : Int)), some (.ref S.length), some (.lst (strsD ls)), some (.str (mk (old L l).1)), some (.int o6)] (falnS S L ks P)) O := by
    intro o6 e6
    subst e6
    have ef : FL L ks 0 (P ++ [l]) = FL L ks 0 P ++ F1 L ks P.length l := by rw [FL_app, FL_one, Nat.zero_add]
    unfold gend
    walk_at "go"
    refine it2 (fun h0 => ?_) fun h0 => ?_
    · have h0' : 0 < kp ks P.length (old L l) := by omega
      rw [slN (k := kp ks P.length (old L l)) rfl (by omega)]
      walk_at "go"
      refine ⟨by decide, ?_⟩
      rw [na]
      walk_at "go"
      rw [dct_at g0]
      walk_at "go"
      simp only [key_str, wp_some]
      refine itp hlen ?_
      rw [show (D.lst [D.str (mk ((old L l).1.take (kp ks P.length (old L l)))), D.int ((kp ks P.length (old L l) : Nat) : Int)]) = lD ((old L l).1.take (kp ks P.length (old L l)), kp ks P.length (old L l)) from rfl, gput_map, gput_new (FL_nokey nl)]
      have es : falnS S L ks (P ++ [l]) = (falnS S L ks P).set S.length (.dct (vmap lD (FL L ks 0 P ++ [(Sum.inr (mk l), ((old L l).1.take (kp ks P.length (old L l)), kp ks P.length (old L l)))]))) := by
        unfold falnS
        rw [set_at', ef]
        unfold F1
        rw [if_pos h0']
      rw [← es]
      exact hO _ _
    · have h0' : ¬ 0 < kp ks P.length (old L l) := by omega
      have es : falnS S L ks (P ++ [l]) = falnS S L ks P := by
        unfold falnS
        rw [ef]
        unfold F1
        rw [if_neg h0', List.append_nil]
      rw [← es]
      exact hO _ _
  unfold gbody
  rw [w_seq, w_asg]
  simp only [w_dget]
  walk_at "go"
  rw [na]
  walk_at "go"
  simp only [wp_some, dct_at hdE, key_str, gv_map, q2, Option.map_some]
  unfold lD
  simp only [gL, setAll, List.set_cons_succ, List.set_cons_zero, wp_some]
  walk_at "go"
  rw [sq_len hqE]
  have hlk : (ksD ks).length = ks.length := by unfold ksD; rw [List.length_map]
  walk_at "go"
  rw [hlk]
  by_cases hne : ks = []
  · refine itn (by rw [hne]; decide) ?_
    refine fin ?_
    unfold kp
    rw [if_pos hne]
  · have hpos : 0 < ks.length := List.length_pos_iff.mpr hne
    refine itp (by omega) ?_
    rw [sq_len hqE]
    walk_at "go"
    rw [hlk]
    refine itp (by omega) ?_
    rw [← Int.natCast_emod, sq_ix hqE (ksD_at (Nat.mod_lt _ hpos))]
    walk_at "go"
    refine itp (by omega) (itp (by omega) ?_)
    exact fin (kp_int q5 hne)
def upF (k n : Nat) : List D := (List.range' k n).map fun (i : Nat) => D.int (i : Int)
theorem upF_succ {k n : Nat} : upF k (n + 1) = .int (k : Int) :: upF (k + 1) n := by
  unfold upF
  rw [List.range'_succ]
  rfl
theorem upto_upF {n : Nat} : upto n = upF 0 n := by
  unfold upto upF
  rw [List.range_eq_range']
theorem dn {ρ : En} {S : Sto} : mDictN (mCons (mLst mNil) mNil) ρ S = some (.ref S.length, S ++ [.dct []]) := rfl
theorem sort_keys {kvs : List (Key × D)} {xs : List Str} (h : strsOf (keysD kvs) = some xs) (h2 : xs.length < 64) : sortD S [.lst (keysD kvs)] = some (.lst ((sortC xs).map .str)) := by
  show (strsOf (keysD kvs)).bind _ = _
  rw [h]
  show (if xs.length < 64 then _ else _) = _
  rw [if_pos h2]
theorem fallen_ok (hd : S[jd]? = some (.dct (vmap lD L))) (hL : Lk L B) (hB : B ≤ 100000) (N : Nms L xs ls) (hq : SqAt S d (ksD ks)) :
    m__law_fallen [.ref jd, d] S = some (.ref S.length, falnS S L ks ls) := by
  have hdE : (S ++ [Ob.dct []])[jd]? = some (.dct (vmap lD L)) := by rw [List.getElem?_append_left (lt_of_get hd)]; exact hd
  apply wp_eq
  unfold m__law_fallen
  walk_at "go"
  rw [dn]
  walk_at "go"
  rw [dct_at hdE]
  walk_at "go"
  rw [sort_keys (N.st lD) N.lt, N.so]
  walk_at "go"
  have hsl : (strsD ls).length = ls.length := strsD_len ls
  rw [hsl]
  have h64 : ls.length ≤ 64 := by
    have h2 : xs.length = L.length := by have := congrArg List.length N.ky; simpa using this.symm
    have := N.lt
    have := N.len
    omega
  refine itp ⟨by omega, by omega⟩ ?_
  rw [show (ls.length : Int).toNat = ls.length by omega, upto_upF]
  refine wp_loop (fun ds ρ S' => ∃ P r o2 o5 o6, ls = P ++ r ∧ ds = upF P.length r.length ∧ S' = falnS S L ks P ∧ ρ = [some (.ref jd), some d, o2, some (.ref S.length), some (.lst (strsD ls)), o5, o6]) (fun ρ S' w => ?_) (fun x ds ρ S' w => ?_) _ _ _ ⟨[], ls, _, _, _, rfl, rfl, rfl, rfl⟩
  · obtain ⟨P, r, o2, o5, o6, h1, h2, rfl, rfl⟩ := w
    have hr : r = [] := by
      cases r with
      | nil => rfl
      | cons a b => rw [List.length_cons, upF_succ] at h2; cases h2
    subst hr
    rw [List.append_nil] at h1
    subst h1
    walk_at "go"
  · obtain ⟨P, r, o2, o5, o6, h1, h2, rfl, rfl⟩ := w
    cases r with
    | nil => cases h2
    | cons l r =>
      rw [List.length_cons, upF_succ] at h2
      cases h2
      simp only [gN, List.set_cons_succ, List.set_cons_zero, wp_some]
      refine fallen_step hd hL hB N hq h1 fun o5 o6 => ?_
      exact ⟨P ++ [l], r, _, _, _, by rw [h1]; simp, by rw [List.length_append, List.length_singleton], rfl, rfl⟩
end
end K07

namespace K07
open PySem PySem.StrLaws L2 TL M Ln
local macro_rules | `(tactic| walk_at "go") => `(tactic| simp (maxSteps := 100000000) only [w_def, w_var, w_c, w_bin, w_and, w_or, w_bK, w_not, w_if, w_nil, w_cons, w_tup, w_lst, w_new, w_tv, w_tand, w_tor, w_tnot, w_chain, w_call, w_kw, w_cb, w_ix, w_nop, w_p, w_sl, w_neg, w_ms, w_m1, w_d0, w_app, w_ext, w_pop, w_tr, w_newc, w_s1, w_repl, w_mu, w_addn, w_dget, w_din, w_dget2, w_asgs, w_attr, w_xo, w_lx, w_bx, w_none', w_binS, w_islt, w_zf, w_slR, w_forG, w_forE, w_sE, w_sw, w_lcG, w_sq, w_forx, w_gsd, w_fld, w_setF, w_meth, w_xmeth, w_mk, w_ifE, w_del, w_newD0, w_dnin, w_listKI, w_sortK, w_rev, w_dpop, w_xmethK, w_xmethR, w_lstx, w_isx, w_dctn', w_kwR', w_xkwR, w_mulL', w_sr2, len_mk, add_mk, w_sxr, w_xdef, w_xseq, w_xraise, w_xtry, w_qus, w_okf, w_xkw, mxIf, mxCons, mxCallM, mxCall, mxBin, mxTv, mxRet, mxDrop, mxAsg, outX,
  w_ret, w_skip, w_drop, w_asg, w_par, w_ifs, w_seq, w_seti, w_for, w_lc, w_sr, w_sl', w_st, w_ss, w_sz, w_yes, wp_some, wp_none, wp_bind, wp_map, wp_ite,
  List.map_cons, List.map_nil, List.length_cons, List.length_nil, Nat.reduceAdd, Nat.reduceSub, List.replicate_succ, List.replicate_zero, List.cons_append, List.nil_append, List.append_nil,
  List.getElem?_cons_zero, List.getElem?_cons_succ, List.set_cons_zero, List.set_cons_succ, gN, setAll, gT,
  e_addI, e_addT, e_addL, e_subI, e_mulI, e_modI, e_fdvI, e_powI, e_ltI, e_leI, e_gtI, e_geI, e_ltS, e_gtS, e_isB, e_int, e_abs, e_max, e_min, e_lenT, e_lenL, e_lenQ, e_ixT, e_ixL, e_ixQ, e_ixS, e_slT, e_slL, e_slQ, e_listT, e_listL, e_isi, e_eqI, e_eqS, e_neI, e_neS, e_ninS, iI, iB, iS, iT, at0, at1, at2, at3, at4, at5, at6, at7,
  Bool.false_eq_true, if_false, if_true, decide_eq_true_eq, reduceIte, Bool.not_true, Bool.not_false])
section
variable {S S' : Sto} {L : Kvl} {ks : List Nat} {ls : List (List Nat)} {xs : List Str} {B j jf jd jc : Nat} {o : Int} {d : D} {way : Int} {n : List Nat}
theorem fall_bad (h : m_is_list_of [d, .fn "is_count"] S = some (.bl false, S)) : m_Disk_fall [.ref j, d] S = some (.ex "InvalidKeeps" [("given", d)], S) := by
  apply wp_eq
  unfold m_Disk_fall
  walk_at "go"
  rw [h]
  walk_at "go"
theorem hd_yes {l : HdM} {r : List HdM} {cn : Str} {fs : Fs} {ρ : En} (h : l.sb cn = some true) : handle (l :: r) cn fs ρ S = (l.h (setE ρ (.err cn fs) l.i) S).map fun x => (outC l.i x.1, x.2) := by
  rw [handle, h]
  rfl
theorem hd_k {a b c : Option D} : handle [⟨sbSelf "InvalidKeeps", some 3, (mRet (mLst (mCons (mC (.str "keeps")) (mCons (mAttr ["InvalidKeeps"] "given" (mVar 3)) mNil))))⟩] "InvalidKeeps" [("given", d)] [a, b, c, none] S = some (.rt (.lst [.str "keeps", d]), S) := by
  have e : (mRet (mLst (mCons (mC (D.str "keeps")) (mCons (mAttr ["InvalidKeeps"] "given" (mVar 3)) mNil)))) [a, b, c, some (.err "InvalidKeeps" [("given", d)])] S = some (.rt (.lst [.str "keeps", d]), S) := by
    apply wp_eq
    walk_at "go"
    refine itp List.mem_cons_self ?_
    rw [show List.lookup (Str.ofString "given") [(("given" : Str), d)] = some d from List.lookup_cons_self]
    walk_at "go"
    exact ⟨by decide, trivial⟩
  rw [hd_yes rfl]
  dsimp only [setE, List.set_cons_succ, List.set_cons_zero]
  rw [e]
  rfl
theorem told_ok (hk : Dk S j jf o L) (h : m_Disk_fall [.ref j, d] S = some (.ok .non, S')) : m__law_told [.ref j, .int way, d] S = some (.lst [.str "told", .non], S') := by
  have lk : List.lookup (Str.ofString "fall") (DkF jf o) = none := rfl
  apply wp_eq
  unfold m__law_told
  rw [w_def, w_qus, w_xtry]
  show wp (mxRet _ [some (.ref j), some (.int way), some d, none] S) _
  walk_at "go"
  refine it2 (fun _ => ?_) fun _ => ?_
  · rw [hk.a]
    walk_at "go"
    simp only [lk, and_self, if_true]
    show wp (m_Disk_fall [.ref j, d] S) _
    rw [h]
    walk_at "go"
    exact itp (by decide) trivial
  · rw [hk.a]
    walk_at "go"
    simp only [lk, and_self, if_true]
    show wp (m_Disk_fall [.ref j, d] S) _
    rw [h]
    walk_at "go"
    exact itp (by decide) trivial
theorem told_bad (hk : Dk S j jf o L) (h : m_Disk_fall [.ref j, d] S = some (.ex "InvalidKeeps" [("given", d)], S)) : m__law_told [.ref j, .int way, d] S = some (.lst [.str "keeps", d], S) := by
  have lk : List.lookup (Str.ofString "fall") (DkF jf o) = none := rfl
  apply wp_eq
  unfold m__law_told
  rw [w_def, w_qus, w_xtry]
  show wp (mxRet _ [some (.ref j), some (.int way), some d, none] S) _
  walk_at "go"
  refine it2 (fun _ => ?_) fun _ => ?_
  · rw [hk.a]
    walk_at "go"
    simp only [lk, and_self, if_true]
    show wp (m_Disk_fall [.ref j, d] S) _
    rw [h]
    walk_at "go"
    rw [hd_k]
    walk_at "go"
  · rw [hk.a]
    walk_at "go"
    simp only [lk, and_self, if_true]
    show wp (m_Disk_fall [.ref j, d] S) _
    rw [h]
    walk_at "go"
    rw [hd_k]
    walk_at "go"
theorem read_none (hk : Dk S j jf o L) (hn : NmOk n) (h : gv L (Sum.inr (mk n)) = none) : m_Disk_read [.ref j, .str (mk n)] S = some (.ex "NoFile" [("name", .str (mk n))], S) := by
  apply wp_eq
  unfold m_Disk_read
  walk_at "go"
  rw [hk.a]
  walk_at "go"
  simp only [lk_fd, and_self, if_true]
  show wp ((m_Disk__found [.ref j, .str (mk n)] S)) _
  rw [found_none hk hn h]
  walk_at "go"
theorem hd_g {a : Option D} : handle [⟨sbSelf "NoFile", some 2, (mRet (mBin eqD (mAttr ["NoFile"] "name" (mVar 2)) (mVar 1)))⟩] "NoFile" [("name", .str (mk n))] [a, some (.str (mk n)), none] S = some (.rt (.bl true), S) := by
  have e : (mRet (mBin eqD (mAttr ["NoFile"] "name" (mVar 2)) (mVar 1))) [a, some (.str (mk n)), some (.err "NoFile" [("name", .str (mk n))])] S = some (.rt (.bl true), S) := by
    apply wp_eq
    walk_at "go"
    refine itp List.mem_cons_self ?_
    rw [show List.lookup (Str.ofString "name") [(("name" : Str), D.str (mk n))] = some (.str (mk n)) from List.lookup_cons_self]
    walk_at "go"
    simp
  rw [hd_yes rfl]
  dsimp only [setE, List.set_cons_succ, List.set_cons_zero]
  rw [e]
  rfl
theorem is_gone (hk : Dk S j jf o L) (hn : NmOk n) (h : gv L (Sum.inr (mk n)) = none) : m__law_is_gone [.ref j, .str (mk n)] S = some (.bl true, S) := by
  have lk : List.lookup (Str.ofString "read") (DkF jf o) = none := rfl
  apply wp_eq
  unfold m__law_is_gone
  rw [w_def, w_qus, w_xtry]
  show wp (mxSeq _ _ [some (.ref j), some (.str (mk n)), none] S) _
  walk_at "go"
  rw [hk.a]
  walk_at "go"
  simp only [lk, and_self, if_true]
  show wp (m_Disk_read [.ref j, .str (mk n)] S) _
  rw [read_none hk hn h]
  walk_at "go"
  rw [hd_g]
  walk_at "go"
def POOL : List (List Nat) := [cs "b", cs "abc", cs "ab", cs "a-", cs "10", cs "9", cs "-", cs "log-0010", cs "a0"]
theorem pool_ok : ∀ l ∈ POOL, NmOk l := by unfold NmOk; decide +kernel
theorem pool_spec : m__law_pool [] S = some (.lst (strsD POOL), S) := by
  apply wp_eq
  unfold m__law_pool
  walk_at "go"
  refine ⟨by decide, ?_⟩
  unfold strsD POOL
  simp only [List.map_cons, List.map_nil, mk_cs]
theorem pool_at {r : Int} {Q : D → Prop} (h0 : 0 ≤ r) (h1 : r < 9) (hQ : ∀ l, NmOk l → Q (.str (mk l))) : wp (atI (strsD POOL) r) Q := by
  refine wp_at h0 (by rw [strsD_len]; exact h1) fun d m => ?_
  obtain ⟨l, hl, rfl⟩ := List.mem_map.mp m
  exact hQ l (pool_ok l hl)
theorem meth_sy {i : Nat} {v : List Nat × Nat} (hk : Dk S j jf o L) (hn : NmOk n) (h : gv L (Sum.inr (mk n)) = some v) {i0 : Nat} {ρ : En} {Q : D × Sto → Prop} (h0 : ρ[i0]? = some (some (.ref j))) (h3 : ρ[i]? = some (some (.str (mk n)))) (q : Q (.int (v.2 : Int), S)) : wp (mMeth "Disk" "synced" (okF m_Disk_synced) (mVar i0) (mCons (mVar i) mNil) ρ S) Q := by
  have lk : List.lookup (Str.ofString "synced") (DkF jf o) = none := rfl
  simp only [w_meth, w_var, h0, wp_some, hk.a, lk, and_self, if_true, wp_bind, w_cons, w_nil, h3, w_okf, synced_ok hk hn h]
  exact q
theorem meth_rd {i : Nat} {v : List Nat × Nat} (hk : Dk S j jf o L) (hn : NmOk n) (h : gv L (Sum.inr (mk n)) = some v) {i0 : Nat} {ρ : En} {Q : D × Sto → Prop} (h0 : ρ[i0]? = some (some (.ref j))) (h3 : ρ[i]? = some (some (.str (mk n)))) (q : Q (.str (mk v.1), S)) : wp (mMeth "Disk" "read" (okF m_Disk_read) (mVar i0) (mCons (mVar i) mNil) ρ S) Q := by
  have lk : List.lookup (Str.ofString "read") (DkF jf o) = none := rfl
  simp only [w_meth, w_var, h0, wp_some, hk.a, lk, and_self, if_true, wp_bind, w_cons, w_nil, h3, w_okf, read_ok hk hn h]
  exact q
theorem meth_nm (hk : Dk S j jf o L) (N : Nms L xs ls) {i : Nat} {ρ : En} {Q : D × Sto → Prop} (h0 : ρ[i]? = some (some (.ref j))) (q : Q (.ref S.length, S ++ [.lst (strsD ls)])) : wp (mMeth "Disk" "names" m_Disk_names (mVar i) mNil ρ S) Q := by
  have lk : List.lookup (Str.ofString "names") (DkF jf o) = none := rfl
  simp only [w_meth, w_var, h0, wp_some, hk.a, lk, and_self, if_true, wp_bind, w_nil, names_spec hk (N.st tD) N.lt, N.so]
  exact q
theorem alike (h : Pr S j jf jd jc o L) (hL : Lk L B) (hB : B ≤ 50000) (N : Nms L xs ls) (ho : o.natAbs < 10 ^ 40) : m__law_alike [.ref j, .ref jd, .ref jc] S = some (.bl true, S ++ [.lst (strsD ls)]) := by
  have hls : ∀ l ∈ ls, l.all sgn = true := fun l m => nm_sgn (N.ok l m).1
  have hE := h.ext (G := [Ob.lst (strsD ls)])
  obtain ⟨z, hz⟩ := e_repr (fd_mono (fd_sm (S := S ++ [Ob.lst (strsD ls)]) (k := 0) (b := 0) ho) (by decide) (by decide) : Fd (S ++ [Ob.lst (strsD ls)]) (.int o) 60 100000)
  apply wp_eq
  unfold m__law_alike t__law_alike_7 t__law_alike_0
  rw [w_def, w_seq, w_ifs, w_tor, w_tv, w_binS]
  refine meth_nm h.dk N rfl ?_
  walk_at "go"
  rw [dct_at hE.d]
  walk_at "go"
  rw [sort_keys (N.st lD) N.lt, N.so]
  walk_at "go"
  rw [ne_ls (as := ls) (bs := ls) (by show stLst _ _ = _; exact stLst_of get_new) rfl hls hls]
  walk_at "go"
  refine itn (by simp) ?_
  rw [hE.dk.a]
  walk_at "go"
  rw [show List.lookup (Str.ofString "ops") (DkF jf o) = none from rfl]
  simp only [and_self, if_true]
  rw [ops_spec hE.dk]
  walk_at "go"
  rw [hz]
  walk_at "go"
  rw [ix_c hE.c]
  walk_at "go"
  rw [hz]
  walk_at "go"
  refine itn (by simp) ?_
  unfold t__law_alike_6
  walk_at "go"
  rw [pool_spec]
  walk_at "go"
  refine wp_loop (fun ds ρ S' => S' = S ++ [.lst (strsD ls)] ∧ (∀ d ∈ ds, ∃ l, d = .str (mk l) ∧ NmOk l) ∧ ∃ o3, ρ = [some (.ref j), some (.ref jd), some (.ref jc), o3]) (fun ρ S' w => ?_) (fun d ds ρ S' w => ?_) _ _ _ ⟨rfl, fun d m => ?_, _, rfl⟩
  · obtain ⟨rfl, _, o3, rfl⟩ := w
    unfold t__law_alike_5
    walk_at "go"
  · obtain ⟨rfl, hd, o3, rfl⟩ := w
    have hr := fun x m => hd x (List.mem_cons_of_mem _ m)
    obtain ⟨l, rfl, hn⟩ := hd d List.mem_cons_self
    unfold t__law_alike_4 t__law_alike_1
    simp only [gN, wp_some, List.set_cons_succ, List.set_cons_zero]
    cases hv : gv L (Sum.inr (mk l)) with
    | none =>
      walk_at "go"
      simp only [dct_at hE.d, wp_some, key_str, gv_map, hv, Option.map_none, Option.isSome_none, Bool.not_false]
      walk_at "go"
      rw [is_gone hE.dk hn hv]
      walk_at "go"
      unfold t__law_alike_3
      walk_at "go"
      simp only [dct_at hE.d, wp_some, key_str, gv_map, hv, Option.map_none, Option.isSome_none]
      walk_at "go"
      exact ⟨trivial, hr, _, rfl⟩
    | some v =>
      obtain ⟨kv, m2, rfl⟩ := gv_mem hv
      obtain ⟨b1, b2, b3⟩ := hL.tx kv m2
      obtain ⟨x, hx⟩ := e_repr (fd_v (S := S ++ [Ob.lst (strsD ls)]) (v := kv.2) (by omega) b2 (by omega)).1
      walk_at "go"
      simp only [dct_at hE.d, wp_some, key_str, gv_map, hv, Option.map_some, Option.isSome_some, Bool.not_true]
      walk_at "go"
      unfold t__law_alike_3 t__law_alike_2
      rw [w_ifs, w_tand, w_tv]
      walk_at "go"
      simp only [dct_at hE.d, wp_some, key_str, gv_map, hv, Option.map_some, Option.isSome_some]
      walk_at "go"
      rw [hE.dk.a]
      walk_at "go"
      rw [show List.lookup (Str.ofString "read") (DkF jf o) = none from rfl]
      simp only [and_self, if_true]
      rw [read_ok hE.dk hn hv]
      walk_at "go"
      rw [hE.dk.a]
      walk_at "go"
      rw [show List.lookup (Str.ofString "synced") (DkF jf o) = none from rfl]
      simp only [and_self, if_true]
      rw [synced_ok hE.dk hn hv]
      walk_at "go"
      refine ⟨by decide, ?_⟩
      rw [hx]
      walk_at "go"
      simp only [dct_at hE.d, wp_some, key_str, gv_map, hv, Option.map_some]
      unfold lD
      rw [hx]
      walk_at "go"
      refine itn (by simp) ?_
      exact ⟨trivial, hr, _, rfl⟩
  · obtain ⟨l, hl, rfl⟩ := List.mem_map.mp m
    exact ⟨l, rfl, pool_ok l hl⟩
end
end K07

namespace K07
open PySem PySem.StrLaws L2 TL M Ln
local macro_rules | `(tactic| walk_at "go") => `(tactic| simp (maxSteps := 100000000) only [w_def, w_var, w_c, w_bin, w_and, w_or, w_bK, w_not, w_if, w_nil, w_cons, w_tup, w_lst, w_new, w_tv, w_tand, w_tor, w_tnot, w_chain, w_call, w_kw, w_cb, w_ix, w_nop, w_p, w_sl, w_neg, w_ms, w_m1, w_d0, w_app, w_ext, w_pop, w_tr, w_newc, w_s1, w_repl, w_mu, w_addn, w_dget, w_din, w_dget2, w_asgs, w_attr, w_xo, w_lx, w_bx, w_none', w_binS, w_islt, w_zf, w_slR, w_forG, w_forE, w_sE, w_sw, w_lcG, w_sq, w_forx, w_gsd, w_fld, w_setF, w_meth, w_xmeth, w_mk, w_ifE, w_del, w_newD0, w_dnin, w_listKI, w_sortK, w_rev, w_dpop, w_xmethK, w_xmethR, w_lstx, w_isx, w_dctn', w_kwR', w_xkwR, w_mulL', w_sr2, len_mk, add_mk, w_sxr, w_xdef, w_xseq, w_xraise, w_xtry, w_qus, w_okf, w_xkw, mxIf, mxCons, mxCallM, mxCall, mxBin, mxTv, mxRet, mxDrop, mxAsg, outX,
  w_ret, w_skip, w_drop, w_asg, w_par, w_ifs, w_seq, w_seti, w_for, w_lc, w_sr, w_sl', w_st, w_ss, w_sz, w_yes, wp_some, wp_none, wp_bind, wp_map, wp_ite,
  List.map_cons, List.map_nil, List.length_cons, List.length_nil, Nat.reduceAdd, Nat.reduceSub, List.replicate_succ, List.replicate_zero, List.cons_append, List.nil_append, List.append_nil,
  List.getElem?_cons_zero, List.getElem?_cons_succ, List.set_cons_zero, List.set_cons_succ, gN, setAll, gT,
  e_addI, e_addT, e_addL, e_subI, e_mulI, e_modI, e_fdvI, e_powI, e_ltI, e_leI, e_gtI, e_geI, e_ltS, e_gtS, e_isB, e_int, e_abs, e_max, e_min, e_lenT, e_lenL, e_lenQ, e_ixT, e_ixL, e_ixQ, e_ixS, e_slT, e_slL, e_slQ, e_listT, e_listL, e_isi, e_eqI, e_eqS, e_neI, e_neS, e_ninS, iI, iB, iS, iT, at0, at1, at2, at3, at4, at5, at6, at7,
  Bool.false_eq_true, if_false, if_true, decide_eq_true_eq, reduceIte, Bool.not_true, Bool.not_false])
section
variable {S S' : Sto} {L : Kvl} {ks : List Nat} {ls : List (List Nat)} {xs : List Str} {B j jf jd jc jb N : Nat} {o n : Int} {d : D} {way : Int}
/-! ### lists of counts, compared -/
theorem toPA_ks : ∀ ns : List Nat, toPA (ksD ns) = some (ns.map fun (k : Nat) => PyData.int (k : Int))
  | [] => by rw [ksD, List.map_nil, toPA]; rfl
  | k :: r => by
    have ih := toPA_ks r
    unfold ksD at ih ⊢
    rw [List.map_cons, toPA, toP, ih]
    rfl
theorem toPSA_ks : ∀ ns : List Nat, toPSA S (ksD ns) = some (ns.map fun (k : Nat) => PyData.int (k : Int))
  | [] => by rw [ksD, List.map_nil, toPSA]; rfl
  | k :: r => by
    have ih := toPSA_ks r
    unfold ksD at ih ⊢
    rw [List.map_cons, toPSA, toPS, ih]
    rfl
theorem depth_ks : ∀ ns : List Nat, PyData.depthAll (ns.map fun (k : Nat) => PyData.int (k : Int)) ≤ 1
  | [] => by rw [List.map_nil, PyData.depthAll]; omega
  | k :: r => by
    have ih := depth_ks r
    rw [List.map_cons, PyData.depthAll, PyData.depth]
    omega
theorem lay_ks : ∀ ns : List Nat, PyData.canLayAll0 (ns.map fun (k : Nat) => PyData.int (k : Int)) = true
  | [] => by rw [List.map_nil, PyData.canLayAll0]
  | k :: r => by
    rw [List.map_cons, PyData.canLayAll0, lay_ks r, PyData.canLay0]
    rfl
theorem eqv_ks : ∀ ns : List Nat, PyData.eqvAll (ns.map fun (k : Nat) => PyData.int (k : Int)) (ns.map fun (k : Nat) => PyData.int (k : Int)) = true
  | [] => by rw [List.map_nil, PyData.eqvAll]
  | k :: r => by
    rw [List.map_cons, PyData.eqvAll, eqv_ks r, PyData.eqv]
    simp
theorem ne_ks {i : Nat} (h : S[i]? = some (.lst (ksD ks))) : neS S (.lst (ksD ks)) (.ref i) = some (.bl false) := by
  have e1 : toPS S (.lst (ksD ks)) = some (.list (ks.map fun (k : Nat) => PyData.int (k : Int))) := by rw [toPS, toPSA_ks]; rfl
  have e2 : toPS S (.ref i) = some (.list (ks.map fun (k : Nat) => PyData.int (k : Int))) := by
    rw [toPS, stLst_of h]
    show (toPA (ksD ks)).map _ = _
    rw [toPA_ks]
    rfl
  have sh : SeqAt.shaped (.list (ks.map fun (k : Nat) => PyData.int (k : Int))) = true := by
    unfold SeqAt.shaped
    rw [PyData.canLay0, lay_ks, PyData.depth]
    have := depth_ks ks
    simp
    omega
  unfold neS
  rw [e1, e2]
  show (if _ then _ else _) = _
  rw [if_pos ⟨sh, sh⟩, PyData.eqv, eqv_ks]
  rfl
theorem ne_told : neD (.lst [.str "told", .non]) (.lst [.str "told", .non]) = some (.bl false) := by
  have e : eqD (.lst [.str "told", .non]) (.lst [.str "told", .non]) = some (.bl true) := by
    rw [show ∀ a b : List D, eqD (.lst a) (.lst b) = eqD0 (.lst a) (.lst b) from fun _ _ => rfl]
    unfold eqD0
    simp only [toP, toPA, Option.bind_some, Option.map_some]
    have sh : SeqAt.shaped (.list [.str "told", .none]) = true := by decide +kernel
    show (if _ then _ else _) = _
    rw [if_pos ⟨sh, sh⟩]
    simp [PyData.eqv, PyData.eqvAll]
  unfold neD
  rw [e]
  rfl
theorem strs_of (ls : List (List Nat)) : strsOf (strsD ls) = some (ls.map mk) := by
  induction ls with
  | nil => rfl
  | cons l r ih =>
    show (strsOf (strsD r)).map _ = _
    rw [ih]
    rfl
theorem nin_names {i : Nat} {l : List Nat} (h : S[i]? = some (.lst (strsD ls))) : ninQS S (.str (mk l)) (.ref i) = some (.bl (!decide (l ∈ ls))) := by
  unfold ninQS
  show ((stLst S i).bind _) = _
  rw [stLst_of h]
  show ((memD (strsD ls) (.str (mk l))).map _) = _
  show (((strsOf (strsD ls)).map fun ys => decide (mk l ∈ ys)).map _) = _
  rw [strs_of]
  show some (D.bl (!decide (mk l ∈ ls.map mk))) = _
  congr 3
  refine decide_eq_decide.mpr ⟨fun m => ?_, fun m => List.mem_map_of_mem m⟩
  obtain ⟨l', m', e⟩ := List.mem_map.mp m
  rw [← mk_inj.mp e]
  exact m'
/-! ### keeps -/
theorem BE.set {i : Nat} {x : Ob} (h : BE jb S S') (hi : S.length ≤ i) : BE jb S (S'.set i x) :=
  ⟨by rw [List.length_set]; exact h.le, fun k hk q => by rw [List.getElem?_set_ne (by omega)]; exact h.at_ k hk q⟩
theorem ksD_app (ns : List Nat) (k : Nat) : ksD ns ++ [.int (k : Int)] = ksD (ns ++ [k]) := by
  unfold ksD
  rw [List.map_append]
  rfl
theorem ksD_len (ns : List Nat) : (ksD ns).length = ns.length := List.length_map _
def KsOk (ks : List Nat) : Prop := ks.length ≤ 12 ∧ ∀ k ∈ ks, k < 10 ^ 15
theorem keeps_spec {Q : D × Sto → Prop} (Bj : Bx S jb n) (hn : n ≤ 800000)
    (h : ∀ ks i S', KsOk ks → S.length ≤ i → S'[i]? = some (.lst (ksD ks)) → Bx S' jb (n + 30) → BE jb S S' → Q (.ref i, S')) : wp (m__law_keeps [.ref jb] S) Q := by
  unfold m__law_keeps
  walk_at "go"
  refine ⟨by decide, ?_⟩
  refine take_spec2 Bj (by decide) (by decide) (by omega) fun r S1 r0 r1 B1 b1 => ?_
  refine wp_at r0 (by show r < 7; omega) fun x m => ?_
  obtain ⟨c, rfl, c12⟩ : ∃ c : Nat, x = .int (c : Int) ∧ c ≤ 12 := by
    simp only [List.mem_cons, List.not_mem_nil, or_false] at m
    rcases m with rfl | rfl | rfl | rfl | rfl | rfl | rfl
    · exact ⟨0, rfl, by decide⟩
    · exact ⟨1, rfl, by decide⟩
    · exact ⟨2, rfl, by decide⟩
    · exact ⟨3, rfl, by decide⟩
    · exact ⟨4, rfl, by decide⟩
    · exact ⟨9, rfl, by decide⟩
    · exact ⟨12, rfl, by decide⟩
  walk_at "go"
  refine ⟨by decide, itp ⟨by omega, by omega⟩ ?_⟩
  rw [show (c : Int).toNat = c by omega]
  have le1 : S.length ≤ S1.length := Nat.le_of_eq b1.len.symm
  refine wp_loop (fun ds ρ S' => ∃ ks o3 o4 o5, KsOk ks ∧ ks.length + ds.length ≤ 12 ∧ S'[S1.length]? = some (.lst (ksD ks)) ∧ Bx S' jb (n + 1 + 2 * ks.length) ∧ BE jb S S' ∧ ρ = [some (.ref jb), some (.int (c : Int)), some (.ref S1.length), o3, o4, o5]) (fun ρ S' w => ?_) (fun d ds ρ S' w => ?_) _ _ _ ⟨[], _, _, _, ⟨by decide, fun _ m => by cases m⟩, by simp [upto]; omega, get_new, by simpa using B1.ext, b1.be.trans BE.ext, rfl⟩
  · obtain ⟨ks, o3, o4, o5, k1, k2, k3, k4, k5, rfl⟩ := w
    walk_at "go"
    exact h ks _ S' k1 le1 k3 (k4.mono (by have := k1.1; omega)) k5
  · obtain ⟨ks, o3, o4, o5, k1, k2, k3, k4, k5, rfl⟩ := w
    rw [List.length_cons] at k2
    walk_at "go"
    refine ⟨by decide, ?_⟩
    have hl1 := k1.1
    refine take_spec2 k4 (by decide) (by decide) (by omega) fun r S2 r0 r1 B2 b2 => ?_
    refine wp_at r0 (by show r < 9; omega) fun x m => ?_
    obtain ⟨s, rfl, s20⟩ : ∃ s : Nat, x = .int (s : Int) ∧ s ≤ 20 := by
      simp only [List.mem_cons, List.not_mem_nil, or_false] at m
      rcases m with rfl | rfl | rfl | rfl | rfl | rfl | rfl | rfl | rfl
      · exact ⟨0, rfl, by decide⟩
      · exact ⟨0, rfl, by decide⟩
      · exact ⟨1, rfl, by decide⟩
      · exact ⟨2, rfl, by decide⟩
      · exact ⟨3, rfl, by decide⟩
      · exact ⟨5, rfl, by decide⟩
      · exact ⟨7, rfl, by decide⟩
      · exact ⟨11, rfl, by decide⟩
      · exact ⟨20, rfl, by decide⟩
    walk_at "go"
    refine take_spec2 B2 (by decide) (by decide) (by omega) fun g S3 g0 g1 B3 b3 => ?_
    have hi : S1.length ≠ jb := by have := B1.lt; omega
    have k3' : S3[S1.length]? = some (.lst (ksD ks)) := by rw [(b2.trans b3).at_ _ hi]; exact k3
    walk_at "go"
    rw [stLst_of k3']
    walk_at "go"
    have fin : ∀ {v : Int} {k : Nat}, v = (k : Int) → k < 10 ^ 15 → ∃ ks' o3 o4 o5, KsOk ks' ∧ ks'.length + ds.length ≤ 12 ∧ (S3.set S1.length (.lst (ksD ks ++ [.int v])))[S1.length]? = some (.lst (ksD ks')) ∧ Bx (S3.set S1.length (.lst (ksD ks ++ [.int v]))) jb (n + 1 + 2 * ks'.length) ∧ BE jb S (S3.set S1.length (.lst (ksD ks ++ [.int v]))) ∧ [some (D.ref jb), some (.int (c : Int)), some (.ref S1.length), some d, some (.int (s : Int)), some (.bl (decide (g = 0)))] = [some (.ref jb), some (.int (c : Int)), some (.ref S1.length), o3, o4, o5] := by
      intro v k e hk
      subst e
      refine ⟨ks ++ [k], _, _, _, ⟨by rw [List.length_append, List.length_singleton]; omega, fun x m => ?_⟩, by rw [List.length_append, List.length_singleton]; omega, ?_, ?_, (k5.trans (b2.trans b3).be).set le1, rfl⟩
      · rcases List.mem_append.mp m with m | m
        · exact k1.2 x m
        · rw [List.mem_singleton.mp m]; exact hk
      · rw [List.getElem?_set_self (lt_of_get k3'), ksD_app]
      · refine (B3.of_eq (S' := S3.set S1.length _) (List.getElem?_set_ne hi)).mono ?_
        rw [List.length_append, List.length_singleton]
        omega
    have hkl : (ksD ks).length < 100000 := by rw [ksD_len]; omega
    refine it2 (fun _ => ?_) fun _ => ?_
    · refine itp (by decide) ?_
      refine itp hkl ?_
      exact fin (k := 999999999999999 - s) (by have e15 : ((10 : Int) ^ Int.toNat 15) = 1000000000000000 := by decide
                                               rw [e15]; omega) (by omega)
    · refine itp hkl ?_
      exact fin (k := s) rfl (by omega)
end
end K07

namespace K07
open PySem PySem.StrLaws L2 TL M Ln
local macro_rules | `(tactic| walk_at "go") => `(tactic| simp (maxSteps := 100000000) only [w_def, w_var, w_c, w_bin, w_and, w_or, w_bK, w_not, w_if, w_nil, w_cons, w_tup, w_lst, w_new, w_tv, w_tand, w_tor, w_tnot, w_chain, w_call, w_kw, w_cb, w_ix, w_nop, w_p, w_sl, w_neg, w_ms, w_m1, w_d0, w_app, w_ext, w_pop, w_tr, w_newc, w_s1, w_repl, w_mu, w_addn, w_dget, w_din, w_dget2, w_asgs, w_attr, w_xo, w_lx, w_bx, w_none', w_binS, w_islt, w_zf, w_slR, w_forG, w_forE, w_sE, w_sw, w_lcG, w_sq, w_forx, w_gsd, w_fld, w_setF, w_meth, w_xmeth, w_mk, w_ifE, w_del, w_newD0, w_dnin, w_listKI, w_sortK, w_rev, w_dpop, w_xmethK, w_xmethR, w_lstx, w_isx, w_dctn', w_kwR', w_xkwR, w_mulL', w_sr2, len_mk, add_mk, w_sxr, w_xdef, w_xseq, w_xraise, w_xtry, w_qus, w_okf, w_xkw, mxIf, mxCons, mxCallM, mxCall, mxBin, mxTv, mxRet, mxDrop, mxAsg, outX,
  w_ret, w_skip, w_drop, w_asg, w_par, w_ifs, w_seq, w_seti, w_for, w_lc, w_sr, w_sl', w_st, w_ss, w_sz, w_yes, wp_some, wp_none, wp_bind, wp_map, wp_ite,
  List.map_cons, List.map_nil, List.length_cons, List.length_nil, Nat.reduceAdd, Nat.reduceSub, List.replicate_succ, List.replicate_zero, List.cons_append, List.nil_append, List.append_nil,
  List.getElem?_cons_zero, List.getElem?_cons_succ, List.set_cons_zero, List.set_cons_succ, gN, setAll, gT,
  e_addI, e_addT, e_addL, e_subI, e_mulI, e_modI, e_fdvI, e_powI, e_ltI, e_leI, e_gtI, e_geI, e_ltS, e_gtS, e_isB, e_int, e_abs, e_max, e_min, e_lenT, e_lenL, e_lenQ, e_ixT, e_ixL, e_ixQ, e_ixS, e_slT, e_slL, e_slQ, e_listT, e_listL, e_isi, e_eqI, e_eqS, e_neI, e_neS, e_ninS, iI, iB, iS, iT, at0, at1, at2, at3, at4, at5, at6, at7,
  Bool.false_eq_true, if_false, if_true, decide_eq_true_eq, reduceIte, Bool.not_true, Bool.not_false])
section
variable {S S' : Sto} {L : Kvl} {ks : List Nat} {ls : List (List Nat)} {xs : List Str} {B B' j jf jd jc jb N : Nat} {o n : Int} {d : D} {way : Int} {l : List Nat}
theorem gput_mem {L : Kvl} {k : Key} {v : List Nat × Nat} : ∀ kv ∈ gput L k v, kv ∈ L ∨ (kv.1 = k ∧ kv.2 = v) := by
  intro kv m
  unfold gput at m
  split at m
  · obtain ⟨kv', m', e⟩ := List.mem_map.mp m
    by_cases q : kv'.1 = k
    · right
      rw [if_pos q] at e
      subst e
      exact ⟨by first | exact q | rfl, rfl⟩
    · rw [if_neg q] at e
      subst e
      exact .inl m'
  · rcases List.mem_append.mp m with m | m
    · exact .inl m
    · right
      rw [List.mem_singleton.mp m]
      exact ⟨rfl, rfl⟩
theorem gput_len {L : Kvl} {k : Key} {v : List Nat × Nat} : (gput L k v).length ≤ L.length + 1 := by
  unfold gput
  split
  · rw [List.length_map]; omega
  · rw [List.length_append]; simp
structure Ne4 (j jf jd jc : Nat) : Prop where
  a : jd ≠ jc
  b : jd ≠ j
  c : jd ≠ jf
  d : jc ≠ j
  e : jc ≠ jf
  f : jf ≠ j
theorem Pr.of_eq (h : Pr S j jf jd jc o L) (e1 : S'[j]? = S[j]?) (e2 : S'[jf]? = S[jf]?) (e3 : S'[jd]? = S[jd]?) (e4 : S'[jc]? = S[jc]?) : Pr S' j jf jd jc o L :=
  ⟨⟨by rw [e1]; exact h.dk.a, by rw [e2]; exact h.dk.b⟩, by rw [e3]; exact h.d, by rw [e4]; exact h.c⟩
structure KB (N : Nat) (S S' : Sto) : Prop where
  len : S'.length = S.length
  at_ : ∀ i, i < N → S'[i]? = S[i]?
theorem KB.refl : KB N S S := ⟨rfl, fun _ _ => rfl⟩
theorem gput_nd {L : Kvl} {k : Key} {v : List Nat × Nat} (nd : (L.map (·.1)).Nodup) : ((gput L k v).map (·.1)).Nodup := by
  unfold gput
  split
  · rw [List.map_map]
    have e : ((fun kv : Key × (List Nat × Nat) => kv.1) ∘ fun kv => if kv.1 = k then (kv.1, v) else kv) = fun kv => kv.1 := by
      funext kv
      by_cases q : kv.1 = k <;> simp [q]
    rw [e]
    exact nd
  · rename_i q
    rw [List.map_append]
    refine List.nodup_append.mpr ⟨nd, by simp, fun a m b mb e => q ?_⟩
    have eb : b = k := by simpa using mb
    obtain ⟨kv, m1, m2⟩ := List.mem_map.mp m
    exact List.any_eq_true.mpr ⟨kv, m1, decide_eq_true (by rw [m2, e, eb])⟩
theorem lk_put {v : List Nat × Nat} (h : Lk L B) (hn : NmOk l) (h1 : v.1.length ≤ B') (h2 : ∀ c ∈ v.1, c < 128) (h3 : v.2 ≤ v.1.length) (le : B ≤ B') : Lk (gput L (Sum.inr (mk l)) v) B' := by
  refine ⟨fun kv m => ?_, fun kv m => ?_, gput_nd h.nd⟩
  · rcases gput_mem kv m with m | ⟨e1, e2⟩
    · exact h.nm kv m
    · exact ⟨l, e1, hn⟩
  · rcases gput_mem kv m with m | ⟨e1, e2⟩
    · obtain ⟨t1, t2, t3⟩ := h.tx kv m
      exact ⟨by omega, t2, t3⟩
    · rw [e2]; exact ⟨h1, h2, h3⟩
theorem lk_mono (h : Lk L B) (le : B ≤ B') : Lk L B' := by
  refine ⟨h.nm, fun kv m => ?_, h.nd⟩
  obtain ⟨t1, t2, t3⟩ := h.tx kv m
  exact ⟨by omega, t2, t3⟩
theorem lk_at {k : Key} {v : List Nat × Nat} (h : Lk L B) (e : gv L k = some v) : v.1.length ≤ B ∧ (∀ c ∈ v.1, c < 128) ∧ v.2 ≤ v.1.length := by
  obtain ⟨kv, m, rfl⟩ := gv_mem e
  exact h.tx kv m
theorem lk_old (h : Lk L B) : (old L l).1.length ≤ B ∧ (∀ c ∈ (old L l).1, c < 128) ∧ (old L l).2 ≤ (old L l).1.length := by
  unfold K07.old
  cases e : gv L (Sum.inr (mk l)) with
  | none => exact ⟨Nat.zero_le _, fun _ m => (by cases m), Nat.zero_le _⟩
  | some v => exact lk_at h e
/-! ### keeps that are none -/
def OddK (d : D) : Prop := d = .int (-1) ∨ d = .bl true ∨ d = .non ∨ d = .str "2" ∨ d = .tup [.int 1] ∨ d = .lst [.int 0] ∨ d = .bl false ∨ d = .int (-7)
def Qv (d : D) : Prop := ∃ p, toQ d = some p ∧ (∀ S, toQS S d = some p) ∧ p.showable = true ∧ p.leavesShort 50 = true ∧ p.depth ≤ 3 ∧ p.bulk ≤ 20
theorem qv_int {i : Int} (h : i.natAbs < 10 ^ 40) : Qv (.int i) := ⟨.int i, by rw [toQ], fun _ => by rw [toQS], by rw [PyData.showable, decide_eq_true (int_small h).2], by rw [PyData.leavesShort, decide_eq_true (int_small h).1], by rw [PyData.depth]; omega, by rw [PyData.bulk]; omega⟩
theorem qv_str {t : List Nat} (h : t.length ≤ 20) (hc : ∀ c ∈ t, c < 128) : Qv (.str (mk t)) := by
  obtain ⟨p, h1, h2, h3, h4, h5⟩ := (fd_str (S := []) (k := 0) (b := 20) h hc)
  rw [toQS] at h1
  cases h1
  exact ⟨_, by rw [toQ], fun _ => by rw [toQS], h2, h3, by omega, h5⟩
theorem k2_ : ("2" : Str) = mk [50] := by decide
theorem odd_qv (h : OddK d) : Qv d := by
  rcases h with rfl | rfl | rfl | rfl | rfl | rfl | rfl | rfl
  · exact qv_int (by decide)
  · exact ⟨.bool true, by rw [toQ], fun _ => by rw [toQS], by decide +kernel, by decide +kernel, by decide +kernel, by decide +kernel⟩
  · exact ⟨.none, by rw [toQ], fun _ => by rw [toQS], by decide +kernel, by decide +kernel, by decide +kernel, by decide +kernel⟩
  · rw [k2_]; exact qv_str (by decide) (by decide)
  · exact ⟨.tuple [.int 1], by simp [toQ, toQA], fun _ => by simp [toQS, toQSA], by decide +kernel, by decide +kernel, by decide +kernel, by decide +kernel⟩
  · exact ⟨.list [.int 0], by simp [toQ, toQA], fun _ => by simp [toQS, toQSA], by decide +kernel, by decide +kernel, by decide +kernel, by decide +kernel⟩
  · exact ⟨.bool false, by rw [toQ], fun _ => by rw [toQS], by decide +kernel, by decide +kernel, by decide +kernel, by decide +kernel⟩
  · exact qv_int (by decide)
def pK (d : D) : Bool := match d with | .int i => decide (0 ≤ i) | _ => false
theorem odd_cnt (h : OddK d) : m_is_count [d] S = some (.bl (pK d), S) ∧ pK d = false := by
  rcases h with rfl | rfl | rfl | rfl | rfl | rfl | rfl | rfl
  · exact ⟨cnt_int, rfl⟩
  · exact ⟨cnt_bl, rfl⟩
  · exact ⟨cnt_no rfl, rfl⟩
  · exact ⟨cnt_no rfl, rfl⟩
  · exact ⟨cnt_no rfl, rfl⟩
  · exact ⟨cnt_no rfl, rfl⟩
  · exact ⟨cnt_bl, rfl⟩
  · exact ⟨cnt_int, rfl⟩
theorem qvs {ds : List D} (h : ∀ x ∈ ds, Qv x) : ∃ ps, toQA ds = some ps ∧ (∀ S, toQSA S ds = some ps) ∧ PyData.showableAll ps = true ∧ PyData.leavesShortAll 50 ps = true ∧ PyData.depthAll ps ≤ 3 ∧ PyData.bulkAll ps ≤ 21 * ds.length := by
  induction ds with
  | nil => exact ⟨[], by rw [toQA], fun _ => by rw [toQSA], by rw [PyData.showableAll], by rw [PyData.leavesShortAll], by rw [PyData.depthAll]; omega, by rw [PyData.bulkAll]; omega⟩
  | cons x r ih =>
    obtain ⟨p, h1, h2, h3, h4, h5, h6⟩ := h x List.mem_cons_self
    obtain ⟨ps, t1, t2, t3, t4, t5, t6⟩ := ih fun x m => h x (List.mem_cons_of_mem _ m)
    refine ⟨p :: ps, by rw [toQA, h1, t1]; rfl, fun S => by rw [toQSA, h2, t2]; rfl, by rw [PyData.showableAll, h3, t3]; rfl, by rw [PyData.leavesShortAll, h4, t4]; rfl, by rw [PyData.depthAll]; omega, by rw [PyData.bulkAll, List.length_cons]; omega⟩
theorem fd_tupQ {ds : List D} (h : ∀ x ∈ ds, Qv x) : Fd S (.tup ds) 5 (21 * ds.length) := by
  obtain ⟨ps, t1, t2, t3, t4, t5, t6⟩ := qvs h
  exact fd_mono (fd_tup (k := 3) ⟨ps, t2 S, t3, t4, t5, t6⟩) (by decide) (Nat.le_refl _)
theorem fd_refQ {ds : List D} {i : Nat} (q : S[i]? = some (.lst ds)) (h : ∀ x ∈ ds, Qv x) : Fd S (.ref i) 5 (21 * ds.length) := by
  obtain ⟨ps, t1, t2, t3, t4, t5, t6⟩ := qvs h
  refine ⟨.list ps, ?_, by rw [PyData.showable]; exact t3, by rw [PyData.leavesShort]; exact t4, by rw [PyData.depth]; omega, by rw [PyData.bulk]; omega⟩
  rw [toQS, q]
  show (toQA ds).map _ = _
  rw [t1]
  rfl
structure BadL (ds : List D) : Prop where
  cn : ∀ S : Sto, ∀ x ∈ ds, m_is_count [x] S = some (.bl (pK x), S)
  no : ds.all pK = false
  qv : ∀ x ∈ ds, Qv x
  ln : ds.length ≤ 30
theorem bad_of {a b : List Nat} {x : D} (ha : KsOk a) (hb : KsOk b) (hx : OddK x) : BadL (ksD a ++ x :: ksD b) := by
  have go : ∀ {c : List Nat}, KsOk c → ∀ y ∈ ksD c, (∀ S : Sto, m_is_count [y] S = some (.bl (pK y), S)) ∧ Qv y := by
    intro c hc y m
    unfold ksD at m
    obtain ⟨k, mk', rfl⟩ := List.mem_map.mp m
    refine ⟨fun S => cnt_int, qv_int ?_⟩
    have := hc.2 k mk'
    have e : ((k : Int)).natAbs = k := Int.natAbs_natCast _
    rw [e]
    exact Nat.lt_trans this (by decide)
  refine ⟨fun S y m => ?_, ?_, fun y m => ?_, ?_⟩
  · rcases List.mem_append.mp m with m | m
    · exact (go ha y m).1 S
    · rcases List.mem_cons.mp m with rfl | m
      · exact (odd_cnt hx).1
      · exact (go hb y m).1 S
  · rw [List.all_append, List.all_cons, (odd_cnt (S := []) hx).2]
    simp
  · rcases List.mem_append.mp m with m | m
    · exact (go ha y m).2
    · rcases List.mem_cons.mp m with rfl | m
      · exact odd_qv hx
      · exact (go hb y m).2
  · rw [List.length_append, List.length_cons, ksD_len, ksD_len]
    have := ha.1
    have := hb.1
    omega
/-- keeps that are none -/
inductive Kb (S : Sto) (N : Nat) : D → Prop
  | val {d : D} {t : String} : (∀ S', tyN S' d = some t) → (t == "list" || t == "tuple") = false → (∀ S', isR2 S' [d, .ty "list"] = some (.bl false)) → (∀ S', Fd S' d 5 60) → Kb S N d
  | tup {ds : List D} : BadL ds → Kb S N (.tup ds)
  | ls {i : Nat} {ds : List D} : N ≤ i → S[i]? = some (.lst ds) → BadL ds → Kb S N (.ref i)
theorem Kb.be (h : Kb S N d) (b : BE jb S S') (hj : jb < N) : Kb S' N d := by
  cases h with
  | val a b c e => exact .val a b c e
  | tup a => exact .tup a
  | ls a q c => exact .ls a (by rw [b.at_ _ (lt_of_get q) (by omega)]; exact q) c
theorem kb_no (h : Kb S N d) : m_is_list_of [d, .fn "is_count"] S = some (.bl false, S) := by
  cases h with
  | val a b c e => exact p_nolist (a S) b
  | @tup ds a => rw [p_list (p := pK) (ds := ds) (.inr (.inl rfl)) (by have := a.ln; omega) (a.cn S), a.no]
  | @ls i ds a q c => rw [p_list (p := pK) (ds := ds) (.inr (.inr ⟨i, rfl, q⟩)) (by have := c.ln; omega) (c.cn S), c.no]
theorem kkeeps : ("keeps" : Str) = mk (cs "keeps") := (mk_cs _).symm
theorem kmore : ("more" : Str) = mk (cs "more") := (mk_cs _).symm
theorem fd_k : Fd S (.str "keeps") 5 10 := by rw [kkeeps]; exact fd_str (by decide +kernel) (by decide +kernel)
theorem refused (hk : Dk S j jf o L) (h : Kb S N d) : ∃ S', m__law_refused [.ref j, .int way, d] S = some (.bl true, S') ∧ KB N S S' := by
  have e1 := told_bad (way := way) hk (fall_bad (j := j) (kb_no h))
  have flat : (hr : isR2 S [d, .ty "list"] = some (.bl false)) → (hf : Fd S d 5 1000) → ∃ S', m__law_refused [.ref j, .int way, d] S = some (.bl true, S') ∧ KB N S S' := by
    intro hr hf
    obtain ⟨x, hx⟩ := e_repr (fd_mono (fd_lst2 fd_k hf) (by decide) (by decide) : Fd S (.lst [.str "keeps", d]) 60 100000)
    refine ⟨S, ?_, .refl⟩
    apply wp_eq
    unfold m__law_refused
    walk_at "go"
    rw [e1]
    walk_at "go"
    rw [hx]
    walk_at "go"
    refine ⟨by decide, ?_⟩
    refine itn (by simp) ?_
    rw [hr]
    walk_at "go"
    rw [hx]
    walk_at "go"
    refine ⟨by decide, ?_⟩
    simp
  cases h with
  | val a b c e => exact flat (c S) (fd_mono (e S) (by decide) (by decide))
  | @tup ds a => exact flat rfl (fd_mono (fd_tupQ a.qv) (by decide) (by have := a.ln; omega))
  | @ls i ds a q c =>
    have hl := c.ln
    obtain ⟨x, hx⟩ := e_repr (fd_mono (fd_lst2 fd_k (fd_refQ q c.qv)) (by decide) (by omega) : Fd S (.lst [.str "keeps", .ref i]) 60 100000)
    have q2 : (S.set i (.lst (ds ++ [.str "more"])))[i]? = some (.lst (ds ++ [.str "more"])) := List.getElem?_set_self (lt_of_get q)
    have qv2 : ∀ x ∈ ds ++ [D.str "more"], Qv x := fun x m => by
      rcases List.mem_append.mp m with m | m
      · exact c.qv x m
      · rw [List.mem_singleton.mp m, kmore]; exact qv_str (by decide +kernel) (by decide +kernel)
    obtain ⟨y, hy⟩ := e_repr (fd_mono (fd_lst2 fd_k (fd_refQ q2 qv2)) (by decide) (by rw [List.length_append, List.length_singleton]; omega) : Fd (S.set i (.lst (ds ++ [.str "more"]))) (.lst [.str "keeps", .ref i]) 60 100000)
    refine ⟨S.set i (.lst (ds ++ [.str "more"])), ?_, ⟨by simp, fun k hk => List.getElem?_set_ne (by omega)⟩⟩
    apply wp_eq
    unfold m__law_refused
    walk_at "go"
    rw [e1]
    walk_at "go"
    rw [hx]
    walk_at "go"
    refine ⟨by decide, ?_⟩
    refine itn (by simp) ?_
    rw [isR_ls q]
    rw [show (isiD (.lst []) "list").map D.bl = some (.bl true) from rfl]
    walk_at "go"
    rw [stLst_of q]
    walk_at "go"
    refine itp (by omega) ?_
    rw [hy]
    walk_at "go"
    refine ⟨by decide, ?_⟩
    simp
end
end K07

namespace K07
open PySem PySem.StrLaws L2 TL M Ln
local macro_rules | `(tactic| walk_at "go") => `(tactic| simp (maxSteps := 100000000) only [w_def, w_var, w_c, w_bin, w_and, w_or, w_bK, w_not, w_if, w_nil, w_cons, w_tup, w_lst, w_new, w_tv, w_tand, w_tor, w_tnot, w_chain, w_call, w_kw, w_cb, w_ix, w_nop, w_p, w_sl, w_neg, w_ms, w_m1, w_d0, w_app, w_ext, w_pop, w_tr, w_newc, w_s1, w_repl, w_mu, w_addn, w_dget, w_din, w_dget2, w_asgs, w_attr, w_xo, w_lx, w_bx, w_none', w_binS, w_islt, w_zf, w_slR, w_forG, w_forE, w_sE, w_sw, w_lcG, w_sq, w_forx, w_gsd, w_fld, w_setF, w_meth, w_xmeth, w_mk, w_ifE, w_del, w_newD0, w_dnin, w_listKI, w_sortK, w_rev, w_dpop, w_xmethK, w_xmethR, w_lstx, w_isx, w_dctn', w_kwR', w_xkwR, w_mulL', w_sr2, len_mk, add_mk, w_sxr, w_xdef, w_xseq, w_xraise, w_xtry, w_qus, w_okf, w_xkw, mxIf, mxCons, mxCallM, mxCall, mxBin, mxTv, mxRet, mxDrop, mxAsg, outX,
  w_ret, w_skip, w_drop, w_asg, w_par, w_ifs, w_seq, w_seti, w_for, w_lc, w_sr, w_sl', w_st, w_ss, w_sz, w_yes, wp_some, wp_none, wp_bind, wp_map, wp_ite,
  List.map_cons, List.map_nil, List.length_cons, List.length_nil, Nat.reduceAdd, Nat.reduceSub, List.replicate_succ, List.replicate_zero, List.cons_append, List.nil_append, List.append_nil,
  List.getElem?_cons_zero, List.getElem?_cons_succ, List.set_cons_zero, List.set_cons_succ, gN, setAll, gT,
  e_addI, e_addT, e_addL, e_subI, e_mulI, e_modI, e_fdvI, e_powI, e_ltI, e_leI, e_gtI, e_geI, e_ltS, e_gtS, e_isB, e_int, e_abs, e_max, e_min, e_lenT, e_lenL, e_lenQ, e_ixT, e_ixL, e_ixQ, e_ixS, e_slT, e_slL, e_slQ, e_listT, e_listL, e_isi, e_eqI, e_eqS, e_neI, e_neS, e_ninS, iI, iB, iS, iT, at0, at1, at2, at3, at4, at5, at6, at7,
  Bool.false_eq_true, if_false, if_true, decide_eq_true_eq, reduceIte, Bool.not_true, Bool.not_false])
section
variable {S S' : Sto} {L : Kvl} {ks : List Nat} {ls : List (List Nat)} {xs : List Str} {B B' j jf jd jc jb N T : Nat} {o n : Int} {d : D} {way : Int} {l : List Nat}
theorem cut_ks (ks : List Nat) (lo hi : Option Int) : ∃ a, cut (ksD ks) lo hi = ksD a ∧ a.length ≤ ks.length ∧ ∀ k ∈ a, k ∈ ks := by
  refine ⟨cut ks lo hi, ?_, ?_, ?_⟩
  · unfold ksD; exact cut_map
  · unfold cut; rw [List.length_take, List.length_drop]; omega
  · intro k m
    unfold cut at m
    exact List.mem_of_mem_drop (List.mem_of_mem_take m)
theorem ksOk_cut {a : List Nat} (h : KsOk ks) (h1 : a.length ≤ ks.length) (h2 : ∀ k ∈ a, k ∈ ks) : KsOk a := ⟨Nat.le_trans h1 h.1, fun k m => h.2 k (h2 k m)⟩
theorem lsOf_ref {i : Nat} {ds : List D} (h : S[i]? = some (.lst ds)) : lsOf S (.ref i) = some ds := stLst_of h
theorem kb_non : Kb S N .non := .val (t := "NoneType") (fun _ => rfl) (by decide) (fun _ => rfl) fun _ => fd_non
theorem kb_bl {b : Bool} : Kb S N (.bl b) := .val (t := "bool") (fun _ => rfl) (by decide) (fun _ => rfl) fun _ => fd_bl
theorem kb_int {i : Int} (h : i.natAbs < 10 ^ 40) : Kb S N (.int i) := .val (t := "int") (fun _ => rfl) (by decide) (fun _ => rfl) fun _ => fd_sm h
theorem kb_str {t : List Nat} (h : t.length ≤ 60) (hc : ∀ c ∈ t, c < 128) : Kb S N (.str (mk t)) := .val (t := "str") (fun _ => rfl) (by decide) (fun _ => rfl) fun _ => fd_str h hc
theorem kb_dct : Kb S N (.dct [(.inl 0, .int 1)]) := .val (t := "dict") (fun _ => rfl) (by decide) (fun _ => rfl) fun _ => ⟨.dict [(.int 0, .int 1)], by rw [toQS]; rfl, by decide +kernel, by decide +kernel, by decide +kernel, by decide +kernel⟩
theorem k12_ : ("12" : Str) = mk [49, 50] := by decide
theorem nokeeps_spec {Q : D × Sto → Prop} (Bj : Bx S jb n) (hn : n ≤ 700000) (hN : N ≤ S.length)
    (h : ∀ d S', Kb S' N d → Bx S' jb (n + 60) → BE jb S S' → Q (d, S')) : wp (m__law_no_keeps [.ref jb] S) Q := by
  unfold m__law_no_keeps
  walk_at "go"
  refine take_spec2 Bj (by decide) (by decide) (by omega) fun r S1 r0 r1 B1 b1 => ?_
  walk_at "go"
  refine it2 (fun _ => ?_) fun _ => ?_
  · refine ⟨by decide, by decide, ?_⟩
    rw [show ∀ S0 : Sto, dictK S0 [.lst [.tup [.int 0, .int 1]]] = some (.dct [(.inl 0, .int 1)]) from fun _ => rfl]
    walk_at "go"
    refine ⟨by decide, ?_⟩
    refine take_spec2 B1 (by decide) (by decide) (by omega) fun r S2 r0 r1 B2 b2 => ?_
    refine wp_at r0 (by show r < 7; omega) fun d m => ?_
    refine h d S2 ?_ (B2.mono (by omega)) (b1.trans b2).be
    simp only [List.mem_cons, List.not_mem_nil, or_false] at m
    rcases m with rfl | rfl | rfl | rfl | rfl | rfl | rfl
    · exact kb_non
    · exact kb_int (by decide)
    · rw [k12_]; exact kb_str (by decide) (by decide)
    · exact kb_bl
    · exact kb_dct
    · rw [k0]; exact kb_str (by decide) (by decide)
    · exact kb_int (by decide)
  · refine keeps_spec B1 (by omega) fun ks i S2 k1 k2 k3 B2 b2 => ?_
    have hi : N ≤ i := by have := b1.len; omega
    have hij : i ≠ jb := by have := Bj.lt; have := b1.len; omega
    walk_at "go"
    rw [show lenD S2 [.ref i] = some (.int (ksD ks).length) from sq_len (.inr (.inr ⟨i, rfl, k3⟩)), ksD_len]
    walk_at "go"
    have hl := k1.1
    refine take_spec2 B2 (by omega) (by omega) (by omega) fun p S3 p0 p1 B3 b3 => ?_
    have k3' : S3[i]? = some (.lst (ksD ks)) := by rw [b3.at_ _ hij]; exact k3
    walk_at "go"
    refine ⟨by decide, by decide, by decide, ?_⟩
    refine take_spec2 B3 (by decide) (by decide) (by omega) fun r S4 r0 r1 B4 b4 => ?_
    have k4 : S4[i]? = some (.lst (ksD ks)) := by rw [b4.at_ _ hij]; exact k3'
    refine wp_at r0 (by show r < 8; omega) fun odd m => ?_
    have hodd : OddK odd := by
      simp only [List.mem_cons, List.not_mem_nil, or_false] at m
      rcases m with rfl | rfl | rfl | rfl | rfl | rfl | rfl | rfl
      · exact .inl rfl
      · exact .inr (.inl rfl)
      · exact .inr (.inr (.inl rfl))
      · exact .inr (.inr (.inr (.inl rfl)))
      · exact .inr (.inr (.inr (.inr (.inl rfl))))
      · exact .inr (.inr (.inr (.inr (.inr (.inl rfl)))))
      · exact .inr (.inr (.inr (.inr (.inr (.inr (.inl rfl))))))
      · exact .inr (.inr (.inr (.inr (.inr (.inr (.inr rfl))))))
    walk_at "go"
    rw [lsOf_ref k4]
    walk_at "go"
    obtain ⟨a, ea, a1, a2⟩ := cut_ks ks none (some p)
    rw [ea]
    refine ⟨by decide, itp (by rw [ksD_len]; simp; omega) ?_⟩
    refine take_spec2 B4 (by decide) (by decide) (by omega) fun q S5 q0 q1 B5 b5 => ?_
    have k5 : S5[i]? = some (.lst (ksD ks)) := by rw [b5.at_ _ hij]; exact k4
    walk_at "go"
    rw [lsOf_ref k5]
    walk_at "go"
    obtain ⟨b, eb, c1, c2⟩ := cut_ks ks (some (p + q)) none
    rw [eb]
    refine itp (by rw [ksD_len, List.length_append, ksD_len]; simp; omega) ?_
    have bad := bad_of (ksOk_cut k1 a1 a2) (ksOk_cut k1 c1 c2) hodd
    have el : ksD a ++ [odd] ++ ksD b = ksD a ++ odd :: ksD b := by simp
    rw [el]
    have B5' := B5.ext (G := [Ob.lst (ksD a ++ odd :: ksD b)])
    refine take_spec2 B5' (by decide) (by decide) (by omega) fun r S6 r0 r1 B6 b6 => ?_
    have k6 : S6[S5.length]? = some (.lst (ksD a ++ odd :: ksD b)) := by
      rw [b6.at_ _ (by have := B5.lt; omega)]; exact get_new
    have be := ((b1.be.trans b2).trans ((b3.trans b4).trans b5).be).trans ((BE.ext (G := [Ob.lst (ksD a ++ odd :: ksD b)])).trans b6.be)
    have hN5 : N ≤ S5.length := by
      have := ((b1.be.trans b2).trans ((b3.trans b4).trans b5).be).le
      omega
    walk_at "go"
    refine it2 (fun _ => ?_) fun _ => ?_
    · rw [show tupS S6 [.ref S5.length] = some (.tup (ksD a ++ odd :: ksD b)) by
        show (stLst S6 S5.length).map _ = _
        rw [stLst_of k6]
        rfl]
      walk_at "go"
      exact h _ _ (.tup bad) (B6.mono (by omega)) be
    · exact h _ _ (.ls hN5 k6 bad) (B6.mono (by omega)) be
/-- a disk, the law's account of it, and the box -/
structure Ws (S : Sto) (jb j jf jd jc : Nat) (n : Int) (T : Nat) (o : Int) (L : Kvl) : Prop where
  box : Bx S jb n
  pr : Pr S j jf jd jc o L
  lk : Lk L (9 * T)
  len : L.length ≤ T
  o0 : 0 ≤ o
  o1 : o ≤ T
  u : Ne4 j jf jd jc
  nb : jb ≠ j ∧ jb ≠ jf ∧ jb ≠ jd ∧ jb ≠ jc
theorem Pr.lt (h : Pr S j jf jd jc o L) : j < S.length ∧ jf < S.length ∧ jd < S.length ∧ jc < S.length := ⟨lt_of_get h.dk.a, lt_of_get h.dk.b, lt_of_get h.d, lt_of_get h.c⟩
theorem Ws.be {n' : Int} (h : Ws S jb j jf jd jc n T o L) (b : BE jb S S') (B : Bx S' jb n') : Ws S' jb j jf jd jc n' T o L := by
  obtain ⟨l1, l2, l3, l4⟩ := Pr.lt h.pr
  exact ⟨B, h.pr.of_eq (b.at_ _ l1 h.nb.1.symm) (b.at_ _ l2 h.nb.2.1.symm) (b.at_ _ l3 h.nb.2.2.1.symm) (b.at_ _ l4 h.nb.2.2.2.symm), h.lk, h.len, h.o0, h.o1, h.u, h.nb⟩
theorem Ws.o40 (h : Ws S jb j jf jd jc n T o L) (hT : T ≤ 62) : o.natAbs < 10 ^ 40 := by
  have h1 := h.o0
  have h2 := h.o1
  have : o.natAbs ≤ 62 := by omega
  exact Nat.lt_of_le_of_lt this (by decide)
theorem Ws.nms (h : Ws S jb j jf jd jc n T o L) (hT : T ≤ 62) : ∃ xs ls, Nms L xs ls := K07.nms h.lk (by have := h.len; omega)
/-- what a step leaves -/
theorem pr_new {o' : Int} {L' : Kvl} (h : Pr S j jf jd jc o L) (u : Ne4 j jf jd jc) : Pr ((((S.set j (.ins "Disk" (DkF jf o'))).set jf (.dct (vmap tD L'))).set jd (.dct (vmap lD L'))).set jc (.lst [.int o'])) j jf jd jc o' L' := by
  obtain ⟨lj, ljf, ljd, ljc⟩ := Pr.lt h
  refine ⟨⟨?_, ?_⟩, ?_, ?_⟩
  · rw [List.getElem?_set_ne u.d, List.getElem?_set_ne u.b, List.getElem?_set_ne u.f, List.getElem?_set_self lj]
  · rw [List.getElem?_set_ne u.e, List.getElem?_set_ne u.c, List.getElem?_set_self (by simpa using ljf)]
  · rw [List.getElem?_set_ne u.a.symm, List.getElem?_set_self (by simpa using ljd)]
  · rw [List.getElem?_set_self (by simpa using ljc)]
theorem ws_new {o' : Int} {L' : Kvl} (h : Ws S jb j jf jd jc n T o L) (hl : Lk L' (9 * (T + 1))) (hn : L'.length ≤ T + 1) (h0 : 0 ≤ o') (h1 : o' ≤ (T + 1 : Nat)) : Ws ((((S.set j (.ins "Disk" (DkF jf o'))).set jf (.dct (vmap tD L'))).set jd (.dct (vmap lD L'))).set jc (.lst [.int o'])) jb j jf jd jc n (T + 1) o' L' :=
  ⟨h.box.of_eq (by rw [List.getElem?_set_ne h.nb.2.2.2.symm, List.getElem?_set_ne h.nb.2.2.1.symm, List.getElem?_set_ne h.nb.2.1.symm, List.getElem?_set_ne h.nb.1.symm]), pr_new h.pr h.u, hl, hn, h0, h1, h.u, h.nb⟩
end
end K07

namespace K07
open PySem PySem.StrLaws L2 TL M Ln
local macro_rules | `(tactic| walk_at "go") => `(tactic| simp (maxSteps := 100000000) only [w_def, w_var, w_c, w_bin, w_and, w_or, w_bK, w_not, w_if, w_nil, w_cons, w_tup, w_lst, w_new, w_tv, w_tand, w_tor, w_tnot, w_chain, w_call, w_kw, w_cb, w_ix, w_nop, w_p, w_sl, w_neg, w_ms, w_m1, w_d0, w_app, w_ext, w_pop, w_tr, w_newc, w_s1, w_repl, w_mu, w_addn, w_dget, w_din, w_dget2, w_asgs, w_attr, w_xo, w_lx, w_bx, w_none', w_binS, w_islt, w_zf, w_slR, w_forG, w_forE, w_sE, w_sw, w_lcG, w_sq, w_forx, w_gsd, w_fld, w_setF, w_meth, w_xmeth, w_mk, w_ifE, w_del, w_newD0, w_dnin, w_listKI, w_sortK, w_rev, w_dpop, w_xmethK, w_xmethR, w_lstx, w_isx, w_dctn', w_kwR', w_xkwR, w_mulL', w_sr2, len_mk, add_mk, w_sxr, w_xdef, w_xseq, w_xraise, w_xtry, w_qus, w_okf, w_xkw, mxIf, mxCons, mxCallM, mxCall, mxBin, mxTv, mxRet, mxDrop, mxAsg, outX,
  w_ret, w_skip, w_drop, w_asg, w_par, w_ifs, w_seq, w_seti, w_for, w_lc, w_sr, w_sl', w_st, w_ss, w_sz, w_yes, wp_some, wp_none, wp_bind, wp_map, wp_ite,
  List.map_cons, List.map_nil, List.length_cons, List.length_nil, Nat.reduceAdd, Nat.reduceSub, List.replicate_succ, List.replicate_zero, List.cons_append, List.nil_append, List.append_nil,
  List.getElem?_cons_zero, List.getElem?_cons_succ, List.set_cons_zero, List.set_cons_succ, gN, setAll, gT,
  e_addI, e_addT, e_addL, e_subI, e_mulI, e_modI, e_fdvI, e_powI, e_ltI, e_leI, e_gtI, e_geI, e_ltS, e_gtS, e_isB, e_int, e_abs, e_max, e_min, e_lenT, e_lenL, e_lenQ, e_ixT, e_ixL, e_ixQ, e_ixS, e_slT, e_slL, e_slQ, e_listT, e_listL, e_isi, e_eqI, e_eqS, e_neI, e_neS, e_ninS, iI, iB, iS, iT, at0, at1, at2, at3, at4, at5, at6, at7,
  Bool.false_eq_true, if_false, if_true, decide_eq_true_eq, reduceIte, Bool.not_true, Bool.not_false])
section
variable {S S' : Sto} {L : Kvl} {ks : List Nat} {ls : List (List Nat)} {xs : List Str} {B B' j jf jd jc jb N T : Nat} {o n : Int} {d : D} {way : Int} {l t : List Nat}
theorem meth_sync {v : List Nat × Nat} (hk : Dk S j jf o L) (ne : jf ≠ j) (hn : NmOk l) (h : gv L (Sum.inr (mk l)) = some v) (hv : v.1.length ≤ 900000) (hL : L.length < 100000) {ρ : En} {Q : D × Sto → Prop} (h0 : ρ[1]? = some (some (.ref j))) (h5 : ρ[5]? = some (some (.str (mk l))))
    (q : Q (.non, (S.set j (.ins "Disk" (DkF jf (o + 1)))).set jf (.dct (vmap tD (gput L (Sum.inr (mk l)) (v.1, v.1.length)))))) : wp (mMeth "Disk" "sync" (okF m_Disk_sync) (mVar 1) (mCons (mVar 5) mNil) ρ S) Q := by
  have lk : List.lookup (Str.ofString "sync") (DkF jf o) = none := rfl
  simp only [w_meth, w_var, h0, wp_some, hk.a, lk, and_self, if_true, wp_bind, w_cons, w_nil, h5, w_okf, sync_ok hk ne hn h hv hL]
  exact q
theorem meth_write (hk : Dk S j jf o L) (ne : jf ≠ j) (hn : NmOk l) (ht : TxOk t) (hb : (old L l).1.length ≤ 900000) (hL : L.length < 100000) {ρ : En} {Q : D × Sto → Prop} (h0 : ρ[1]? = some (some (.ref j))) (h5 : ρ[5]? = some (some (.str (mk l)))) (h7 : ρ[7]? = some (some (.str (mk t))))
    (q : Q (.non, (S.set j (.ins "Disk" (DkF jf (o + 1)))).set jf (.dct (vmap tD (gput L (Sum.inr (mk l)) ((old L l).1 ++ t, (old L l).2)))))) : wp (mMeth "Disk" "write" (okF m_Disk_write) (mVar 1) (mCons (mVar 5) (mCons (mVar 7) mNil)) ρ S) Q := by
  have lk : List.lookup (Str.ofString "write") (DkF jf o) = none := rfl
  simp only [w_meth, w_var, h0, wp_some, hk.a, lk, and_self, if_true, wp_bind, w_cons, w_nil, h5, h7, w_okf, write_ok hk ne hn ht hb hL]
  exact q
def XS : List Nat := cs ("xyz;0 " : Str)
theorem kxs : ("xyz;0 " : Str) = mk XS := (mk_cs _).symm
theorem xs_sgn : ∀ c ∈ XS, sgn c = true := by decide +kernel
theorem xs_len : XS.length = 6 := by decide +kernel
theorem row_spec {k : Nat} {ρ : En} {L : List D × Sto → Prop} (hk : k ≤ 100) (h0 : ρ[0]? = some (some (.ref jb))) (Bj : Bx S jb n) (hn : n ≤ 900000)
    (h : ∀ (ls : List Nat) (S' : Sto), (∀ c ∈ ls, sgn c = true) → ls.length = k → Bx S' jb (n + k) → BO jb S S' → L (strsD (ls.map fun c => [c]), S')) : wp (mapL (mIx (mC (.str (mk XS))) (mCall m__law_take (mCons (mVar 0) (mCons (mC (.int 6)) mNil)))) mYes 9 ρ (upto k) S) L := by
  have key := wp_mapL (te := mIx (mC (.str (mk XS))) (mCall m__law_take (mCons (mVar 0) (mCons (mC (.int 6)) mNil)))) (tt := mYes) (j := 9) (ρ := ρ) (L := L)
    (fun ds as S' => ∃ ls : List Nat, as = strsD (ls.map fun c => [c]) ∧ (∀ c ∈ ls, sgn c = true) ∧ ls.length + ds.length = k ∧ Bx S' jb (n + ls.length) ∧ BO jb S S') ?_ ?_ (upto k) [] S ⟨[], rfl, (fun _ m => by cases m), by simp [upto], by simpa using Bj, .refl⟩
  · refine wp_mono key fun r q => ?_
    simpa using q
  · rintro as S' ⟨ls, rfl, hs, hl, B', bo⟩
    rw [List.length_nil, Nat.add_zero] at hl
    exact h ls S' hs hl (by rw [← hl]; exact B') bo
  · rintro d ds as S' ⟨ls, rfl, hs, hl, B', bo⟩
    rw [List.length_cons] at hl
    simp only [w_yes]
    refine itp (by trivial) ?_
    have e0 : (ρ.set 9 (some d))[0]? = some (some (.ref jb)) := by rw [List.getElem?_set_ne (by decide)]; exact h0
    simp only [w_ix, w_call, w_cons, w_var, w_nil, w_c, e0, wp_some]
    refine take_spec2 B' (by decide) (by decide) (by omega) fun r S2 r0 r1 B2 bo2 => ?_
    refine ix_mk (by rw [xs_len]; decide) r0 (by rw [xs_len]; exact r1) fun c m => ?_
    refine ⟨ls ++ [c], ?_, ?_, ?_, ?_, bo.trans bo2⟩
    · unfold strsD
      simp
    · intro x mx
      rcases List.mem_append.mp mx with mx | mx
      · exact hs x mx
      · rw [List.mem_singleton.mp mx]; exact xs_sgn c m
    · simp; omega
    · refine B2.mono ?_
      rw [List.length_append, List.length_singleton]
      omega
theorem count_end {P : Out × Sto → Prop} {a4 a5 a6 a7 a8 a9 : Option D} {a0 a1 a2 : Option D} (h : S[jc]? = some (.lst [.int o])) (hP : P (.nx [a0, a1, a2, some (.ref jc), a4, a5, a6, a7, a8, a9], S.set jc (.lst [.int (o + 1)]))) : wp (t__law_filled_7 [a0, a1, a2, some (.ref jc), a4, a5, a6, a7, a8, a9] S) P := by
  unfold t__law_filled_7
  walk_at "go"
  rw [ix_c h]
  walk_at "go"
  rw [st_c h]
  walk_at "go"
  exact hP
theorem fill_turn {P : Out × Sto → Prop} {a4 a5 a6 a7 a8 a9 : Option D} (h : Ws S jb j jf jd jc n T o L) (hT : T ≤ 60) (hn : n ≤ 700000)
    (hP : ∀ a5 a6 a7 a8 a9 S' o' L', Ws S' jb j jf jd jc (n + 20) (T + 1) o' L' → P (.nx [some (.ref jb), some (.ref j), some (.ref jd), some (.ref jc), a4, a5, a6, a7, a8, a9], S')) :
    wp (t__law_filled_9 [some (.ref jb), some (.ref j), some (.ref jd), some (.ref jc), a4, a5, a6, a7, a8, a9] S) P := by
  obtain ⟨xs, ls, N⟩ := h.nms (by omega)
  have hls : ∀ l ∈ ls, l.all sgn = true := fun l m => nm_sgn (N.ok l m).1
  have hlen := h.len
  have hlB := h.lk
  unfold t__law_filled_9
  walk_at "go"
  rw [pool_spec]
  walk_at "go"
  refine take_spec2 h.box (by decide) (by decide) (by omega) fun r S1 r0 r1 B1 b1 => ?_
  refine pool_at r0 r1 fun l hl => ?_
  have W1 := h.be b1.be B1
  walk_at "go"
  rw [dct_at W1.pr.d]
  walk_at "go"
  rw [sort_keys (N.st lD) N.lt, N.so]
  walk_at "go"
  unfold t__law_filled_8
  walk_at "go"
  refine take_spec2 B1 (by decide) (by decide) (by omega) fun r S2 r0 r1 B2 b2 => ?_
  have W2 := W1.be b2.be B2
  walk_at "go"
  have wr : wp (t__law_filled_6 [some (.ref jb), some (.ref j), some (.ref jd), some (.ref jc), a4, some (.str (mk l)), some (.lst (strsD ls)), a7, a8, a9] S2) fun x => wp (match x.1 with
      | .nx r => t__law_filled_7 r x.2
      | o => some (o, x.2)) P := by
    unfold t__law_filled_6
    simp only [kxs]
    walk_at "go"
    refine take_spec2 B2 (by decide) (by decide) (by omega) fun r S3 r0 r1 B3 b3 => ?_
    walk_at "go"
    refine itp ⟨by omega, by omega⟩ ?_
    refine row_spec (k := (1 + r).toNat) (by omega) rfl B3 (by omega) fun cs' S4 hs hl' B4 b4 => ?_
    walk_at "go"
    refine ⟨by rw [strsD_len, List.length_map]; omega, ?_⟩
    rw [join_one (by omega)]
    walk_at "go"
    have W4 := (W2.be b3.be B3).be b4.be B4
    have ht : TxOk cs' := ⟨fun e => by rw [e] at hl'; simp at hl'; omega, trivial, List.all_eq_true.mpr hs, by omega⟩
    have c9 : cs'.length ≤ 9 := by omega
    obtain ⟨u1, u2, u3⟩ := lk_old (l := l) hlB
    unfold t__law_filled_5
    rw [w_seq, w_drop]
    refine meth_write W4.pr.dk W4.u.f hl ht (by omega) (by omega) rfl rfl rfl ?_
    have hd5 : ((S4.set j (.ins "Disk" (DkF jf (o + 1)))).set jf (.dct (vmap tD (gput L (Sum.inr (mk l)) ((old L l).1 ++ cs', (old L l).2)))))[jd]? = some (.dct (vmap lD L)) := by
      rw [List.getElem?_set_ne W4.u.c.symm, List.getElem?_set_ne W4.u.b.symm]; exact W4.pr.d
    have hc5 : ∀ x, (((S4.set j (.ins "Disk" (DkF jf (o + 1)))).set jf (.dct (vmap tD (gput L (Sum.inr (mk l)) ((old L l).1 ++ cs', (old L l).2))))).set jd x)[jc]? = some (.lst [.int o]) := fun x => by
      rw [List.getElem?_set_ne W4.u.a, List.getElem?_set_ne W4.u.e.symm, List.getElem?_set_ne W4.u.d.symm]; exact W4.pr.c
    walk_at "go"
    unfold t__law_filled_4
    walk_at "go"
    simp only [dct_at hd5, wp_some, key_str, gv_old_l]
    refine ⟨by decide, ?_⟩
    unfold t__law_filled_3 lD
    walk_at "go"
    refine itp (by omega) ⟨by decide, ?_⟩
    try rw [show (fun v : List Nat × Nat => D.lst [D.str (mk v.1), D.int (v.2 : Int)]) = lD from rfl]
    try simp only [dct_at hd5, wp_some, key_str]
    refine itp (by rw [vm_len]; omega) ?_
    rw [show (D.lst [D.str (mk ((old L l).1 ++ cs')), D.int ((old L l).2 : Int)]) = lD ((old L l).1 ++ cs', (old L l).2) from rfl, gput_map]
    refine count_end (hc5 _) ?_
    have hk' : Lk (gput L (Sum.inr (mk l)) ((old L l).1 ++ cs', (old L l).2)) (9 * (T + 1)) := lk_put hlB hl (by rw [List.length_append]; omega) (fun c m => by
      rcases List.mem_append.mp m with m | m
      · exact u2 c m
      · have := hs c m
        unfold sgn at this
        rw [Bool.and_eq_true] at this
        have := of_decide_eq_true this.2
        omega) (by rw [List.length_append]; omega) (by omega)
    have W := ws_new (o' := o + 1) W4 hk' (Nat.le_trans gput_len (by omega)) (by have := W4.o0; omega) (by have := W4.o1; omega)
    exact hP _ _ _ _ _ _ _ _ ⟨W.box.mono (by omega), W.pr, W.lk, W.len, W.o0, W.o1, W.u, W.nb⟩
  have hne : neD (.lst (strsD ls)) (.lst []) = some (.bl (!decide (ls = []))) := ne_strs (bs := []) hls (fun _ m => by cases m)
  refine it2 (fun _ => ?_) fun _ => ?_
  · refine ⟨by decide, ?_⟩
    rw [hne]
    walk_at "go"
    refine it2 (fun e => ?_) fun e => ?_
    · have l0 : 0 < ls.length := List.length_pos_iff.mpr (by simpa using e)
      have l64 : ls.length < 64 := by have := N.len; omega
      unfold t__law_filled_2
      walk_at "go"
      rw [strsD_len]
      refine take_spec2 B2 (by omega) (by omega) (by omega) fun r S3 r0 r1 B3 b3 => ?_
      refine wp_at r0 (by rw [strsD_len]; exact r1) fun d m => ?_
      obtain ⟨l', hl', rfl⟩ := List.mem_map.mp m
      obtain ⟨q1, q2, q3, q4, q5⟩ := old_ok hlB N hl'
      have W3 := W2.be b3.be B3
      walk_at "go"
      unfold t__law_filled_1
      rw [w_seq, w_drop]
      refine meth_sync W3.pr.dk W3.u.f q1 q2 (by omega) (by omega) rfl rfl ?_
      have hd5 : ((S3.set j (.ins "Disk" (DkF jf (o + 1)))).set jf (.dct (vmap tD (gput L (Sum.inr (mk l')) ((old L l').1, (old L l').1.length)))))[jd]? = some (.dct (vmap lD L)) := by
        rw [List.getElem?_set_ne W3.u.c.symm, List.getElem?_set_ne W3.u.b.symm]; exact W3.pr.d
      have hc5 : ∀ x, (((S3.set j (.ins "Disk" (DkF jf (o + 1)))).set jf (.dct (vmap tD (gput L (Sum.inr (mk l')) ((old L l').1, (old L l').1.length))))).set jd x)[jc]? = some (.lst [.int o]) := fun x => by
        rw [List.getElem?_set_ne W3.u.a, List.getElem?_set_ne W3.u.e.symm, List.getElem?_set_ne W3.u.d.symm]; exact W3.pr.c
      walk_at "go"
      unfold t__law_filled_0
      walk_at "go"
      simp only [dct_at hd5, wp_some, key_str, gv_map, q2, Option.map_some]
      unfold lD
      try simp only [ix_l0', wp_some]
      try walk_at "go"
      refine itp (by omega) ⟨by decide, ?_⟩
      try rw [show (fun v : List Nat × Nat => D.lst [D.str (mk v.1), D.int (v.2 : Int)]) = lD from rfl]
      try simp only [dct_at hd5, wp_some, key_str]
      refine itp (by rw [vm_len]; omega) ?_
      rw [show (D.lst [D.str (mk (old L l').1), D.int ((old L l').1.length : Int)]) = lD ((old L l').1, (old L l').1.length) from rfl, gput_map]
      refine count_end (hc5 _) ?_
      have hk' : Lk (gput L (Sum.inr (mk l')) ((old L l').1, (old L l').1.length)) (9 * (T + 1)) := lk_put hlB q1 (by dsimp only; omega) q4 (Nat.le_refl _) (by omega)
      have W := ws_new (o' := o + 1) W3 hk' (Nat.le_trans gput_len (by omega)) (by have := W3.o0; omega) (by have := W3.o1; omega)
      exact hP _ _ _ _ _ _ _ _ ⟨W.box.mono (by omega), W.pr, W.lk, W.len, W.o0, W.o1, W.u, W.nb⟩
    · exact wr
  · exact wr
theorem filled {Q : D × Sto → Prop} (h : Ws S jb j jf jd jc n T o L) (hT : T ≤ 50) (hn : n ≤ 600000)
    (hQ : ∀ v S' o' L', Ws S' jb j jf jd jc (n + 180) (T + 9) o' L' → Q (v, S')) : wp (m__law_filled [.ref jb, .ref j, .ref jd, .ref jc] S) Q := by
  unfold m__law_filled t__law_filled_10
  walk_at "go"
  refine itp (by decide) ?_
  refine wp_loop (fun ds ρ S => ∃ k o L a4 a5 a6 a7 a8 a9, k + ds.length = 9 ∧ Ws S jb j jf jd jc (n + 20 * (k : Nat)) (T + k) o L ∧ ρ = [some (.ref jb), some (.ref j), some (.ref jd), some (.ref jc), a4, a5, a6, a7, a8, a9]) (fun ρ S w => ?_) (fun d ds ρ S w => ?_) _ _ _ ⟨0, o, L, _, _, _, _, _, _, by simp [upto], by simpa using h, rfl⟩
  · obtain ⟨k, o, L, a4, a5, a6, a7, a8, a9, hk, w, rfl⟩ := w
    rw [List.length_nil] at hk
    have : k = 9 := by omega
    subst this
    walk_at "go"
    exact hQ _ _ _ _ w
  · obtain ⟨k, o, L, a4, a5, a6, a7, a8, a9, hk, w, rfl⟩ := w
    rw [List.length_cons] at hk
    simp only [gN, wp_some, List.set_cons_succ, List.set_cons_zero]
    refine fill_turn w (by omega) (by omega) fun a5 a6 a7 a8 a9 S' o' L' w' => ?_
    refine ⟨k + 1, o', L', _, _, _, _, _, _, by omega, ?_, rfl⟩
    rw [show n + 20 * ((k + 1 : Nat) : Int) = n + 20 * (k : Int) + 20 by omega]
    exact w'
end
end K07

namespace K07
open PySem PySem.StrLaws L2 TL M Ln
local macro_rules | `(tactic| walk_at "go") => `(tactic| simp (maxSteps := 100000000) only [w_def, w_var, w_c, w_bin, w_and, w_or, w_bK, w_not, w_if, w_nil, w_cons, w_tup, w_lst, w_new, w_tv, w_tand, w_tor, w_tnot, w_chain, w_call, w_kw, w_cb, w_ix, w_nop, w_p, w_sl, w_neg, w_ms, w_m1, w_d0, w_app, w_ext, w_pop, w_tr, w_newc, w_s1, w_repl, w_mu, w_addn, w_dget, w_din, w_dget2, w_asgs, w_attr, w_xo, w_lx, w_bx, w_none', w_binS, w_islt, w_zf, w_slR, w_forG, w_forE, w_sE, w_sw, w_lcG, w_sq, w_forx, w_gsd, w_fld, w_setF, w_meth, w_xmeth, w_mk, w_ifE, w_del, w_newD0, w_dnin, w_listKI, w_sortK, w_rev, w_dpop, w_xmethK, w_xmethR, w_lstx, w_isx, w_dctn', w_kwR', w_xkwR, w_mulL', w_sr2, len_mk, add_mk, w_sxr, w_xdef, w_xseq, w_xraise, w_xtry, w_qus, w_okf, w_xkw, mxIf, mxCons, mxCallM, mxCall, mxBin, mxTv, mxRet, mxDrop, mxAsg, outX,
  w_ret, w_skip, w_drop, w_asg, w_par, w_ifs, w_seq, w_seti, w_for, w_lc, w_sr, w_sl', w_st, w_ss, w_sz, w_yes, wp_some, wp_none, wp_bind, wp_map, wp_ite,
  List.map_cons, List.map_nil, List.length_cons, List.length_nil, Nat.reduceAdd, Nat.reduceSub, List.replicate_succ, List.replicate_zero, List.cons_append, List.nil_append, List.append_nil,
  List.getElem?_cons_zero, List.getElem?_cons_succ, List.set_cons_zero, List.set_cons_succ, gN, setAll, gT,
  e_addI, e_addT, e_addL, e_subI, e_mulI, e_modI, e_fdvI, e_powI, e_ltI, e_leI, e_gtI, e_geI, e_ltS, e_gtS, e_isB, e_int, e_abs, e_max, e_min, e_lenT, e_lenL, e_lenQ, e_ixT, e_ixL, e_ixQ, e_ixS, e_slT, e_slL, e_slQ, e_listT, e_listL, e_isi, e_eqI, e_eqS, e_neI, e_neS, e_ninS, iI, iB, iS, iT, at0, at1, at2, at3, at4, at5, at6, at7,
  Bool.false_eq_true, if_false, if_true, decide_eq_true_eq, reduceIte, Bool.not_true, Bool.not_false])
section
variable {S S' : Sto} {L : Kvl} {ks : List Nat} {ls ls2 : List (List Nat)} {xs xs2 : List Str} {B B' j jf jd jc jb N T kr : Nat} {o n : Int} {d : D} {way : Int} {l t : List Nat}
theorem t_starts {a b : List Nat} (h : a.take b.length = b) : Txt.startswith (mk a) (mk b) = true := by
  have hl : b.length ≤ a.length := by
    have := congrArg List.length h
    rw [List.length_take] at this
    omega
  show (decide (0 + (mk b).length ≤ (mk a).length) && Builtin.Str.subAt (mk a) (mk b) 0) = true
  rw [subAt_eq, mk_len, mk_len, decide_eq_true (by omega), show (mk a).cps.toList = a from cs_mk a, show (mk b).cps.toList = b from cs_mk b, List.drop_zero, h]
  simp
/-- the walk over the old names -/
theorem look_loop {P : Out × Sto → Prop} {a0 a3 a4 a5 a6 a7 a8 a9 a10 : Option D} {S6 : Sto} (hk : Dk S6 j jf o (FL L ks 0 ls)) (hd : S6[jd]? = some (.dct (vmap lD L))) (hL : Lk L B) (hB : B ≤ 100000) (Nn : Nms L xs ls) (N2 : Nms (FL L ks 0 ls) xs2 ls2)
    (hP : ∀ a7 a8 a9 a10 G, P (.nx [a0, some (.ref j), some (.ref jd), a3, a4, a5, a6, a7, a8, a9, a10], S6 ++ G)) :
    wp (loop (gN 7) t__law_fall_right_8 (strsD ls) [a0, some (.ref j), some (.ref jd), a3, a4, a5, a6, a7, a8, a9, a10] S6) P := by
  refine wp_loop (fun ds ρ S' => ∃ G a7 a8 a9 a10, S' = S6 ++ G ∧ (∀ d ∈ ds, ∃ l ∈ ls, d = .str (mk l)) ∧ ρ = [a0, some (.ref j), some (.ref jd), a3, a4, a5, a6, a7, a8, a9, a10]) (fun ρ S' w => ?_) (fun d ds ρ S' w => ?_) _ _ _ ⟨[], _, _, _, _, (List.append_nil _).symm, fun d m => ?_, rfl⟩
  · obtain ⟨G, a7, a8, a9, a10, rfl, _, rfl⟩ := w
    exact hP _ _ _ _ _
  · obtain ⟨G, a7, a8, a9, a10, rfl, hds, rfl⟩ := w
    have hr := fun x m => hds x (List.mem_cons_of_mem _ m)
    obtain ⟨l, hl, rfl⟩ := hds d List.mem_cons_self
    obtain ⟨q1, q2, q3, q4, q5⟩ := old_ok hL Nn hl
    obtain ⟨p, eg⟩ := FL_gv (L := L) (ks := ks) ls 0 Nn.nd l hl
    obtain ⟨b1, b2⟩ := kp_bd (ks := ks) (i := p) q5
    have hdE : (S6 ++ G)[jd]? = some (.dct (vmap lD L)) := by rw [List.getElem?_append_left (lt_of_get hd)]; exact hd
    have hkE := hk.ext (G := G)
    have hkE2 := hkE.ext (G := [Ob.lst (strsD ls2)])
    have done : ∀ {a8 a9 a10 : Option D}, ∃ G' a7' a8' a9' a10', S6 ++ G ++ [Ob.lst (strsD ls2)] = S6 ++ G' ∧ (∀ d ∈ ds, ∃ l ∈ ls, d = .str (mk l)) ∧ [a0, some (.ref j), some (.ref jd), a3, a4, a5, a6, some (.str (mk l)), a8, a9, a10] = [a0, some (.ref j), some (.ref jd), a3, a4, a5, a6, a7', a8', a9', a10'] := ⟨_, _, _, _, _, List.append_assoc _ _ _, hr, rfl⟩
    unfold t__law_fall_right_8
    simp only [gN, wp_some, List.set_cons_succ, List.set_cons_zero]
    walk_at "go"
    simp only [dct_at hdE, wp_some, key_str, gv_map, q2, Option.map_some]
    unfold lD
    simp only [gL, setAll, List.set_cons_succ, List.set_cons_zero, wp_some]
    unfold t__law_fall_right_7
    rw [w_ifs, w_tv, w_binS, w_var]
    simp only [List.getElem?_cons_succ, List.getElem?_cons_zero, wp_some]
    refine meth_nm hkE N2 rfl ?_
    rw [nin_names get_new]
    walk_at "go"
    by_cases m2 : l ∈ ls2
    · rw [decide_eq_true m2]
      refine itn (by simp) ?_
      obtain ⟨_, v, hv⟩ := N2.ok l m2
      rw [eg] at hv
      have kp0 : 0 < kp ks p (old L l) := by
        by_cases z : 0 < kp ks p (old L l)
        · exact z
        · rw [if_neg z] at hv; cases hv
      rw [if_pos kp0] at eg
      have tl : ((old L l).1.take (kp ks p (old L l))).length = kp ks p (old L l) := by rw [List.length_take]; omega
      unfold t__law_fall_right_6
      rw [w_seq, w_asg]
      refine meth_rd hkE2 q1 eg rfl rfl ?_
      simp only [gN, wp_some, List.set_cons_succ, List.set_cons_zero]
      unfold t__law_fall_right_5 t__law_fall_right_4
      walk_at "go"
      rw [t_starts (by rw [tl])]
      refine itn (by simp) ?_
      refine itp (by rw [tl]; omega) ?_
      rw [tl]
      refine itn (by omega) ?_
      rw [hkE2.a]
      walk_at "go"
      rw [show List.lookup (Str.ofString "synced") (DkF jf o) = none from rfl]
      simp only [and_self, if_true]
      rw [synced_ok hkE2 q1 eg]
      walk_at "go"
      refine itp (by omega) ?_
      refine itn (by simp) ?_
      exact done
    · rw [decide_eq_false m2]
      refine itp (by simp) ?_
      have k0' : kp ks p (old L l) = 0 := by
        by_cases z : 0 < kp ks p (old L l)
        · rw [if_pos z] at eg
          exact absurd (N2.mem l _ eg) m2
        · omega
      unfold t__law_fall_right_3 t__law_fall_right_2
      walk_at "go"
      refine itn (by omega) ?_
      exact done
  · obtain ⟨l, hl, rfl⟩ := List.mem_map.mp m
    exact ⟨l, hl, rfl⟩
end
end K07

namespace K07
open PySem PySem.StrLaws L2 TL M Ln
local macro_rules | `(tactic| walk_at "go") => `(tactic| simp (maxSteps := 100000000) only [w_def, w_var, w_c, w_bin, w_and, w_or, w_bK, w_not, w_if, w_nil, w_cons, w_tup, w_lst, w_new, w_tv, w_tand, w_tor, w_tnot, w_chain, w_call, w_kw, w_cb, w_ix, w_nop, w_p, w_sl, w_neg, w_ms, w_m1, w_d0, w_app, w_ext, w_pop, w_tr, w_newc, w_s1, w_repl, w_mu, w_addn, w_dget, w_din, w_dget2, w_asgs, w_attr, w_xo, w_lx, w_bx, w_none', w_binS, w_islt, w_zf, w_slR, w_forG, w_forE, w_sE, w_sw, w_lcG, w_sq, w_forx, w_gsd, w_fld, w_setF, w_meth, w_xmeth, w_mk, w_ifE, w_del, w_newD0, w_dnin, w_listKI, w_sortK, w_rev, w_dpop, w_xmethK, w_xmethR, w_lstx, w_isx, w_dctn', w_kwR', w_xkwR, w_mulL', w_sr2, len_mk, add_mk, w_sxr, w_xdef, w_xseq, w_xraise, w_xtry, w_qus, w_okf, w_xkw, mxIf, mxCons, mxCallM, mxCall, mxBin, mxTv, mxRet, mxDrop, mxAsg, outX,
  w_ret, w_skip, w_drop, w_asg, w_par, w_ifs, w_seq, w_seti, w_for, w_lc, w_sr, w_sl', w_st, w_ss, w_sz, w_yes, wp_some, wp_none, wp_bind, wp_map, wp_ite,
  List.map_cons, List.map_nil, List.length_cons, List.length_nil, Nat.reduceAdd, Nat.reduceSub, List.replicate_succ, List.replicate_zero, List.cons_append, List.nil_append, List.append_nil,
  List.getElem?_cons_zero, List.getElem?_cons_succ, List.set_cons_zero, List.set_cons_succ, gN, setAll, gT,
  e_addI, e_addT, e_addL, e_subI, e_mulI, e_modI, e_fdvI, e_powI, e_ltI, e_leI, e_gtI, e_geI, e_ltS, e_gtS, e_isB, e_int, e_abs, e_max, e_min, e_lenT, e_lenL, e_lenQ, e_ixT, e_ixL, e_ixQ, e_ixS, e_slT, e_slL, e_slQ, e_listT, e_listL, e_isi, e_eqI, e_eqS, e_neI, e_neS, e_ninS, iI, iB, iS, iT, at0, at1, at2, at3, at4, at5, at6, at7,
  Bool.false_eq_true, if_false, if_true, decide_eq_true_eq, reduceIte, Bool.not_true, Bool.not_false])
section
variable {S S' : Sto} {L : Kvl} {ks : List Nat} {ls ls2 : List (List Nat)} {xs xs2 : List Str} {B B' j jf jd jc jb N T kr : Nat} {o n : Int} {d : D} {way : Int} {l t : List Nat}
theorem fall_rest {P : Out × Sto → Prop} {a7 a8 a9 a10 : Option D} (h : Ws S jb j jf jd jc n T o L) (hT : T ≤ 60) (hn : n ≤ 800000) (hks : ks.length ≤ 1000) (hkr : S[kr]? = some (.lst (ksD ks))) (kn : kr ≠ jb ∧ kr ≠ j ∧ kr ≠ jf ∧ kr ≠ jd ∧ kr ≠ jc) (Nn : Nms L xs ls) (hd : d = .lst (ksD ks) ∨ d = .tup (ksD ks))
    (hP : ∀ S' jf' jd', Ws S' jb j jf' jd' jc (n + 1) (T + 1) (o + 1) (FL L ks 0 ls) → S'[jd]? = some (.dct (vmap lD L)) → jd ≠ jf' → P (.rt (.ref jd'), S')) :
    wp (t__law_fall_right_14 [some (.ref jb), some (.ref j), some (.ref jd), some (.ref jc), some (.ref kr), some d, none, a7, a8, a9, a10] S) P := by
  have hsq : ∀ S, SqAt S d (ksD ks) := fun S => hd.elim .inl fun e => .inr (.inl e)
  have hlst : ∀ S, listS S [d] = some (.lst (ksD ks)) := fun S => by rcases hd with rfl | rfl <;> rfl
  obtain ⟨lj, ljf, ljd, ljc⟩ := Pr.lt h.pr
  have ljb := h.box.lt
  have lkr := lt_of_get hkr
  have hlen := h.len
  obtain ⟨hLf, hsy⟩ := lk_fall (ks := ks) h.lk Nn
  have hlf : (FL L ks 0 ls).length ≤ T := Nat.le_trans FL_len (by rw [Nn.len]; exact hlen)
  obtain ⟨xs2, ls2, N2⟩ := nms hLf (by omega)
  unfold t__law_fall_right_14
  walk_at "go"
  rw [fallen_ok h.pr.d h.lk (by omega) Nn (.inr (.inr ⟨kr, rfl, hkr⟩))]
  walk_at "go"
  -- S2: the law's own fall
  have hc2 : (falnS S L ks ls)[jc]? = some (.lst [.int o]) := by unfold falnS; rw [List.getElem?_append_left ljc]; exact h.pr.c
  unfold t__law_fall_right_13
  walk_at "go"
  rw [ix_c hc2]
  walk_at "go"
  rw [st_c hc2]
  walk_at "go"
  -- S3: counted
  have at3 : ∀ i, i < S.length → i ≠ jc → ((falnS S L ks ls).set jc (.lst [.int (o + 1)]))[i]? = S[i]? := fun i hi ne => by
    rw [List.getElem?_set_ne (fun z => ne z.symm)]
    unfold falnS
    rw [List.getElem?_append_left hi]
  have len3 : ((falnS S L ks ls).set jc (.lst [.int (o + 1)])).length = S.length + 1 := by simp
  have hc3 : ((falnS S L ks ls).set jc (.lst [.int (o + 1)]))[jc]? = some (.lst [.int (o + 1)]) := List.getElem?_set_self (lt_of_get hc2)
  have hf3 : ((falnS S L ks ls).set jc (.lst [.int (o + 1)]))[S.length]? = some (.dct (vmap lD (FL L ks 0 ls))) := by
    rw [List.getElem?_set_ne (by omega)]
    exact get_at (B := [])
  generalize (falnS S L ks ls).set jc (.lst [.int (o + 1)]) = S3 at *
  have B3 : Bx S3 jb n := h.box.of_eq (at3 jb ljb h.nb.2.2.2)
  unfold t__law_fall_right_12
  walk_at "go"
  refine take_spec2 B3 (by decide) (by decide) (by omega) fun way S4 w0 w1 B4 b4 => ?_
  have at4 : ∀ i, i < S.length → i ≠ jc → i ≠ jb → S4[i]? = S[i]? := fun i hi n1 n2 => by rw [b4.at_ i n2]; exact at3 i hi n1
  have len4 : S4.length = S.length + 1 := by rw [b4.len]; exact len3
  have hc4 : S4[jc]? = some (.lst [.int (o + 1)]) := by rw [b4.at_ _ h.nb.2.2.2.symm]; exact hc3
  have hf4 : S4[S.length]? = some (.dct (vmap lD (FL L ks 0 ls))) := by rw [b4.at_ _ (by omega)]; exact hf3
  have hk4 : Dk S4 j jf o L := ⟨by rw [at4 j lj h.u.d.symm h.nb.1.symm]; exact h.pr.dk.a, by rw [at4 jf ljf h.u.e.symm h.nb.2.1.symm]; exact h.pr.dk.b⟩
  have hd4 : S4[jd]? = some (.dct (vmap lD L)) := by rw [at4 jd ljd h.u.a h.nb.2.2.1.symm]; exact h.pr.d
  have hr4 : S4[kr]? = some (.lst (ksD ks)) := by rw [at4 kr lkr kn.2.2.2.2 kn.1]; exact hkr
  rw [told_ok hk4 (fall_ok hk4 h.lk (by omega) Nn (hsq S4) hks)]
  walk_at "go"
  -- S5: fallen
  have at5 : ∀ i, i < S4.length → i ≠ j → ((fallS S4 L ks ls ls).set j (.ins "Disk" (DkF S4.length (o + 1))))[i]? = S4[i]? := fun i hi ne => by
    rw [List.getElem?_set_ne (fun z => ne z.symm)]
    unfold fallS
    rw [List.getElem?_append_left hi]
  have ha5 : ((fallS S4 L ks ls ls).set j (.ins "Disk" (DkF S4.length (o + 1))))[j]? = some (.ins "Disk" (DkF S4.length (o + 1))) := List.getElem?_set_self (by unfold fallS; rw [List.length_append]; omega)
  have hb5 : ((fallS S4 L ks ls ls).set j (.ins "Disk" (DkF S4.length (o + 1))))[S4.length]? = some (.dct (vmap tD (FL L ks 0 ls))) := by
    rw [List.getElem?_set_ne (by omega)]
    exact get_at
  generalize (fallS S4 L ks ls ls).set j (.ins "Disk" (DkF S4.length (o + 1))) = S5 at *
  have p5 : Pr S5 j S4.length S.length jc (o + 1) (FL L ks 0 ls) :=
    ⟨⟨ha5, hb5⟩, by rw [at5 _ (by omega) (by omega)]; exact hf4, by rw [at5 jc (by omega) h.u.d]; exact hc4⟩
  refine ⟨by decide, ?_⟩
  rw [ne_told]
  walk_at "go"
  rw [hlst]
  walk_at "go"
  rw [ne_ks (i := kr) (by rw [at5 kr (by omega) kn.2.1]; exact hr4)]
  walk_at "go"
  have B5 : Bx S5 jb (n + 1) := B4.of_eq (at5 jb (by omega) h.nb.1)
  have W5 : Ws S5 jb j S4.length S.length jc (n + 1) (T + 1) (o + 1) (FL L ks 0 ls) :=
    ⟨B5, p5, lk_mono hLf (by omega), by omega, by have := h.o0; omega, by have := h.o1; omega, ⟨by omega, by omega, by omega, h.u.d, by omega, by omega⟩, ⟨h.nb.1, by omega, by omega, h.nb.2.2.2⟩⟩
  unfold t__law_fall_right_11
  walk_at "go"
  rw [alike p5 hLf (by omega) N2 (W5.o40 (by omega))]
  walk_at "go"
  unfold t__law_fall_right_10
  have hd6 : (S5 ++ [Ob.lst (strsD ls2)])[jd]? = some (.dct (vmap lD L)) := by
    rw [List.getElem?_append_left (by have := lt_of_get ha5; have := lt_of_get hb5; omega), at5 jd (by omega) h.u.b]; exact hd4
  walk_at "go"
  rw [dct_at hd6]
  walk_at "go"
  rw [sort_keys (Nn.st lD) Nn.lt, Nn.so]
  walk_at "go"
  refine look_loop (p5.dk.ext) hd6 h.lk (by omega) Nn N2 fun a7 a8 a9 a10 G => ?_
  unfold t__law_fall_right_9
  walk_at "go"
  have be : BE jb S5 (S5 ++ [Ob.lst (strsD ls2)] ++ G) := BE.ext.trans BE.ext
  have B6 : Bx (S5 ++ [Ob.lst (strsD ls2)] ++ G) jb (n + 1) := (B5.ext).ext
  exact hP _ _ _ (W5.be be B6) (by rw [List.getElem?_append_left (lt_of_get hd6)]; exact hd6) (by omega)
theorem fall_right {Q : D × Sto → Prop} (h : Ws S jb j jf jd jc n T o L) (hT : T ≤ 60) (hn : n ≤ 700000) (hks : KsOk ks) (hkr : S[kr]? = some (.lst (ksD ks))) (kn : kr ≠ jb ∧ kr ≠ j ∧ kr ≠ jf ∧ kr ≠ jd ∧ kr ≠ jc) (Nn : Nms L xs ls)
    (hQ : ∀ S' jf' jd', Ws S' jb j jf' jd' jc (n + 2) (T + 1) (o + 1) (FL L ks 0 ls) → S'[jd]? = some (.dct (vmap lD L)) → jd ≠ jf' → Q (.ref jd', S')) :
    wp (m__law_fall_right [.ref jb, .ref j, .ref jd, .ref jc, .ref kr] S) Q := by
  unfold m__law_fall_right t__law_fall_right_15
  walk_at "go"
  refine take_spec2 h.box (by decide) (by decide) (by omega) fun r S1 r0 r1 B1 b1 => ?_
  have W1 := h.be b1.be B1
  have hkr1 : S1[kr]? = some (.lst (ksD ks)) := by rw [b1.at_ _ kn.1]; exact hkr
  have hl := hks.1
  have fin : ∀ {d : D}, d = .lst (ksD ks) ∨ d = .tup (ksD ks) → wp (t__law_fall_right_14 [some (.ref jb), some (.ref j), some (.ref jd), some (.ref jc), some (.ref kr), some d, none, none, none, none, none] S1) fun x => wp (match x.1 with | .rt d => some (d, x.2) | .nx _ => some (.non, x.2) | _ => none) Q := by
    intro d hd
    refine fall_rest W1 hT (by omega) (by omega) hkr1 kn Nn hd fun S' jf' jd' w e ne => ?_
    refine wp_some.mpr (hQ S' jf' jd' ⟨w.box.mono (by omega), w.pr, w.lk, w.len, w.o0, w.o1, w.u, w.nb⟩ e ne)
  walk_at "go"
  refine it2 (fun _ => ?_) fun _ => ?_
  · rw [show tupS S1 [.ref kr] = some (.tup (ksD ks)) by
      show (stLst S1 kr).map _ = _
      rw [stLst_of hkr1]
      rfl]
    walk_at "go"
    exact fin (.inr rfl)
  · rw [show listS S1 [.ref kr] = some (.lst (ksD ks)) by
      show (stLst S1 kr).map _ = _
      rw [stLst_of hkr1]
      rfl]
    walk_at "go"
    exact fin (.inl rfl)
end
end K07

namespace K07
open PySem PySem.StrLaws L2 TL M Ln
local macro_rules | `(tactic| walk_at "go") => `(tactic| simp (maxSteps := 100000000) only [w_def, w_var, w_c, w_bin, w_and, w_or, w_bK, w_not, w_if, w_nil, w_cons, w_tup, w_lst, w_new, w_tv, w_tand, w_tor, w_tnot, w_chain, w_call, w_kw, w_cb, w_ix, w_nop, w_p, w_sl, w_neg, w_ms, w_m1, w_d0, w_app, w_ext, w_pop, w_tr, w_newc, w_s1, w_repl, w_mu, w_addn, w_dget, w_din, w_dget2, w_asgs, w_attr, w_xo, w_lx, w_bx, w_none', w_binS, w_islt, w_zf, w_slR, w_forG, w_forE, w_sE, w_sw, w_lcG, w_sq, w_forx, w_gsd, w_fld, w_setF, w_meth, w_xmeth, w_mk, w_ifE, w_del, w_newD0, w_dnin, w_listKI, w_sortK, w_rev, w_dpop, w_xmethK, w_xmethR, w_lstx, w_isx, w_dctn', w_kwR', w_xkwR, w_mulL', w_sr2, len_mk, add_mk, w_sxr, w_xdef, w_xseq, w_xraise, w_xtry, w_qus, w_okf, w_xkw, mxIf, mxCons, mxCallM, mxCall, mxBin, mxTv, mxRet, mxDrop, mxAsg, outX,
  w_ret, w_skip, w_drop, w_asg, w_par, w_ifs, w_seq, w_seti, w_for, w_lc, w_sr, w_sl', w_st, w_ss, w_sz, w_yes, wp_some, wp_none, wp_bind, wp_map, wp_ite,
  List.map_cons, List.map_nil, List.length_cons, List.length_nil, Nat.reduceAdd, Nat.reduceSub, List.replicate_succ, List.replicate_zero, List.cons_append, List.nil_append, List.append_nil,
  List.getElem?_cons_zero, List.getElem?_cons_succ, List.set_cons_zero, List.set_cons_succ, gN, setAll, gT,
  e_addI, e_addT, e_addL, e_subI, e_mulI, e_modI, e_fdvI, e_powI, e_ltI, e_leI, e_gtI, e_geI, e_ltS, e_gtS, e_isB, e_int, e_abs, e_max, e_min, e_lenT, e_lenL, e_lenQ, e_ixT, e_ixL, e_ixQ, e_ixS, e_slT, e_slL, e_slQ, e_listT, e_listL, e_isi, e_eqI, e_eqS, e_neI, e_neS, e_ninS, iI, iB, iS, iT, at0, at1, at2, at3, at4, at5, at6, at7,
  Bool.false_eq_true, if_false, if_true, decide_eq_true_eq, reduceIte, Bool.not_true, Bool.not_false])
section
variable {S S' : Sto} {L M : Kvl} {ks : List Nat} {ls ls2 : List (List Nat)} {xs xs2 : List Str} {B B' j jf jd jc jb N T kr : Nat} {o n : Int} {d : D} {way : Int} {l t : List Nat}
theorem ok_str {l : List Nat} (h : ∀ c ∈ l, c < 128) : PyData.strOk (mk l) = true := by
  unfold PyData.strOk
  rw [← Array.all_toList]
  have e : (mk l).cps.toList = l := cs_mk l
  rw [e, List.all_eq_true]
  intro c m
  have := h c m
  simp
  omega
theorem same_k {i k : Nat} (h1 : S[i]? = some (.dct (vmap lD M))) (h2 : S[k]? = some (.dct (vmap lD M))) (hM : Lk M B) : neDS S (.ref i) (.ref k) = some (.bl false) := by
  unfold neDS
  refine if_pos ⟨vmap lD M, dct_at h1, dct_at h2, fun p m => ?_⟩
  obtain ⟨kv, m2, rfl⟩ := List.mem_map.mp m
  obtain ⟨t1, t2, t3⟩ := hM.tx kv m2
  refine ⟨by rw [gv_map, uq hM.nd kv m2]; rfl, .list [.str (mk kv.2.1), .int (kv.2.2 : Int)], ?_, ?_, ?_, ?_⟩
  · show toPS S (.lst [.str (mk kv.2.1), .int (kv.2.2 : Int)]) = _
    simp only [toPS, toPSA, Option.bind_some, Option.map_some]
  · simp only [SeqAt.shaped, PyData.canLay0, PyData.canLayAll0, PyData.depth, PyData.depthAll, ok_str t2]
    rfl
  · simp only [PyData.depth, PyData.depthAll]
    decide
  · simp [PyData.eqv, PyData.eqvAll]
theorem Ws.kb {N : Nat} (h : Ws S jb j jf jd jc n T o L) (b : KB N S S') (hN : j < N ∧ jf < N ∧ jd < N ∧ jc < N) (hb : jb < N) : Ws S' jb j jf jd jc n T o L :=
  ⟨h.box.of_eq (b.at_ _ hb), h.pr.of_eq (b.at_ _ hN.1) (b.at_ _ hN.2.1) (b.at_ _ hN.2.2.1) (b.at_ _ hN.2.2.2), h.lk, h.len, h.o0, h.o1, h.u, h.nb⟩
theorem is_non {i : Nat} : isD (.ref i) .non = some (.bl false) := rfl
theorem turn {P : Out × Sto → Prop} {a0 a1 a3 a7 a8 : Option D} (h : Ws S jb j jf jd jc n T o L) (hT : T ≤ 40) (hn : n ≤ 500000)
    (hP : ∀ a7 a8 S' jf' jd' o' L', Ws S' jb j jf' jd' jc (n + 400) (T + 11) o' L' → P (.nx [a0, a1, some (.ref jb), a3, some (.ref j), some (.ref jd'), some (.ref jc), a7, a8], S')) :
    wp (t_law_11 [a0, a1, some (.ref jb), a3, some (.ref j), some (.ref jd), some (.ref jc), a7, a8] S) P := by
  unfold t_law_11
  walk_at "go"
  refine filled h (by omega) (by omega) fun v S0 o L W0 => ?_
  walk_at "go"
  unfold t_law_10
  walk_at "go"
  refine take_spec2 W0.box (by decide) (by decide) (by omega) fun way S1 w0 w1 B1 b1 => ?_
  have W1 := W0.be b1.be B1
  walk_at "go"
  refine nokeeps_spec (N := S1.length) B1 (by omega) (Nat.le_refl _) fun d S2 kb B2 b2 => ?_
  have W2 := W1.be b2 B2
  obtain ⟨S3, e3, kb3⟩ := refused (way := way) W2.pr.dk kb
  rw [e3]
  have W3 := W2.kb kb3 (Pr.lt W1.pr) W1.box.lt
  walk_at "go"
  obtain ⟨xs, ls, Nn⟩ := W3.nms (by omega)
  unfold t_law_9
  walk_at "go"
  rw [alike W3.pr W3.lk (by omega) Nn (W3.o40 (by omega))]
  have W4 := W3.be (BE.ext (G := [Ob.lst (strsD ls)])) W3.box.ext
  generalize S3 ++ [Ob.lst (strsD ls)] = S4 at *
  walk_at "go"
  unfold t_law_8
  walk_at "go"
  refine keeps_spec W4.box (by omega) fun ks kr S5 k1 k2 k3 B5 b5 => ?_
  have W5 := W4.be b5 B5
  obtain ⟨lj, ljf, ljd, ljc⟩ := Pr.lt W4.pr
  have ljb := W4.box.lt
  refine fall_right W5 (by omega) (by omega) k1 k3 ⟨by omega, by omega, by omega, by omega, by omega⟩ Nn fun S6 jf1 jd1 W6 _ _ => ?_
  walk_at "go"
  unfold t_law_7
  walk_at "go"
  rw [is_non]
  walk_at "go"
  obtain ⟨xs2, ls2, N2⟩ := W6.nms (by omega)
  unfold t_law_6
  walk_at "go"
  refine keeps_spec W6.box (by omega) fun ks2 kr2 S7 c1 c2 c3 B7 b7 => ?_
  have W7 := W6.be b7 B7
  obtain ⟨mj, mjf, mjd, mjc⟩ := Pr.lt W6.pr
  have mjb := W6.box.lt
  refine fall_right W7 (by omega) (by omega) c1 c3 ⟨by omega, by omega, by omega, by omega, by omega⟩ N2 fun S8 jf2 jd2 W8 e8 ne8 => ?_
  have ea := again_eq W5.lk Nn N2 ks2
  rw [ea] at W8
  walk_at "go"
  unfold t_law_5
  walk_at "go"
  rw [is_non]
  walk_at "go"
  rw [same_k W8.pr.d e8 W8.lk]
  walk_at "go"
  unfold t_law_4
  walk_at "go"
  refine hP _ _ S8 jf2 jd1 _ _ ⟨W8.box.mono (by omega), ⟨W8.pr.dk, e8, W8.pr.c⟩, W8.lk, W8.len, W8.o0, W8.o1, ⟨W7.u.a, W7.u.b, ne8, W7.u.d, W8.u.e, W8.u.f⟩, ⟨W8.nb.1, W8.nb.2.1, W7.nb.2.2.1, W8.nb.2.2.2⟩⟩
theorem turns {P : Out × Sto → Prop} {a0 a1 a3 a7 a8 : Option D} (h : Ws S jb j jf jd jc 0 0 0 []) 
    (hP : ∀ a3 a5 a7 a8 S', P (.nx [a0, a1, some (.ref jb), a3, some (.ref j), a5, some (.ref jc), a7, a8], S')) :
    wp (t_law_12 [a0, a1, some (.ref jb), a3, some (.ref j), some (.ref jd), some (.ref jc), a7, a8] S) P := by
  unfold t_law_12
  walk_at "go"
  refine itp (by decide) ?_
  refine wp_loop (fun ds ρ S => ∃ (k : Nat) (jf jd : Nat) (o : Int) (L : Kvl) (a3 a7 a8 : Option D), k + ds.length = 4 ∧ Ws S jb j jf jd jc (400 * (k : Int)) (11 * k) o L ∧ ρ = [a0, a1, some (.ref jb), a3, some (.ref j), some (.ref jd), some (.ref jc), a7, a8]) (fun ρ S w => ?_) (fun d ds ρ S w => ?_) _ _ _ ⟨0, jf, jd, 0, [], _, _, _, by simp [upto], by simpa using h, rfl⟩
  · obtain ⟨k, jf, jd, o, L, a3, a7, a8, hk, w, rfl⟩ := w
    exact hP _ _ _ _ _
  · obtain ⟨k, jf, jd, o, L, a3, a7, a8, hk, w, rfl⟩ := w
    rw [List.length_cons] at hk
    simp only [gN, wp_some, List.set_cons_succ, List.set_cons_zero]
    refine turn w (by omega) (by omega) fun a7 a8 S' jf' jd' o' L' w' => ?_
    refine ⟨k + 1, jf', jd', o', L', _, _, _, by omega, ?_, rfl⟩
    rw [show 400 * ((k + 1 : Nat) : Int) = 400 * (k : Int) + 400 by omega, show 11 * (k + 1) = 11 * k + 11 by omega]
    exact w'
theorem start {o : Ob} (B : Bx (S ++ [o]) S.length 0) : Ws (S ++ [o, .ins "Disk" (DkF (S.length + 2) 0), .dct [], .dct [], .lst [.int 0]]) S.length (S.length + 1) (S.length + 2) (S.length + 3) (S.length + 4) 0 0 0 [] := by
  have at_ : ∀ (i : Nat) (G : Sto), (S ++ G)[S.length + i]? = G[i]? := fun i G => by
    rw [List.getElem?_append_right (by omega)]
    congr 1
    omega
  have lk : Lk ([] : Kvl) (9 * 0) := ⟨fun _ m => (by cases m), fun _ m => (by cases m), by simp⟩
  refine ⟨B.of_eq ?_, ⟨⟨at_ 1 _, at_ 2 _⟩, at_ 3 _, at_ 4 _⟩, lk, Nat.le_refl _, by decide, by decide, ⟨by omega, by omega, by omega, by omega, by omega, by omega⟩, ⟨by omega, by omega, by omega, by omega⟩⟩
  rw [show (S.length : Nat) = S.length + 0 from rfl, at_, at_]
  rfl
theorem math (ns : List Int) (hl : ns.length ≤ 63) : ∃ S', m_law [.seq (ns.map .int)] [] = some (.bl true, S') := by
  have main : wp (m_law [.seq (ns.map .int)] []) (fun x => x.1 = .bl true) := by
    unfold m_law t_law_16
    walk_at "go"
    rw [List.length_map]
    refine itp (by split <;> split <;> omega) ?_
    refine wp_loop (fun ds ρ S => (∀ d ∈ ds, ∃ k : Int, d = .int k ∧ 0 ≤ k) ∧ ∃ a1 a2 a3 a4 a5 a6 a7 a8, ρ = [some (.seq (ns.map .int)), a1, a2, a3, a4, a5, a6, a7, a8]) ?_ ?_ _ _ _ ⟨?_, _, _, _, _, _, _, _, _, rfl⟩
    · rintro ρ S ⟨-, a1, a2, a3, a4, a5, a6, a7, a8, rfl⟩
      unfold t_law_15
      walk_at "go"
    · rintro x ds ρ S ⟨hk, a1, a2, a3, a4, a5, a6, a7, a8, rfl⟩
      obtain ⟨k, rfl, k0⟩ := hk _ List.mem_cons_self
      have hk2 : ∀ d ∈ ds, ∃ k : Int, d = .int k ∧ 0 ≤ k := fun x hx => hk x (List.mem_cons_of_mem _ hx)
      unfold t_law_14
      walk_at "go"
      refine cell_spec k0 fun r => ?_
      walk_at "go"
      refine box_spec fun o' B1 => ?_
      try walk_at "go"
      unfold t_law_13
      walk_at "go"
      rw [init_spec]
      walk_at "go"
      rw [dn]
      simp only [wp_some]
      refine ⟨by decide, ?_⟩
      have st := start B1
      simp only [List.append_assoc, List.cons_append, List.nil_append, List.length_append, List.length_cons, List.length_nil, Nat.add_assoc, Nat.reduceAdd]
      refine turns st fun a3 a5 a7 a8 S' => ?_
      exact ⟨hk2, _, _, _, _, _, _, _, _, rfl⟩
    · intro d hd
      unfold upto at hd
      obtain ⟨i, _, rfl⟩ := List.mem_map.mp hd
      exact ⟨_, rfl, by omega⟩
  obtain ⟨⟨x, S'⟩, e, rfl⟩ := main
  exact ⟨S', e⟩
end
end K07


set_option maxHeartbeats 8000000
namespace K07
open PySem L2 W2 RZ M PySem.HandSPX
abbrev si_InvalidName : Stmt := match top 4 with
  | .ClassDef _ _ _ b _ _ _ _ _ _ _ => b.getD 0 (.Pass ⟨0, 0, 0, 0⟩)
  | s => s
theorem sci_InvalidName : FnScope ["self", "given"] ["self", "given"] (defScope si_InvalidName) := ⟨rfl, rfl, rfl, by decide +kernel, rfl, by decide +kernel, by decide +kernel⟩
abbrev si_InvalidText : Stmt := match top 5 with
  | .ClassDef _ _ _ b _ _ _ _ _ _ _ => b.getD 0 (.Pass ⟨0, 0, 0, 0⟩)
  | s => s
theorem sci_InvalidText : FnScope ["self", "given"] ["self", "given"] (defScope si_InvalidText) := ⟨rfl, rfl, rfl, by decide +kernel, rfl, by decide +kernel, by decide +kernel⟩
abbrev si_NoFile : Stmt := match top 7 with
  | .ClassDef _ _ _ b _ _ _ _ _ _ _ => b.getD 0 (.Pass ⟨0, 0, 0, 0⟩)
  | s => s
theorem sci_NoFile : FnScope ["self", "name"] ["self", "name"] (defScope si_NoFile) := ⟨rfl, rfl, rfl, by decide +kernel, rfl, by decide +kernel, by decide +kernel⟩
abbrev si_InvalidKeeps : Stmt := match top 3 with
  | .ClassDef _ _ _ b _ _ _ _ _ _ _ => b.getD 0 (.Pass ⟨0, 0, 0, 0⟩)
  | s => s
theorem sci_InvalidKeeps : FnScope ["self", "given"] ["self", "given"] (defScope si_InvalidKeeps) := ⟨rfl, rfl, rfl, by decide +kernel, rfl, by decide +kernel, by decide +kernel⟩
theorem tblJ_all  {Q : Str → Fn → Prop} (h_is_count : Q "is_count" m_is_count) : ∀ z F, (tblJ) z = some F → Q z F := by
  intro z F q
  unfold tblJ at q
  by_cases e : z = "is_count"
  · rw [if_pos e] at q
    cases q
    rw [e]
    exact h_is_count
  rw [if_neg e] at q
  clear e
  cases q
theorem all_mk {P : Program} {w : World} {K : PySem.W.Frag} {h : Heap} {mg : Str → Option Value} {fa : Addr} (X : K.In h) (G : h.Ns mainGlobals mg) (hfa : mg "law" = some (.ref fa))
    {f_is_integer f_is_count f_is_list_of f_is_signs f_Disk_init f_Disk__use_power f__is_file_name f_Disk_write f_Disk__found f_Disk_read f_Disk_names f_Disk_sync f_Disk_synced f_Disk_fall f_Disk_ops f__law_cell f__law_box f__law_take f__law_pool f__law_filled f__law_keeps f__law_no_keeps f__law_fallen f__law_told f__law_refused f__law_is_gone f__law_alike f__law_fall_right f_law : Addr} {od_is_integer an_is_integer od_is_count an_is_count od_is_list_of an_is_list_of od_is_signs an_is_signs od_Disk_init an_Disk_init od_Disk__use_power an_Disk__use_power od__is_file_name an__is_file_name od_Disk_write an_Disk_write od_Disk__found an_Disk__found od_Disk_read an_Disk_read od_Disk_names an_Disk_names od_Disk_sync an_Disk_sync od_Disk_synced an_Disk_synced od_Disk_fall an_Disk_fall od_Disk_ops an_Disk_ops od__law_cell an__law_cell od__law_box an__law_box od__law_take an__law_take od__law_pool an__law_pool od__law_filled an__law_filled od__law_keeps an__law_keeps od__law_no_keeps an__law_no_keeps od__law_fallen an__law_fallen od__law_told an__law_told od__law_refused an__law_refused od__law_is_gone an__law_is_gone od__law_alike an__law_alike od__law_fall_right an__law_fall_right od_law an_law : Option Addr} {sl_is_integer sl_is_count sl_is_list_of sl_is_signs sl_Disk_init sl_Disk__use_power sl__is_file_name sl_Disk_write sl_Disk__found sl_Disk_read sl_Disk_names sl_Disk_sync sl_Disk_synced sl_Disk_fall sl_Disk_ops sl__law_cell sl__law_box sl__law_take sl__law_pool sl__law_filled sl__law_keeps sl__law_no_keeps sl__law_fallen sl__law_told sl__law_refused sl__law_is_gone sl__law_alike sl__law_fall_right sl_law : Array (Option Value)} {oc_is_integer kV_is_integer dc_is_integer pm_is_integer cd_is_integer ct_is_integer oc_is_count kV_is_count dc_is_count pm_is_count cd_is_count ct_is_count oc_is_list_of kV_is_list_of dc_is_list_of pm_is_list_of cd_is_list_of ct_is_list_of oc_is_signs kV_is_signs dc_is_signs pm_is_signs cd_is_signs ct_is_signs oc_Disk_init kV_Disk_init dc_Disk_init pm_Disk_init cd_Disk_init ct_Disk_init oc_Disk__use_power kV_Disk__use_power dc_Disk__use_power pm_Disk__use_power cd_Disk__use_power ct_Disk__use_power oc__is_file_name kV__is_file_name dc__is_file_name pm__is_file_name cd__is_file_name ct__is_file_name oc_Disk_write kV_Disk_write dc_Disk_write pm_Disk_write cd_Disk_write ct_Disk_write oc_Disk__found kV_Disk__found dc_Disk__found pm_Disk__found cd_Disk__found ct_Disk__found oc_Disk_read kV_Disk_read dc_Disk_read pm_Disk_read cd_Disk_read ct_Disk_read oc_Disk_names kV_Disk_names dc_Disk_names pm_Disk_names cd_Disk_names ct_Disk_names oc_Disk_sync kV_Disk_sync dc_Disk_sync pm_Disk_sync cd_Disk_sync ct_Disk_sync oc_Disk_synced kV_Disk_synced dc_Disk_synced pm_Disk_synced cd_Disk_synced ct_Disk_synced oc_Disk_fall kV_Disk_fall dc_Disk_fall pm_Disk_fall cd_Disk_fall ct_Disk_fall oc_Disk_ops kV_Disk_ops dc_Disk_ops pm_Disk_ops cd_Disk_ops ct_Disk_ops oc__law_cell kV__law_cell dc__law_cell pm__law_cell cd__law_cell ct__law_cell oc__law_box kV__law_box dc__law_box pm__law_box cd__law_box ct__law_box oc__law_take kV__law_take dc__law_take pm__law_take cd__law_take ct__law_take oc__law_pool kV__law_pool dc__law_pool pm__law_pool cd__law_pool ct__law_pool oc__law_filled kV__law_filled dc__law_filled pm__law_filled cd__law_filled ct__law_filled oc__law_keeps kV__law_keeps dc__law_keeps pm__law_keeps cd__law_keeps ct__law_keeps oc__law_no_keeps kV__law_no_keeps dc__law_no_keeps pm__law_no_keeps cd__law_no_keeps ct__law_no_keeps oc__law_fallen kV__law_fallen dc__law_fallen pm__law_fallen cd__law_fallen ct__law_fallen oc__law_told kV__law_told dc__law_told pm__law_told cd__law_told ct__law_told oc__law_refused kV__law_refused dc__law_refused pm__law_refused cd__law_refused ct__law_refused oc__law_is_gone kV__law_is_gone dc__law_is_gone pm__law_is_gone cd__law_is_gone ct__law_is_gone oc__law_alike kV__law_alike dc__law_alike pm__law_alike cd__law_alike ct__law_alike oc__law_fall_right kV__law_fall_right dc__law_fall_right pm__law_fall_right cd__law_fall_right ct__law_fall_right oc_law kV_law dc_law pm_law cd_law ct_law : Value} {D_Disk : Addr} {t_MOST_OF_NAME : Tok} {t_SIGNS_OF_NAME : Tok} {C_InvalidName fi_InvalidName N_InvalidName : Addr} {nm_InvalidName q_InvalidName : Str} {bs_InvalidName bm_InvalidName sub_InvalidName : List Value} {sn_InvalidName : List Str} {ab_InvalidName : Bool} {col_InvalidName : Option Bool} {dd_InvalidName : Option Addr} {k0_InvalidName k1_InvalidName k2_InvalidName k3_InvalidName k5_InvalidName : Option Value} {od_InvalidName an_InvalidName : Option Addr} {sl_InvalidName : Array (Option Value)} {oc_InvalidName kV_InvalidName dc_InvalidName pm_InvalidName cd_InvalidName ct_InvalidName : Value} {C_InvalidText fi_InvalidText N_InvalidText : Addr} {nm_InvalidText q_InvalidText : Str} {bs_InvalidText bm_InvalidText sub_InvalidText : List Value} {sn_InvalidText : List Str} {ab_InvalidText : Bool} {col_InvalidText : Option Bool} {dd_InvalidText : Option Addr} {k0_InvalidText k1_InvalidText k2_InvalidText k3_InvalidText k5_InvalidText : Option Value} {od_InvalidText an_InvalidText : Option Addr} {sl_InvalidText : Array (Option Value)} {oc_InvalidText kV_InvalidText dc_InvalidText pm_InvalidText cd_InvalidText ct_InvalidText : Value} {C_NoFile fi_NoFile N_NoFile : Addr} {nm_NoFile q_NoFile : Str} {bs_NoFile bm_NoFile sub_NoFile : List Value} {sn_NoFile : List Str} {ab_NoFile : Bool} {col_NoFile : Option Bool} {dd_NoFile : Option Addr} {k0_NoFile k1_NoFile k2_NoFile k3_NoFile k5_NoFile : Option Value} {od_NoFile an_NoFile : Option Addr} {sl_NoFile : Array (Option Value)} {oc_NoFile kV_NoFile dc_NoFile pm_NoFile cd_NoFile ct_NoFile : Value} {C_InvalidKeeps fi_InvalidKeeps N_InvalidKeeps : Addr} {nm_InvalidKeeps q_InvalidKeeps : Str} {bs_InvalidKeeps bm_InvalidKeeps sub_InvalidKeeps : List Value} {sn_InvalidKeeps : List Str} {ab_InvalidKeeps : Bool} {col_InvalidKeeps : Option Bool} {dd_InvalidKeeps : Option Addr} {k0_InvalidKeeps k1_InvalidKeeps k2_InvalidKeeps k3_InvalidKeeps k5_InvalidKeeps : Option Value} {od_InvalidKeeps an_InvalidKeeps : Option Addr} {sl_InvalidKeeps : Array (Option Value)} {oc_InvalidKeeps kV_InvalidKeeps dc_InvalidKeeps pm_InvalidKeeps cd_InvalidKeeps ct_InvalidKeeps : Value}
    (da_Disk : PySem.W.nsIn K mainGlobals "Disk" = some (some (.ref D_Disk)))
    (a_is_integer : PySem.W.nsIn K mainGlobals "is_integer" = some (some (.ref f_is_integer)))
    (l_is_integer : K.lookup f_is_integer = some ⟨oc_is_integer, od_is_integer, .func (PySem.W.fnOf "is_integer" "is_integer" (defArgs s_is_integer) (defBody s_is_integer) (defScope s_is_integer) .none kV_is_integer dc_is_integer pm_is_integer an_is_integer cd_is_integer ct_is_integer), sl_is_integer⟩)
    (c_is_integer : PySem.W.codeIn K cd_is_integer "is_integer" = true)
    (k_is_integer : PySem.W.keepIn K (.ref f_is_integer) = true)
    (a_is_count : PySem.W.nsIn K mainGlobals "is_count" = some (some (.ref f_is_count)))
    (l_is_count : K.lookup f_is_count = some ⟨oc_is_count, od_is_count, .func (PySem.W.fnOf "is_count" "is_count" (defArgs s_is_count) (defBody s_is_count) (defScope s_is_count) .none kV_is_count dc_is_count pm_is_count an_is_count cd_is_count ct_is_count), sl_is_count⟩)
    (c_is_count : PySem.W.codeIn K cd_is_count "is_count" = true)
    (k_is_count : PySem.W.keepIn K (.ref f_is_count) = true)
    (a_is_list_of : PySem.W.nsIn K mainGlobals "is_list_of" = some (some (.ref f_is_list_of)))
    (l_is_list_of : K.lookup f_is_list_of = some ⟨oc_is_list_of, od_is_list_of, .func (PySem.W.fnOf "is_list_of" "is_list_of" (defArgs s_is_list_of) (defBody s_is_list_of) (defScope s_is_list_of) .none kV_is_list_of dc_is_list_of pm_is_list_of an_is_list_of cd_is_list_of ct_is_list_of), sl_is_list_of⟩)
    (c_is_list_of : PySem.W.codeIn K cd_is_list_of "is_list_of" = true)
    (k_is_list_of : PySem.W.keepIn K (.ref f_is_list_of) = true)
    (a_is_signs : PySem.W.nsIn K mainGlobals "is_signs" = some (some (.ref f_is_signs)))
    (l_is_signs : K.lookup f_is_signs = some ⟨oc_is_signs, od_is_signs, .func (PySem.W.fnOf "is_signs" "is_signs" (defArgs s_is_signs) (defBody s_is_signs) (defScope s_is_signs) .none kV_is_signs dc_is_signs pm_is_signs an_is_signs cd_is_signs ct_is_signs), sl_is_signs⟩)
    (c_is_signs : PySem.W.codeIn K cd_is_signs "is_signs" = true)
    (k_is_signs : PySem.W.keepIn K (.ref f_is_signs) = true)
    (a_Disk_init : PySem.W.findIn K (.ref D_Disk) "__init__" = some (some (.ref f_Disk_init)))
    (g_Disk_init : PySem.W.isFn K (.ref f_Disk_init) = true)
    (l_Disk_init : K.lookup f_Disk_init = some ⟨oc_Disk_init, od_Disk_init, .func (PySem.W.fnOf "__init__" "Disk.__init__" (defArgs s_Disk_init) (defBody s_Disk_init) (defScope s_Disk_init) .none kV_Disk_init dc_Disk_init pm_Disk_init an_Disk_init cd_Disk_init ct_Disk_init), sl_Disk_init⟩)
    (c_Disk_init : PySem.W.codeIn K cd_Disk_init "Disk.__init__" = true)
    (k_Disk_init : PySem.W.keepIn K (.ref f_Disk_init) = true)
    (a_Disk__use_power : PySem.W.findIn K (.ref D_Disk) "_use_power" = some (some (.ref f_Disk__use_power)))
    (g_Disk__use_power : PySem.W.isFn K (.ref f_Disk__use_power) = true)
    (l_Disk__use_power : K.lookup f_Disk__use_power = some ⟨oc_Disk__use_power, od_Disk__use_power, .func (PySem.W.fnOf "_use_power" "Disk._use_power" (defArgs s_Disk__use_power) (defBody s_Disk__use_power) (defScope s_Disk__use_power) .none kV_Disk__use_power dc_Disk__use_power pm_Disk__use_power an_Disk__use_power cd_Disk__use_power ct_Disk__use_power), sl_Disk__use_power⟩)
    (c_Disk__use_power : PySem.W.codeIn K cd_Disk__use_power "Disk._use_power" = true)
    (k_Disk__use_power : PySem.W.keepIn K (.ref f_Disk__use_power) = true)
    (a__is_file_name : PySem.W.nsIn K mainGlobals "_is_file_name" = some (some (.ref f__is_file_name)))
    (l__is_file_name : K.lookup f__is_file_name = some ⟨oc__is_file_name, od__is_file_name, .func (PySem.W.fnOf "_is_file_name" "_is_file_name" (defArgs s__is_file_name) (defBody s__is_file_name) (defScope s__is_file_name) .none kV__is_file_name dc__is_file_name pm__is_file_name an__is_file_name cd__is_file_name ct__is_file_name), sl__is_file_name⟩)
    (c__is_file_name : PySem.W.codeIn K cd__is_file_name "_is_file_name" = true)
    (k__is_file_name : PySem.W.keepIn K (.ref f__is_file_name) = true)
    (a_Disk_write : PySem.W.findIn K (.ref D_Disk) "write" = some (some (.ref f_Disk_write)))
    (g_Disk_write : PySem.W.isFn K (.ref f_Disk_write) = true)
    (l_Disk_write : K.lookup f_Disk_write = some ⟨oc_Disk_write, od_Disk_write, .func (PySem.W.fnOf "write" "Disk.write" (defArgs s_Disk_write) (defBody s_Disk_write) (defScope s_Disk_write) .none kV_Disk_write dc_Disk_write pm_Disk_write an_Disk_write cd_Disk_write ct_Disk_write), sl_Disk_write⟩)
    (c_Disk_write : PySem.W.codeIn K cd_Disk_write "Disk.write" = true)
    (k_Disk_write : PySem.W.keepIn K (.ref f_Disk_write) = true)
    (a_Disk__found : PySem.W.findIn K (.ref D_Disk) "_found" = some (some (.ref f_Disk__found)))
    (g_Disk__found : PySem.W.isFn K (.ref f_Disk__found) = true)
    (l_Disk__found : K.lookup f_Disk__found = some ⟨oc_Disk__found, od_Disk__found, .func (PySem.W.fnOf "_found" "Disk._found" (defArgs s_Disk__found) (defBody s_Disk__found) (defScope s_Disk__found) .none kV_Disk__found dc_Disk__found pm_Disk__found an_Disk__found cd_Disk__found ct_Disk__found), sl_Disk__found⟩)
    (c_Disk__found : PySem.W.codeIn K cd_Disk__found "Disk._found" = true)
    (k_Disk__found : PySem.W.keepIn K (.ref f_Disk__found) = true)
    (a_Disk_read : PySem.W.findIn K (.ref D_Disk) "read" = some (some (.ref f_Disk_read)))
    (g_Disk_read : PySem.W.isFn K (.ref f_Disk_read) = true)
    (l_Disk_read : K.lookup f_Disk_read = some ⟨oc_Disk_read, od_Disk_read, .func (PySem.W.fnOf "read" "Disk.read" (defArgs s_Disk_read) (defBody s_Disk_read) (defScope s_Disk_read) .none kV_Disk_read dc_Disk_read pm_Disk_read an_Disk_read cd_Disk_read ct_Disk_read), sl_Disk_read⟩)
    (c_Disk_read : PySem.W.codeIn K cd_Disk_read "Disk.read" = true)
    (k_Disk_read : PySem.W.keepIn K (.ref f_Disk_read) = true)
    (a_Disk_names : PySem.W.findIn K (.ref D_Disk) "names" = some (some (.ref f_Disk_names)))
    (g_Disk_names : PySem.W.isFn K (.ref f_Disk_names) = true)
    (l_Disk_names : K.lookup f_Disk_names = some ⟨oc_Disk_names, od_Disk_names, .func (PySem.W.fnOf "names" "Disk.names" (defArgs s_Disk_names) (defBody s_Disk_names) (defScope s_Disk_names) .none kV_Disk_names dc_Disk_names pm_Disk_names an_Disk_names cd_Disk_names ct_Disk_names), sl_Disk_names⟩)
    (c_Disk_names : PySem.W.codeIn K cd_Disk_names "Disk.names" = true)
    (k_Disk_names : PySem.W.keepIn K (.ref f_Disk_names) = true)
    (a_Disk_sync : PySem.W.findIn K (.ref D_Disk) "sync" = some (some (.ref f_Disk_sync)))
    (g_Disk_sync : PySem.W.isFn K (.ref f_Disk_sync) = true)
    (l_Disk_sync : K.lookup f_Disk_sync = some ⟨oc_Disk_sync, od_Disk_sync, .func (PySem.W.fnOf "sync" "Disk.sync" (defArgs s_Disk_sync) (defBody s_Disk_sync) (defScope s_Disk_sync) .none kV_Disk_sync dc_Disk_sync pm_Disk_sync an_Disk_sync cd_Disk_sync ct_Disk_sync), sl_Disk_sync⟩)
    (c_Disk_sync : PySem.W.codeIn K cd_Disk_sync "Disk.sync" = true)
    (k_Disk_sync : PySem.W.keepIn K (.ref f_Disk_sync) = true)
    (a_Disk_synced : PySem.W.findIn K (.ref D_Disk) "synced" = some (some (.ref f_Disk_synced)))
    (g_Disk_synced : PySem.W.isFn K (.ref f_Disk_synced) = true)
    (l_Disk_synced : K.lookup f_Disk_synced = some ⟨oc_Disk_synced, od_Disk_synced, .func (PySem.W.fnOf "synced" "Disk.synced" (defArgs s_Disk_synced) (defBody s_Disk_synced) (defScope s_Disk_synced) .none kV_Disk_synced dc_Disk_synced pm_Disk_synced an_Disk_synced cd_Disk_synced ct_Disk_synced), sl_Disk_synced⟩)
    (c_Disk_synced : PySem.W.codeIn K cd_Disk_synced "Disk.synced" = true)
    (k_Disk_synced : PySem.W.keepIn K (.ref f_Disk_synced) = true)
    (a_Disk_fall : PySem.W.findIn K (.ref D_Disk) "fall" = some (some (.ref f_Disk_fall)))
    (g_Disk_fall : PySem.W.isFn K (.ref f_Disk_fall) = true)
    (l_Disk_fall : K.lookup f_Disk_fall = some ⟨oc_Disk_fall, od_Disk_fall, .func (PySem.W.fnOf "fall" "Disk.fall" (defArgs s_Disk_fall) (defBody s_Disk_fall) (defScope s_Disk_fall) .none kV_Disk_fall dc_Disk_fall pm_Disk_fall an_Disk_fall cd_Disk_fall ct_Disk_fall), sl_Disk_fall⟩)
    (c_Disk_fall : PySem.W.codeIn K cd_Disk_fall "Disk.fall" = true)
    (k_Disk_fall : PySem.W.keepIn K (.ref f_Disk_fall) = true)
    (a_Disk_ops : PySem.W.findIn K (.ref D_Disk) "ops" = some (some (.ref f_Disk_ops)))
    (g_Disk_ops : PySem.W.isFn K (.ref f_Disk_ops) = true)
    (l_Disk_ops : K.lookup f_Disk_ops = some ⟨oc_Disk_ops, od_Disk_ops, .func (PySem.W.fnOf "ops" "Disk.ops" (defArgs s_Disk_ops) (defBody s_Disk_ops) (defScope s_Disk_ops) .none kV_Disk_ops dc_Disk_ops pm_Disk_ops an_Disk_ops cd_Disk_ops ct_Disk_ops), sl_Disk_ops⟩)
    (c_Disk_ops : PySem.W.codeIn K cd_Disk_ops "Disk.ops" = true)
    (k_Disk_ops : PySem.W.keepIn K (.ref f_Disk_ops) = true)
    (a__law_cell : PySem.W.nsIn K mainGlobals "_law_cell" = some (some (.ref f__law_cell)))
    (l__law_cell : K.lookup f__law_cell = some ⟨oc__law_cell, od__law_cell, .func (PySem.W.fnOf "_law_cell" "_law_cell" (defArgs s__law_cell) (defBody s__law_cell) (defScope s__law_cell) .none kV__law_cell dc__law_cell pm__law_cell an__law_cell cd__law_cell ct__law_cell), sl__law_cell⟩)
    (c__law_cell : PySem.W.codeIn K cd__law_cell "_law_cell" = true)
    (k__law_cell : PySem.W.keepIn K (.ref f__law_cell) = true)
    (a__law_box : PySem.W.nsIn K mainGlobals "_law_box" = some (some (.ref f__law_box)))
    (l__law_box : K.lookup f__law_box = some ⟨oc__law_box, od__law_box, .func (PySem.W.fnOf "_law_box" "_law_box" (defArgs s__law_box) (defBody s__law_box) (defScope s__law_box) .none kV__law_box dc__law_box pm__law_box an__law_box cd__law_box ct__law_box), sl__law_box⟩)
    (c__law_box : PySem.W.codeIn K cd__law_box "_law_box" = true)
    (k__law_box : PySem.W.keepIn K (.ref f__law_box) = true)
    (a__law_take : PySem.W.nsIn K mainGlobals "_law_take" = some (some (.ref f__law_take)))
    (l__law_take : K.lookup f__law_take = some ⟨oc__law_take, od__law_take, .func (PySem.W.fnOf "_law_take" "_law_take" (defArgs s__law_take) (defBody s__law_take) (defScope s__law_take) .none kV__law_take dc__law_take pm__law_take an__law_take cd__law_take ct__law_take), sl__law_take⟩)
    (c__law_take : PySem.W.codeIn K cd__law_take "_law_take" = true)
    (k__law_take : PySem.W.keepIn K (.ref f__law_take) = true)
    (a__law_pool : PySem.W.nsIn K mainGlobals "_law_pool" = some (some (.ref f__law_pool)))
    (l__law_pool : K.lookup f__law_pool = some ⟨oc__law_pool, od__law_pool, .func (PySem.W.fnOf "_law_pool" "_law_pool" (defArgs s__law_pool) (defBody s__law_pool) (defScope s__law_pool) .none kV__law_pool dc__law_pool pm__law_pool an__law_pool cd__law_pool ct__law_pool), sl__law_pool⟩)
    (c__law_pool : PySem.W.codeIn K cd__law_pool "_law_pool" = true)
    (k__law_pool : PySem.W.keepIn K (.ref f__law_pool) = true)
    (a__law_filled : PySem.W.nsIn K mainGlobals "_law_filled" = some (some (.ref f__law_filled)))
    (l__law_filled : K.lookup f__law_filled = some ⟨oc__law_filled, od__law_filled, .func (PySem.W.fnOf "_law_filled" "_law_filled" (defArgs s__law_filled) (defBody s__law_filled) (defScope s__law_filled) .none kV__law_filled dc__law_filled pm__law_filled an__law_filled cd__law_filled ct__law_filled), sl__law_filled⟩)
    (c__law_filled : PySem.W.codeIn K cd__law_filled "_law_filled" = true)
    (k__law_filled : PySem.W.keepIn K (.ref f__law_filled) = true)
    (a__law_keeps : PySem.W.nsIn K mainGlobals "_law_keeps" = some (some (.ref f__law_keeps)))
    (l__law_keeps : K.lookup f__law_keeps = some ⟨oc__law_keeps, od__law_keeps, .func (PySem.W.fnOf "_law_keeps" "_law_keeps" (defArgs s__law_keeps) (defBody s__law_keeps) (defScope s__law_keeps) .none kV__law_keeps dc__law_keeps pm__law_keeps an__law_keeps cd__law_keeps ct__law_keeps), sl__law_keeps⟩)
    (c__law_keeps : PySem.W.codeIn K cd__law_keeps "_law_keeps" = true)
    (k__law_keeps : PySem.W.keepIn K (.ref f__law_keeps) = true)
    (a__law_no_keeps : PySem.W.nsIn K mainGlobals "_law_no_keeps" = some (some (.ref f__law_no_keeps)))
    (l__law_no_keeps : K.lookup f__law_no_keeps = some ⟨oc__law_no_keeps, od__law_no_keeps, .func (PySem.W.fnOf "_law_no_keeps" "_law_no_keeps" (defArgs s__law_no_keeps) (defBody s__law_no_keeps) (defScope s__law_no_keeps) .none kV__law_no_keeps dc__law_no_keeps pm__law_no_keeps an__law_no_keeps cd__law_no_keeps ct__law_no_keeps), sl__law_no_keeps⟩)
    (c__law_no_keeps : PySem.W.codeIn K cd__law_no_keeps "_law_no_keeps" = true)
    (k__law_no_keeps : PySem.W.keepIn K (.ref f__law_no_keeps) = true)
    (a__law_fallen : PySem.W.nsIn K mainGlobals "_law_fallen" = some (some (.ref f__law_fallen)))
    (l__law_fallen : K.lookup f__law_fallen = some ⟨oc__law_fallen, od__law_fallen, .func (PySem.W.fnOf "_law_fallen" "_law_fallen" (defArgs s__law_fallen) (defBody s__law_fallen) (defScope s__law_fallen) .none kV__law_fallen dc__law_fallen pm__law_fallen an__law_fallen cd__law_fallen ct__law_fallen), sl__law_fallen⟩)
    (c__law_fallen : PySem.W.codeIn K cd__law_fallen "_law_fallen" = true)
    (k__law_fallen : PySem.W.keepIn K (.ref f__law_fallen) = true)
    (a__law_told : PySem.W.nsIn K mainGlobals "_law_told" = some (some (.ref f__law_told)))
    (l__law_told : K.lookup f__law_told = some ⟨oc__law_told, od__law_told, .func (PySem.W.fnOf "_law_told" "_law_told" (defArgs s__law_told) (defBody s__law_told) (defScope s__law_told) .none kV__law_told dc__law_told pm__law_told an__law_told cd__law_told ct__law_told), sl__law_told⟩)
    (c__law_told : PySem.W.codeIn K cd__law_told "_law_told" = true)
    (k__law_told : PySem.W.keepIn K (.ref f__law_told) = true)
    (a__law_refused : PySem.W.nsIn K mainGlobals "_law_refused" = some (some (.ref f__law_refused)))
    (l__law_refused : K.lookup f__law_refused = some ⟨oc__law_refused, od__law_refused, .func (PySem.W.fnOf "_law_refused" "_law_refused" (defArgs s__law_refused) (defBody s__law_refused) (defScope s__law_refused) .none kV__law_refused dc__law_refused pm__law_refused an__law_refused cd__law_refused ct__law_refused), sl__law_refused⟩)
    (c__law_refused : PySem.W.codeIn K cd__law_refused "_law_refused" = true)
    (k__law_refused : PySem.W.keepIn K (.ref f__law_refused) = true)
    (a__law_is_gone : PySem.W.nsIn K mainGlobals "_law_is_gone" = some (some (.ref f__law_is_gone)))
    (l__law_is_gone : K.lookup f__law_is_gone = some ⟨oc__law_is_gone, od__law_is_gone, .func (PySem.W.fnOf "_law_is_gone" "_law_is_gone" (defArgs s__law_is_gone) (defBody s__law_is_gone) (defScope s__law_is_gone) .none kV__law_is_gone dc__law_is_gone pm__law_is_gone an__law_is_gone cd__law_is_gone ct__law_is_gone), sl__law_is_gone⟩)
    (c__law_is_gone : PySem.W.codeIn K cd__law_is_gone "_law_is_gone" = true)
    (k__law_is_gone : PySem.W.keepIn K (.ref f__law_is_gone) = true)
    (a__law_alike : PySem.W.nsIn K mainGlobals "_law_alike" = some (some (.ref f__law_alike)))
    (l__law_alike : K.lookup f__law_alike = some ⟨oc__law_alike, od__law_alike, .func (PySem.W.fnOf "_law_alike" "_law_alike" (defArgs s__law_alike) (defBody s__law_alike) (defScope s__law_alike) .none kV__law_alike dc__law_alike pm__law_alike an__law_alike cd__law_alike ct__law_alike), sl__law_alike⟩)
    (c__law_alike : PySem.W.codeIn K cd__law_alike "_law_alike" = true)
    (k__law_alike : PySem.W.keepIn K (.ref f__law_alike) = true)
    (a__law_fall_right : PySem.W.nsIn K mainGlobals "_law_fall_right" = some (some (.ref f__law_fall_right)))
    (l__law_fall_right : K.lookup f__law_fall_right = some ⟨oc__law_fall_right, od__law_fall_right, .func (PySem.W.fnOf "_law_fall_right" "_law_fall_right" (defArgs s__law_fall_right) (defBody s__law_fall_right) (defScope s__law_fall_right) .none kV__law_fall_right dc__law_fall_right pm__law_fall_right an__law_fall_right cd__law_fall_right ct__law_fall_right), sl__law_fall_right⟩)
    (c__law_fall_right : PySem.W.codeIn K cd__law_fall_right "_law_fall_right" = true)
    (k__law_fall_right : PySem.W.keepIn K (.ref f__law_fall_right) = true)
    (a_law : PySem.W.nsIn K mainGlobals "law" = some (some (.ref f_law)))
    (l_law : K.lookup f_law = some ⟨oc_law, od_law, .func (PySem.W.fnOf "law" "law" (defArgs s_law) (defBody s_law) (defScope s_law) .none kV_law dc_law pm_law an_law cd_law ct_law), sl_law⟩)
    (c_law : PySem.W.codeIn K cd_law "law" = true)
    (k_law : PySem.W.keepIn K (.ref f_law) = true)
    (d1_Disk : PySem.W.plainGet K D_Disk Str.empty = true)
    (d2_Disk : PySem.W.hasDictIn K D_Disk = true)
    (d3_Disk : PySem.W.plainOver K D_Disk = true)
    (d4_Disk : PySem.W.findIn K (.ref D_Disk) "__setattr__" = some (some (.builtin "object.__setattr__")))
    (d5_Disk : PySem.W.makesIn K D_Disk = true)
    (d6_Disk : PySem.W.keepIn K (.ref D_Disk) = true)
    (df_Disk__files : PySem.W.findIn K (.ref D_Disk) "_files" = some none)
    (df_Disk__ops : PySem.W.findIn K (.ref D_Disk) "_ops" = some none)
    (df_Disk__power : PySem.W.findIn K (.ref D_Disk) "_power" = some none)
    (z_abs : PySem.W.nsIn K mainGlobals "abs" = some none)
    (z_all : PySem.W.nsIn K mainGlobals "all" = some none)
    (z_bool : PySem.W.nsIn K mainGlobals "bool" = some none)
    (z_dict : PySem.W.nsIn K mainGlobals "dict" = some none)
    (z_enumerate : PySem.W.nsIn K mainGlobals "enumerate" = some none)
    (z_int : PySem.W.nsIn K mainGlobals "int" = some none)
    (z_isinstance : PySem.W.nsIn K mainGlobals "isinstance" = some none)
    (z_len : PySem.W.nsIn K mainGlobals "len" = some none)
    (z_list : PySem.W.nsIn K mainGlobals "list" = some none)
    (z_max : PySem.W.nsIn K mainGlobals "max" = some none)
    (z_min : PySem.W.nsIn K mainGlobals "min" = some none)
    (z_range : PySem.W.nsIn K mainGlobals "range" = some none)
    (z_repr : PySem.W.nsIn K mainGlobals "repr" = some none)
    (z_sorted : PySem.W.nsIn K mainGlobals "sorted" = some none)
    (z_str : PySem.W.nsIn K mainGlobals "str" = some none)
    (z_sum : PySem.W.nsIn K mainGlobals "sum" = some none)
    (z_tuple : PySem.W.nsIn K mainGlobals "tuple" = some none)
    (v_MOST_OF_NAME : PySem.W.nsIn K mainGlobals "MOST_OF_NAME" = some (some (.int 12 t_MOST_OF_NAME)))
    (v_SIGNS_OF_NAME : PySem.W.nsIn K mainGlobals "SIGNS_OF_NAME" = some (some (.str "abcdefghijklmnopqrstuvwxyz0123456789-" t_SIGNS_OF_NAME)))
    (ec_InvalidName : PySem.W.nsIn K mainGlobals "InvalidName" = some (some (.ref C_InvalidName)))
    (eo_InvalidName : K.lookup C_InvalidName = some (PySem.excClassObj nm_InvalidName q_InvalidName C_InvalidName N_InvalidName bs_InvalidName bm_InvalidName true sn_InvalidName sub_InvalidName ab_InvalidName col_InvalidName dd_InvalidName k0_InvalidName k1_InvalidName k2_InvalidName k3_InvalidName k5_InvalidName "Exception.__new__"))
    (eb_InvalidName : PySem.EX1.ownEx bm_InvalidName = true)
    (es_InvalidName : PySem.W.findIn K (.ref C_InvalidName) "__setattr__" = some (some (.builtin "object.__setattr__")))
    (ex_InvalidName : PySem.W.subIn K (.ref C_InvalidName) (.type "BaseException") = some true)
    (et_InvalidName : PySem.W.typeIn K (.ref C_InvalidName) = some (.type "type"))
    (ek_InvalidName : PySem.W.keepIn K (.ref C_InvalidName) = true)
    (eg_InvalidName : PySem.W.findIn K (.ref C_InvalidName) "__getattribute__" = some (some (.builtin "BaseException.__getattribute__")))
    (eh_InvalidName : PySem.W.findIn K (.ref C_InvalidName) "__getattr__" = some none)
    (ed_InvalidName : PySem.W.hasDictIn K C_InvalidName = true)
    (en_InvalidName : PySem.W.findIn K (.ref C_InvalidName) "given" = some none)
    (em_InvalidName : PySem.W.subIn K (.ref C_InvalidName) (.ref C_InvalidName) = some true)
    (ei_InvalidName : PySem.W.findIn K (.ref C_InvalidName) "__init__" = some (some (.ref fi_InvalidName)))
    (ej_InvalidName : PySem.W.typeIn K (.ref fi_InvalidName) = some (.type "function"))
    (el_InvalidName : K.lookup fi_InvalidName = some ⟨oc_InvalidName, od_InvalidName, .func (PySem.W.fnOf "__init__" "InvalidName.__init__" (defArgs si_InvalidName) (defBody si_InvalidName) (defScope si_InvalidName) .none kV_InvalidName dc_InvalidName pm_InvalidName an_InvalidName cd_InvalidName ct_InvalidName), sl_InvalidName⟩)
    (ef_InvalidName : PySem.W.codeIn K cd_InvalidName "InvalidName.__init__" = true)
    (ekf_InvalidName : PySem.W.keepIn K (.ref fi_InvalidName) = true)
    (ec_InvalidText : PySem.W.nsIn K mainGlobals "InvalidText" = some (some (.ref C_InvalidText)))
    (eo_InvalidText : K.lookup C_InvalidText = some (PySem.excClassObj nm_InvalidText q_InvalidText C_InvalidText N_InvalidText bs_InvalidText bm_InvalidText true sn_InvalidText sub_InvalidText ab_InvalidText col_InvalidText dd_InvalidText k0_InvalidText k1_InvalidText k2_InvalidText k3_InvalidText k5_InvalidText "Exception.__new__"))
    (eb_InvalidText : PySem.EX1.ownEx bm_InvalidText = true)
    (es_InvalidText : PySem.W.findIn K (.ref C_InvalidText) "__setattr__" = some (some (.builtin "object.__setattr__")))
    (ex_InvalidText : PySem.W.subIn K (.ref C_InvalidText) (.type "BaseException") = some true)
    (et_InvalidText : PySem.W.typeIn K (.ref C_InvalidText) = some (.type "type"))
    (ek_InvalidText : PySem.W.keepIn K (.ref C_InvalidText) = true)
    (eg_InvalidText : PySem.W.findIn K (.ref C_InvalidText) "__getattribute__" = some (some (.builtin "BaseException.__getattribute__")))
    (eh_InvalidText : PySem.W.findIn K (.ref C_InvalidText) "__getattr__" = some none)
    (ed_InvalidText : PySem.W.hasDictIn K C_InvalidText = true)
    (en_InvalidText : PySem.W.findIn K (.ref C_InvalidText) "given" = some none)
    (em_InvalidText : PySem.W.subIn K (.ref C_InvalidText) (.ref C_InvalidText) = some true)
    (ei_InvalidText : PySem.W.findIn K (.ref C_InvalidText) "__init__" = some (some (.ref fi_InvalidText)))
    (ej_InvalidText : PySem.W.typeIn K (.ref fi_InvalidText) = some (.type "function"))
    (el_InvalidText : K.lookup fi_InvalidText = some ⟨oc_InvalidText, od_InvalidText, .func (PySem.W.fnOf "__init__" "InvalidText.__init__" (defArgs si_InvalidText) (defBody si_InvalidText) (defScope si_InvalidText) .none kV_InvalidText dc_InvalidText pm_InvalidText an_InvalidText cd_InvalidText ct_InvalidText), sl_InvalidText⟩)
    (ef_InvalidText : PySem.W.codeIn K cd_InvalidText "InvalidText.__init__" = true)
    (ekf_InvalidText : PySem.W.keepIn K (.ref fi_InvalidText) = true)
    (ec_NoFile : PySem.W.nsIn K mainGlobals "NoFile" = some (some (.ref C_NoFile)))
    (eo_NoFile : K.lookup C_NoFile = some (PySem.excClassObj nm_NoFile q_NoFile C_NoFile N_NoFile bs_NoFile bm_NoFile true sn_NoFile sub_NoFile ab_NoFile col_NoFile dd_NoFile k0_NoFile k1_NoFile k2_NoFile k3_NoFile k5_NoFile "Exception.__new__"))
    (eb_NoFile : PySem.EX1.ownEx bm_NoFile = true)
    (es_NoFile : PySem.W.findIn K (.ref C_NoFile) "__setattr__" = some (some (.builtin "object.__setattr__")))
    (ex_NoFile : PySem.W.subIn K (.ref C_NoFile) (.type "BaseException") = some true)
    (et_NoFile : PySem.W.typeIn K (.ref C_NoFile) = some (.type "type"))
    (ek_NoFile : PySem.W.keepIn K (.ref C_NoFile) = true)
    (eg_NoFile : PySem.W.findIn K (.ref C_NoFile) "__getattribute__" = some (some (.builtin "BaseException.__getattribute__")))
    (eh_NoFile : PySem.W.findIn K (.ref C_NoFile) "__getattr__" = some none)
    (ed_NoFile : PySem.W.hasDictIn K C_NoFile = true)
    (en_NoFile : PySem.W.findIn K (.ref C_NoFile) "name" = some none)
    (em_NoFile : PySem.W.subIn K (.ref C_NoFile) (.ref C_NoFile) = some true)
    (ei_NoFile : PySem.W.findIn K (.ref C_NoFile) "__init__" = some (some (.ref fi_NoFile)))
    (ej_NoFile : PySem.W.typeIn K (.ref fi_NoFile) = some (.type "function"))
    (el_NoFile : K.lookup fi_NoFile = some ⟨oc_NoFile, od_NoFile, .func (PySem.W.fnOf "__init__" "NoFile.__init__" (defArgs si_NoFile) (defBody si_NoFile) (defScope si_NoFile) .none kV_NoFile dc_NoFile pm_NoFile an_NoFile cd_NoFile ct_NoFile), sl_NoFile⟩)
    (ef_NoFile : PySem.W.codeIn K cd_NoFile "NoFile.__init__" = true)
    (ekf_NoFile : PySem.W.keepIn K (.ref fi_NoFile) = true)
    (ec_InvalidKeeps : PySem.W.nsIn K mainGlobals "InvalidKeeps" = some (some (.ref C_InvalidKeeps)))
    (eo_InvalidKeeps : K.lookup C_InvalidKeeps = some (PySem.excClassObj nm_InvalidKeeps q_InvalidKeeps C_InvalidKeeps N_InvalidKeeps bs_InvalidKeeps bm_InvalidKeeps true sn_InvalidKeeps sub_InvalidKeeps ab_InvalidKeeps col_InvalidKeeps dd_InvalidKeeps k0_InvalidKeeps k1_InvalidKeeps k2_InvalidKeeps k3_InvalidKeeps k5_InvalidKeeps "Exception.__new__"))
    (eb_InvalidKeeps : PySem.EX1.ownEx bm_InvalidKeeps = true)
    (es_InvalidKeeps : PySem.W.findIn K (.ref C_InvalidKeeps) "__setattr__" = some (some (.builtin "object.__setattr__")))
    (ex_InvalidKeeps : PySem.W.subIn K (.ref C_InvalidKeeps) (.type "BaseException") = some true)
    (et_InvalidKeeps : PySem.W.typeIn K (.ref C_InvalidKeeps) = some (.type "type"))
    (ek_InvalidKeeps : PySem.W.keepIn K (.ref C_InvalidKeeps) = true)
    (eg_InvalidKeeps : PySem.W.findIn K (.ref C_InvalidKeeps) "__getattribute__" = some (some (.builtin "BaseException.__getattribute__")))
    (eh_InvalidKeeps : PySem.W.findIn K (.ref C_InvalidKeeps) "__getattr__" = some none)
    (ed_InvalidKeeps : PySem.W.hasDictIn K C_InvalidKeeps = true)
    (en_InvalidKeeps : PySem.W.findIn K (.ref C_InvalidKeeps) "given" = some none)
    (em_InvalidKeeps : PySem.W.subIn K (.ref C_InvalidKeeps) (.ref C_InvalidKeeps) = some true)
    (ei_InvalidKeeps : PySem.W.findIn K (.ref C_InvalidKeeps) "__init__" = some (some (.ref fi_InvalidKeeps)))
    (ej_InvalidKeeps : PySem.W.typeIn K (.ref fi_InvalidKeeps) = some (.type "function"))
    (el_InvalidKeeps : K.lookup fi_InvalidKeeps = some ⟨oc_InvalidKeeps, od_InvalidKeeps, .func (PySem.W.fnOf "__init__" "InvalidKeeps.__init__" (defArgs si_InvalidKeeps) (defBody si_InvalidKeeps) (defScope si_InvalidKeeps) .none kV_InvalidKeeps dc_InvalidKeeps pm_InvalidKeeps an_InvalidKeeps cd_InvalidKeeps ct_InvalidKeeps), sl_InvalidKeeps⟩)
    (ef_InvalidKeeps : PySem.W.codeIn K cd_InvalidKeeps "InvalidKeeps.__init__" = true)
    (ekf_InvalidKeeps : PySem.W.keepIn K (.ref fi_InvalidKeeps) = true)
    : ∃ fd : FuncData, (∀ (s : Shared) (v : Value), BindsTo s fd ⟨[v], []⟩ [("_law_script", v)]) ∧ ∀ base : Heap, K.In base → base.Ns mainGlobals mg → (∃ mm, base.Ns sysModules mm) → FnG P w K mg base 8 fa fd ["_law_script"] (spM K mg 1 m_law) := by
  have e := hfa.symm.trans (PySem.W.mg_of X G a_law)
  cases e
  have T : Txt w K mg := ⟨PySem.W.mg_none_of X G z_abs,
    PySem.W.mg_none_of X G z_all,
    PySem.W.mg_none_of X G z_bool,
    PySem.W.mg_none_of X G z_dict,
    PySem.W.mg_none_of X G z_enumerate,
    PySem.W.mg_none_of X G z_int,
    PySem.W.mg_none_of X G z_isinstance,
    PySem.W.mg_none_of X G z_len,
    PySem.W.mg_none_of X G z_list,
    PySem.W.mg_none_of X G z_max,
    PySem.W.mg_none_of X G z_min,
    PySem.W.mg_none_of X G z_range,
    PySem.W.mg_none_of X G z_repr,
    PySem.W.mg_none_of X G z_sorted,
    PySem.W.mg_none_of X G z_str,
    PySem.W.mg_none_of X G z_sum,
    PySem.W.mg_none_of X G z_tuple,
    ⟨_, PySem.W.mg_of X G v_MOST_OF_NAME⟩,
    ⟨_, PySem.W.mg_of X G v_SIGNS_OF_NAME⟩,
    ⟨_, PySem.W.mg_of X G ec_InvalidName, ⟨eg_InvalidName, eh_InvalidName, ex_InvalidName, ed_InvalidName⟩, en_InvalidName, PySem.W.exm_ref ex_InvalidName ed_InvalidName et_InvalidName em_InvalidName⟩,
    ⟨_, PySem.W.mg_of X G ec_InvalidText, ⟨eg_InvalidText, eh_InvalidText, ex_InvalidText, ed_InvalidText⟩, en_InvalidText, PySem.W.exm_ref ex_InvalidText ed_InvalidText et_InvalidText em_InvalidText⟩,
    ⟨_, PySem.W.mg_of X G ec_NoFile, ⟨eg_NoFile, eh_NoFile, ex_NoFile, ed_NoFile⟩, en_NoFile, PySem.W.exm_ref ex_NoFile ed_NoFile et_NoFile em_NoFile⟩,
    ⟨_, PySem.W.mg_of X G ec_InvalidKeeps, ⟨eg_InvalidKeeps, eh_InvalidKeeps, ex_InvalidKeeps, ed_InvalidKeeps⟩, en_InvalidKeeps, PySem.W.exm_ref ex_InvalidKeeps ed_InvalidKeeps et_InvalidKeeps em_InvalidKeeps⟩,
    ⟨fun C e => by cases e.symm.trans (PySem.W.mg_of X G da_Disk); exact ⟨⟨d1_Disk, d2_Disk, d3_Disk, d4_Disk⟩, df_Disk__files⟩⟩,
    ⟨fun C e => by cases e.symm.trans (PySem.W.mg_of X G da_Disk); exact ⟨⟨d1_Disk, d2_Disk, d3_Disk, d4_Disk⟩, df_Disk__ops⟩⟩,
    ⟨fun C e => by cases e.symm.trans (PySem.W.mg_of X G da_Disk); exact ⟨⟨d1_Disk, d2_Disk, d3_Disk, d4_Disk⟩, df_Disk__power⟩⟩⟩
  have FI_InvalidName := fun_mk (st := si_InvalidName) el_InvalidName ef_InvalidName ekf_InvalidName
  have bI_InvalidName := FI_InvalidName.binds (ps := ["self", "given"]) fun _ _ _ _ _ _ us hl => match us, hl with | [_, _], _ => rfl
  have FI_InvalidText := fun_mk (st := si_InvalidText) el_InvalidText ef_InvalidText ekf_InvalidText
  have bI_InvalidText := FI_InvalidText.binds (ps := ["self", "given"]) fun _ _ _ _ _ _ us hl => match us, hl with | [_, _], _ => rfl
  have FI_NoFile := fun_mk (st := si_NoFile) el_NoFile ef_NoFile ekf_NoFile
  have bI_NoFile := FI_NoFile.binds (ps := ["self", "name"]) fun _ _ _ _ _ _ us hl => match us, hl with | [_, _], _ => rfl
  have FI_InvalidKeeps := fun_mk (st := si_InvalidKeeps) el_InvalidKeeps ef_InvalidKeeps ekf_InvalidKeeps
  have bI_InvalidKeeps := FI_InvalidKeeps.binds (ps := ["self", "given"]) fun _ _ _ _ _ _ us hl => match us, hl with | [_, _], _ => rfl
  have F_is_integer := fun_mk (st := s_is_integer) l_is_integer c_is_integer k_is_integer
  have b_is_integer := F_is_integer.binds (ps := ["value"]) fun _ _ _ _ _ _ us hl => match us, hl with | [_], _ => rfl
  have F_is_count := fun_mk (st := s_is_count) l_is_count c_is_count k_is_count
  have b_is_count := F_is_count.binds (ps := ["value"]) fun _ _ _ _ _ _ us hl => match us, hl with | [_], _ => rfl
  have F_is_list_of := fun_mk (st := s_is_list_of) l_is_list_of c_is_list_of k_is_list_of
  have b_is_list_of := F_is_list_of.binds (ps := ["value", "judge"]) fun _ _ _ _ _ _ us hl => match us, hl with | [_, _], _ => rfl
  have F_is_signs := fun_mk (st := s_is_signs) l_is_signs c_is_signs k_is_signs
  have b_is_signs := F_is_signs.binds (ps := ["value"]) fun _ _ _ _ _ _ us hl => match us, hl with | [_], _ => rfl
  have F_Disk_init := fun_mk (st := s_Disk_init) l_Disk_init c_Disk_init k_Disk_init
  have b_Disk_init := F_Disk_init.binds (ps := ["self"]) fun _ _ _ _ _ _ us hl => match us, hl with | [_], _ => rfl
  have F_Disk__use_power := fun_mk (st := s_Disk__use_power) l_Disk__use_power c_Disk__use_power k_Disk__use_power
  have b_Disk__use_power := F_Disk__use_power.binds (ps := ["self"]) fun _ _ _ _ _ _ us hl => match us, hl with | [_], _ => rfl
  have F__is_file_name := fun_mk (st := s__is_file_name) l__is_file_name c__is_file_name k__is_file_name
  have b__is_file_name := F__is_file_name.binds (ps := ["value"]) fun _ _ _ _ _ _ us hl => match us, hl with | [_], _ => rfl
  have F_Disk_write := fun_mk (st := s_Disk_write) l_Disk_write c_Disk_write k_Disk_write
  have b_Disk_write := F_Disk_write.binds (ps := ["self", "name", "text"]) fun _ _ _ _ _ _ us hl => match us, hl with | [_, _, _], _ => rfl
  have F_Disk__found := fun_mk (st := s_Disk__found) l_Disk__found c_Disk__found k_Disk__found
  have b_Disk__found := F_Disk__found.binds (ps := ["self", "name"]) fun _ _ _ _ _ _ us hl => match us, hl with | [_, _], _ => rfl
  have F_Disk_read := fun_mk (st := s_Disk_read) l_Disk_read c_Disk_read k_Disk_read
  have b_Disk_read := F_Disk_read.binds (ps := ["self", "name"]) fun _ _ _ _ _ _ us hl => match us, hl with | [_, _], _ => rfl
  have F_Disk_names := fun_mk (st := s_Disk_names) l_Disk_names c_Disk_names k_Disk_names
  have b_Disk_names := F_Disk_names.binds (ps := ["self"]) fun _ _ _ _ _ _ us hl => match us, hl with | [_], _ => rfl
  have F_Disk_sync := fun_mk (st := s_Disk_sync) l_Disk_sync c_Disk_sync k_Disk_sync
  have b_Disk_sync := F_Disk_sync.binds (ps := ["self", "name"]) fun _ _ _ _ _ _ us hl => match us, hl with | [_, _], _ => rfl
  have F_Disk_synced := fun_mk (st := s_Disk_synced) l_Disk_synced c_Disk_synced k_Disk_synced
  have b_Disk_synced := F_Disk_synced.binds (ps := ["self", "name"]) fun _ _ _ _ _ _ us hl => match us, hl with | [_, _], _ => rfl
  have F_Disk_fall := fun_mk (st := s_Disk_fall) l_Disk_fall c_Disk_fall k_Disk_fall
  have b_Disk_fall := F_Disk_fall.binds (ps := ["self", "keeps"]) fun _ _ _ _ _ _ us hl => match us, hl with | [_, _], _ => rfl
  have F_Disk_ops := fun_mk (st := s_Disk_ops) l_Disk_ops c_Disk_ops k_Disk_ops
  have b_Disk_ops := F_Disk_ops.binds (ps := ["self"]) fun _ _ _ _ _ _ us hl => match us, hl with | [_], _ => rfl
  have F__law_cell := fun_mk (st := s__law_cell) l__law_cell c__law_cell k__law_cell
  have b__law_cell := F__law_cell.binds (ps := ["_law_script", "_law_k"]) fun _ _ _ _ _ _ us hl => match us, hl with | [_, _], _ => rfl
  have F__law_box := fun_mk (st := s__law_box) l__law_box c__law_box k__law_box
  have b__law_box := F__law_box.binds (ps := ["_law_great"]) fun _ _ _ _ _ _ us hl => match us, hl with | [_], _ => rfl
  have F__law_take := fun_mk (st := s__law_take) l__law_take c__law_take k__law_take
  have b__law_take := F__law_take.binds (ps := ["_law_box_here", "_law_many"]) fun _ _ _ _ _ _ us hl => match us, hl with | [_, _], _ => rfl
  have F__law_pool := fun_mk (st := s__law_pool) l__law_pool c__law_pool k__law_pool
  have b__law_pool := F__law_pool.binds (ps := []) fun _ _ _ _ _ _ us hl => match us, hl with | [], _ => rfl
  have F__law_filled := fun_mk (st := s__law_filled) l__law_filled c__law_filled k__law_filled
  have b__law_filled := F__law_filled.binds (ps := ["_law_box_here", "_law_disk", "_law_files", "_law_counts"]) fun _ _ _ _ _ _ us hl => match us, hl with | [_, _, _, _], _ => rfl
  have F__law_keeps := fun_mk (st := s__law_keeps) l__law_keeps c__law_keeps k__law_keeps
  have b__law_keeps := F__law_keeps.binds (ps := ["_law_box_here"]) fun _ _ _ _ _ _ us hl => match us, hl with | [_], _ => rfl
  have F__law_no_keeps := fun_mk (st := s__law_no_keeps) l__law_no_keeps c__law_no_keeps k__law_no_keeps
  have b__law_no_keeps := F__law_no_keeps.binds (ps := ["_law_box_here"]) fun _ _ _ _ _ _ us hl => match us, hl with | [_], _ => rfl
  have F__law_fallen := fun_mk (st := s__law_fallen) l__law_fallen c__law_fallen k__law_fallen
  have b__law_fallen := F__law_fallen.binds (ps := ["_law_files", "_law_keeps_here"]) fun _ _ _ _ _ _ us hl => match us, hl with | [_, _], _ => rfl
  have F__law_told := fun_mk (st := s__law_told) l__law_told c__law_told k__law_told
  have b__law_told := F__law_told.binds (ps := ["_law_disk", "_law_way", "_law_keeps_here"]) fun _ _ _ _ _ _ us hl => match us, hl with | [_, _, _], _ => rfl
  have F__law_refused := fun_mk (st := s__law_refused) l__law_refused c__law_refused k__law_refused
  have b__law_refused := F__law_refused.binds (ps := ["_law_disk", "_law_way", "_law_keeps_here"]) fun _ _ _ _ _ _ us hl => match us, hl with | [_, _, _], _ => rfl
  have F__law_is_gone := fun_mk (st := s__law_is_gone) l__law_is_gone c__law_is_gone k__law_is_gone
  have b__law_is_gone := F__law_is_gone.binds (ps := ["_law_disk", "_law_name"]) fun _ _ _ _ _ _ us hl => match us, hl with | [_, _], _ => rfl
  have F__law_alike := fun_mk (st := s__law_alike) l__law_alike c__law_alike k__law_alike
  have b__law_alike := F__law_alike.binds (ps := ["_law_disk", "_law_files", "_law_counts"]) fun _ _ _ _ _ _ us hl => match us, hl with | [_, _, _], _ => rfl
  have F__law_fall_right := fun_mk (st := s__law_fall_right) l__law_fall_right c__law_fall_right k__law_fall_right
  have b__law_fall_right := F__law_fall_right.binds (ps := ["_law_box_here", "_law_disk", "_law_files", "_law_counts", "_law_keeps_here"]) fun _ _ _ _ _ _ us hl => match us, hl with | [_, _, _, _, _], _ => rfl
  have F_law := fun_mk (st := s_law) l_law c_law k_law
  refine ⟨PySem.W.fnOf "law" "law" (defArgs s_law) (defBody s_law) (defScope s_law) .none kV_law dc_law pm_law an_law cd_law ct_law, fun s v => .of_eq rfl, fun base _ _ hsys => ?_⟩
  have E_InvalidName : Er1 P w K mg base "InvalidName" "given" := ⟨_, _, _, PySem.W.mg_of X G ec_InvalidName, ⟨⟨_, _, _, _, _, _, _, _, _, _, _, _, _, _, _, eo_InvalidName, eb_InvalidName⟩, es_InvalidName, ex_InvalidName, et_InvalidName, ek_InvalidName⟩, ei_InvalidName, ej_InvalidName, init_ok FI_InvalidName sci_InvalidName rfl ⟨⟨_, _, _, _, _, _, _, _, _, _, _, _, _, _, _, eo_InvalidName, eb_InvalidName⟩, es_InvalidName, ex_InvalidName, et_InvalidName, ek_InvalidName⟩ en_InvalidName (by decide) (by decide) (Or.inl rfl) (Or.inl rfl), bI_InvalidName⟩
  have E_InvalidText : Er1 P w K mg base "InvalidText" "given" := ⟨_, _, _, PySem.W.mg_of X G ec_InvalidText, ⟨⟨_, _, _, _, _, _, _, _, _, _, _, _, _, _, _, eo_InvalidText, eb_InvalidText⟩, es_InvalidText, ex_InvalidText, et_InvalidText, ek_InvalidText⟩, ei_InvalidText, ej_InvalidText, init_ok FI_InvalidText sci_InvalidText rfl ⟨⟨_, _, _, _, _, _, _, _, _, _, _, _, _, _, _, eo_InvalidText, eb_InvalidText⟩, es_InvalidText, ex_InvalidText, et_InvalidText, ek_InvalidText⟩ en_InvalidText (by decide) (by decide) (Or.inl rfl) (Or.inl rfl), bI_InvalidText⟩
  have E_NoFile : Er1 P w K mg base "NoFile" "name" := ⟨_, _, _, PySem.W.mg_of X G ec_NoFile, ⟨⟨_, _, _, _, _, _, _, _, _, _, _, _, _, _, _, eo_NoFile, eb_NoFile⟩, es_NoFile, ex_NoFile, et_NoFile, ek_NoFile⟩, ei_NoFile, ej_NoFile, init_ok FI_NoFile sci_NoFile rfl ⟨⟨_, _, _, _, _, _, _, _, _, _, _, _, _, _, _, eo_NoFile, eb_NoFile⟩, es_NoFile, ex_NoFile, et_NoFile, ek_NoFile⟩ en_NoFile (by decide) (by decide) (Or.inl rfl) (Or.inl rfl), bI_NoFile⟩
  have E_InvalidKeeps : Er1 P w K mg base "InvalidKeeps" "given" := ⟨_, _, _, PySem.W.mg_of X G ec_InvalidKeeps, ⟨⟨_, _, _, _, _, _, _, _, _, _, _, _, _, _, _, eo_InvalidKeeps, eb_InvalidKeeps⟩, es_InvalidKeeps, ex_InvalidKeeps, et_InvalidKeeps, ek_InvalidKeeps⟩, ei_InvalidKeeps, ej_InvalidKeeps, init_ok FI_InvalidKeeps sci_InvalidKeeps rfl ⟨⟨_, _, _, _, _, _, _, _, _, _, _, _, _, _, _, eo_InvalidKeeps, eb_InvalidKeeps⟩, es_InvalidKeeps, ex_InvalidKeeps, et_InvalidKeeps, ek_InvalidKeeps⟩ en_InvalidKeeps (by decide) (by decide) (Or.inl rfl) (Or.inl rfl), bI_InvalidKeeps⟩
  have G_is_integer := ok_is_integer (P := P) (w := w) (base := base) T F_is_integer
  have C_is_integer := cal_mk F_is_integer (PySem.W.mg_of X G a_is_integer) b_is_integer (np := 1) rfl G_is_integer
  have G_is_count := ok_is_count (P := P) (w := w) (base := base) T F_is_count C_is_integer
  have C_is_count := cal_mk F_is_count (PySem.W.mg_of X G a_is_count) b_is_count (np := 1) rfl G_is_count
  have C_tblJ : ∀ z F, tblJ z = some F → Cal P w K mg base 2 z 1 F := tblJ_all  (Q := fun z F => Cal P w K mg base 2 z 1 F) (C_is_count.mono (by decide))
  have G_is_list_of := ok_is_list_of (P := P) (w := w) (base := base) T F_is_list_of C_tblJ
  have C_is_list_of := cal_mk F_is_list_of (PySem.W.mg_of X G a_is_list_of) b_is_list_of (np := 2) rfl G_is_list_of
  have G_is_signs := ok_is_signs (P := P) (w := w) (base := base) T F_is_signs
  have C_is_signs := cal_mk F_is_signs (PySem.W.mg_of X G a_is_signs) b_is_signs (np := 1) rfl G_is_signs
  have G_Disk_init := ok_Disk_init (P := P) (w := w) (base := base) T F_Disk_init
  have N_Disk : MakM P w K mg base 1 "Disk" 1 m_Disk_init := ⟨_, _, _, _, PySem.W.mg_of X G da_Disk, ⟨d5_Disk, a_Disk_init, g_Disk_init, d6_Disk⟩, b_Disk_init, G_Disk_init, rfl⟩
  have G_Disk__use_power := ok_Disk__use_power (P := P) (w := w) (base := base) T F_Disk__use_power
  have C_Disk__use_power : CalG P w K mg base 1 "Disk" "_use_power" 1 m_Disk__use_power := ⟨_, _, _, _, PySem.W.mg_of X G da_Disk, ⟨d1_Disk, d2_Disk, d3_Disk, d4_Disk⟩, ⟨a_Disk__use_power, g_Disk__use_power, k_Disk__use_power⟩, b_Disk__use_power, G_Disk__use_power, rfl⟩
  have G__is_file_name := ok__is_file_name (P := P) (w := w) (base := base) T F__is_file_name
  have C__is_file_name := cal_mk F__is_file_name (PySem.W.mg_of X G a__is_file_name) b__is_file_name (np := 1) rfl G__is_file_name
  have G_Disk_write := ok_Disk_write (P := P) (w := w) (base := base) T F_Disk_write C__is_file_name C_is_signs C_Disk__use_power E_InvalidName E_InvalidText
  have X_Disk_write : CalM P w K mg base 3 "Disk" "write" 3 m_Disk_write := ⟨_, _, _, _, PySem.W.mg_of X G da_Disk, ⟨d1_Disk, d2_Disk, d3_Disk, d4_Disk⟩, ⟨a_Disk_write, g_Disk_write, k_Disk_write⟩, b_Disk_write, G_Disk_write, rfl⟩
  have G_Disk__found := ok_Disk__found (P := P) (w := w) (base := base) T F_Disk__found C__is_file_name E_InvalidName E_NoFile
  have X_Disk__found : CalM P w K mg base 3 "Disk" "_found" 2 m_Disk__found := ⟨_, _, _, _, PySem.W.mg_of X G da_Disk, ⟨d1_Disk, d2_Disk, d3_Disk, d4_Disk⟩, ⟨a_Disk__found, g_Disk__found, k_Disk__found⟩, b_Disk__found, G_Disk__found, rfl⟩
  have G_Disk_read := ok_Disk_read (P := P) (w := w) (base := base) T F_Disk_read X_Disk__found
  have X_Disk_read : CalM P w K mg base 4 "Disk" "read" 2 m_Disk_read := ⟨_, _, _, _, PySem.W.mg_of X G da_Disk, ⟨d1_Disk, d2_Disk, d3_Disk, d4_Disk⟩, ⟨a_Disk_read, g_Disk_read, k_Disk_read⟩, b_Disk_read, G_Disk_read, rfl⟩
  have G_Disk_names := ok_Disk_names (P := P) (w := w) (base := base) T F_Disk_names
  have C_Disk_names : CalG P w K mg base 1 "Disk" "names" 1 m_Disk_names := ⟨_, _, _, _, PySem.W.mg_of X G da_Disk, ⟨d1_Disk, d2_Disk, d3_Disk, d4_Disk⟩, ⟨a_Disk_names, g_Disk_names, k_Disk_names⟩, b_Disk_names, G_Disk_names, rfl⟩
  have G_Disk_sync := ok_Disk_sync (P := P) (w := w) (base := base) T F_Disk_sync C_Disk__use_power X_Disk__found
  have X_Disk_sync : CalM P w K mg base 4 "Disk" "sync" 2 m_Disk_sync := ⟨_, _, _, _, PySem.W.mg_of X G da_Disk, ⟨d1_Disk, d2_Disk, d3_Disk, d4_Disk⟩, ⟨a_Disk_sync, g_Disk_sync, k_Disk_sync⟩, b_Disk_sync, G_Disk_sync, rfl⟩
  have G_Disk_synced := ok_Disk_synced (P := P) (w := w) (base := base) T F_Disk_synced X_Disk__found
  have X_Disk_synced : CalM P w K mg base 4 "Disk" "synced" 2 m_Disk_synced := ⟨_, _, _, _, PySem.W.mg_of X G da_Disk, ⟨d1_Disk, d2_Disk, d3_Disk, d4_Disk⟩, ⟨a_Disk_synced, g_Disk_synced, k_Disk_synced⟩, b_Disk_synced, G_Disk_synced, rfl⟩
  have G_Disk_fall := ok_Disk_fall (P := P) (w := w) (base := base) T F_Disk_fall C_is_list_of C_is_count C_Disk_names E_InvalidKeeps
  have X_Disk_fall : CalM P w K mg base 4 "Disk" "fall" 2 m_Disk_fall := ⟨_, _, _, _, PySem.W.mg_of X G da_Disk, ⟨d1_Disk, d2_Disk, d3_Disk, d4_Disk⟩, ⟨a_Disk_fall, g_Disk_fall, k_Disk_fall⟩, b_Disk_fall, G_Disk_fall, rfl⟩
  have X_Disk_fall_k : CalMK P w K mg base 4 "Disk" "fall" "keeps" m_Disk_fall := ⟨_, _, _, PySem.W.mg_of X G da_Disk, ⟨d1_Disk, d2_Disk, d3_Disk, d4_Disk⟩, ⟨a_Disk_fall, g_Disk_fall, k_Disk_fall⟩, (fun s u v => .of_eq rfl), G_Disk_fall⟩
  have G_Disk_ops := ok_Disk_ops (P := P) (w := w) (base := base) T F_Disk_ops
  have C_Disk_ops : CalG P w K mg base 1 "Disk" "ops" 1 m_Disk_ops := ⟨_, _, _, _, PySem.W.mg_of X G da_Disk, ⟨d1_Disk, d2_Disk, d3_Disk, d4_Disk⟩, ⟨a_Disk_ops, g_Disk_ops, k_Disk_ops⟩, b_Disk_ops, G_Disk_ops, rfl⟩
  have G__law_cell := ok__law_cell (P := P) (w := w) (base := base) T F__law_cell
  have C__law_cell := cal_mk F__law_cell (PySem.W.mg_of X G a__law_cell) b__law_cell (np := 2) rfl G__law_cell
  have G__law_box := ok__law_box (P := P) (w := w) (base := base) T F__law_box
  have C__law_box := cal_mk F__law_box (PySem.W.mg_of X G a__law_box) b__law_box (np := 1) rfl G__law_box
  have G__law_take := ok__law_take (P := P) (w := w) (base := base) T F__law_take
  have C__law_take := cal_mk F__law_take (PySem.W.mg_of X G a__law_take) b__law_take (np := 2) rfl G__law_take
  have G__law_pool := ok__law_pool (P := P) (w := w) (base := base) T F__law_pool
  have C__law_pool := cal_mk F__law_pool (PySem.W.mg_of X G a__law_pool) b__law_pool (np := 0) rfl G__law_pool
  have G__law_filled := ok__law_filled (P := P) (w := w) (base := base) T F__law_filled C__law_pool C__law_take X_Disk_sync X_Disk_write
  have C__law_filled := cal_mk F__law_filled (PySem.W.mg_of X G a__law_filled) b__law_filled (np := 4) rfl G__law_filled
  have G__law_keeps := ok__law_keeps (P := P) (w := w) (base := base) T F__law_keeps C__law_take
  have C__law_keeps := cal_mk F__law_keeps (PySem.W.mg_of X G a__law_keeps) b__law_keeps (np := 1) rfl G__law_keeps
  have G__law_no_keeps := ok__law_no_keeps (P := P) (w := w) (base := base) T F__law_no_keeps C__law_take C__law_keeps
  have C__law_no_keeps := cal_mk F__law_no_keeps (PySem.W.mg_of X G a__law_no_keeps) b__law_no_keeps (np := 1) rfl G__law_no_keeps
  have G__law_fallen := ok__law_fallen (P := P) (w := w) (base := base) T F__law_fallen
  have C__law_fallen := cal_mk F__law_fallen (PySem.W.mg_of X G a__law_fallen) b__law_fallen (np := 2) rfl G__law_fallen
  have G__law_told := ok__law_told (P := P) (w := w) (base := base) T F__law_told X_Disk_fall X_Disk_fall_k
  have C__law_told := cal_mk F__law_told (PySem.W.mg_of X G a__law_told) b__law_told (np := 3) rfl G__law_told
  have G__law_refused := ok__law_refused (P := P) (w := w) (base := base) T F__law_refused hsys C__law_told
  have C__law_refused := cal_mk F__law_refused (PySem.W.mg_of X G a__law_refused) b__law_refused (np := 3) rfl G__law_refused
  have G__law_is_gone := ok__law_is_gone (P := P) (w := w) (base := base) T F__law_is_gone X_Disk_read
  have C__law_is_gone := cal_mk F__law_is_gone (PySem.W.mg_of X G a__law_is_gone) b__law_is_gone (np := 2) rfl G__law_is_gone
  have G__law_alike := ok__law_alike (P := P) (w := w) (base := base) T F__law_alike hsys C_Disk_ops C_Disk_names C__law_pool C__law_is_gone X_Disk_synced X_Disk_read
  have C__law_alike := cal_mk F__law_alike (PySem.W.mg_of X G a__law_alike) b__law_alike (np := 3) rfl G__law_alike
  have G__law_fall_right := ok__law_fall_right (P := P) (w := w) (base := base) T F__law_fall_right C__law_take C__law_fallen C__law_told C__law_alike C_Disk_names X_Disk_read X_Disk_synced
  have C__law_fall_right := cal_mk F__law_fall_right (PySem.W.mg_of X G a__law_fall_right) b__law_fall_right (np := 5) rfl G__law_fall_right
  exact ok_law (P := P) (w := w) (base := base) T F_law N_Disk C__law_box C__law_cell C__law_filled C__law_refused C__law_no_keeps C__law_take C__law_alike C__law_fall_right C__law_keeps
end K07
open PySem PySem.W PyProof.Rows in
set_option maxRecDepth 100000 in
set_option maxHeartbeats 0 in
theorem PySem.Challenge.cw_inorderonce_k07_falls_keep_beginnings_holds : PySem.Challenge.rw_inorderonce_k07_falls_keep_beginnings.Holds := by
  w_on; o_law; k_head; (case hw => w_witness2)
  k_fill
  refine M.walk_end (l := PySem.Challenge.rw_inorderonce_k07_falls_keep_beginnings) (F := K07.m_law) (k := 8) (x := "_law_script") rfl (by decide +kernel) rfl ⟨rfl, by decide, by decide⟩ (fun w h Y => PySem.W.kIn_of Y) K07.math ?Z
  case Z =>
    intro w mg fa h KX G hmg
    refine' K07.all_mk KX G hmg ?da_Disk ?a_is_integer ?l_is_integer ?c_is_integer ?k_is_integer ?a_is_count ?l_is_count ?c_is_count ?k_is_count ?a_is_list_of ?l_is_list_of ?c_is_list_of ?k_is_list_of ?a_is_signs ?l_is_signs ?c_is_signs ?k_is_signs ?a_Disk_init ?g_Disk_init ?l_Disk_init ?c_Disk_init ?k_Disk_init ?a_Disk__use_power ?g_Disk__use_power ?l_Disk__use_power ?c_Disk__use_power ?k_Disk__use_power ?a__is_file_name ?l__is_file_name ?c__is_file_name ?k__is_file_name ?a_Disk_write ?g_Disk_write ?l_Disk_write ?c_Disk_write ?k_Disk_write ?a_Disk__found ?g_Disk__found ?l_Disk__found ?c_Disk__found ?k_Disk__found ?a_Disk_read ?g_Disk_read ?l_Disk_read ?c_Disk_read ?k_Disk_read ?a_Disk_names ?g_Disk_names ?l_Disk_names ?c_Disk_names ?k_Disk_names ?a_Disk_sync ?g_Disk_sync ?l_Disk_sync ?c_Disk_sync ?k_Disk_sync ?a_Disk_synced ?g_Disk_synced ?l_Disk_synced ?c_Disk_synced ?k_Disk_synced ?a_Disk_fall ?g_Disk_fall ?l_Disk_fall ?c_Disk_fall ?k_Disk_fall ?a_Disk_ops ?g_Disk_ops ?l_Disk_ops ?c_Disk_ops ?k_Disk_ops ?a__law_cell ?l__law_cell ?c__law_cell ?k__law_cell ?a__law_box ?l__law_box ?c__law_box ?k__law_box ?a__law_take ?l__law_take ?c__law_take ?k__law_take ?a__law_pool ?l__law_pool ?c__law_pool ?k__law_pool ?a__law_filled ?l__law_filled ?c__law_filled ?k__law_filled ?a__law_keeps ?l__law_keeps ?c__law_keeps ?k__law_keeps ?a__law_no_keeps ?l__law_no_keeps ?c__law_no_keeps ?k__law_no_keeps ?a__law_fallen ?l__law_fallen ?c__law_fallen ?k__law_fallen ?a__law_told ?l__law_told ?c__law_told ?k__law_told ?a__law_refused ?l__law_refused ?c__law_refused ?k__law_refused ?a__law_is_gone ?l__law_is_gone ?c__law_is_gone ?k__law_is_gone ?a__law_alike ?l__law_alike ?c__law_alike ?k__law_alike ?a__law_fall_right ?l__law_fall_right ?c__law_fall_right ?k__law_fall_right ?a_law ?l_law ?c_law ?k_law ?d1_Disk ?d2_Disk ?d3_Disk ?d4_Disk ?d5_Disk ?d6_Disk ?df_Disk__files ?df_Disk__ops ?df_Disk__power ?z_abs ?z_all ?z_bool ?z_dict ?z_enumerate ?z_int ?z_isinstance ?z_len ?z_list ?z_max ?z_min ?z_range ?z_repr ?z_sorted ?z_str ?z_sum ?z_tuple ?v_MOST_OF_NAME ?v_SIGNS_OF_NAME ?ec_InvalidName ?eo_InvalidName ?eb_InvalidName ?es_InvalidName ?ex_InvalidName ?et_InvalidName ?ek_InvalidName ?eg_InvalidName ?eh_InvalidName ?ed_InvalidName ?en_InvalidName ?em_InvalidName ?ei_InvalidName ?ej_InvalidName ?el_InvalidName ?ef_InvalidName ?ekf_InvalidName ?ec_InvalidText ?eo_InvalidText ?eb_InvalidText ?es_InvalidText ?ex_InvalidText ?et_InvalidText ?ek_InvalidText ?eg_InvalidText ?eh_InvalidText ?ed_InvalidText ?en_InvalidText ?em_InvalidText ?ei_InvalidText ?ej_InvalidText ?el_InvalidText ?ef_InvalidText ?ekf_InvalidText ?ec_NoFile ?eo_NoFile ?eb_NoFile ?es_NoFile ?ex_NoFile ?et_NoFile ?ek_NoFile ?eg_NoFile ?eh_NoFile ?ed_NoFile ?en_NoFile ?em_NoFile ?ei_NoFile ?ej_NoFile ?el_NoFile ?ef_NoFile ?ekf_NoFile ?ec_InvalidKeeps ?eo_InvalidKeeps ?eb_InvalidKeeps ?es_InvalidKeeps ?ex_InvalidKeeps ?et_InvalidKeeps ?ek_InvalidKeeps ?eg_InvalidKeeps ?eh_InvalidKeeps ?ed_InvalidKeeps ?en_InvalidKeeps ?em_InvalidKeeps ?ei_InvalidKeeps ?ej_InvalidKeeps ?el_InvalidKeeps ?ef_InvalidKeeps ?ekf_InvalidKeeps
    (case da_Disk => k_is)
    (case a_is_integer => k_is)
    (case l_is_integer => k_is)
    (case c_is_integer => k_is)
    (case k_is_integer => k_is)
    (case a_is_count => k_is)
    (case l_is_count => k_is)
    (case c_is_count => k_is)
    (case k_is_count => k_is)
    (case a_is_list_of => k_is)
    (case l_is_list_of => k_is)
    (case c_is_list_of => k_is)
    (case k_is_list_of => k_is)
    (case a_is_signs => k_is)
    (case l_is_signs => k_is)
    (case c_is_signs => k_is)
    (case k_is_signs => k_is)
    (case a_Disk_init => k_is)
    (case g_Disk_init => k_is)
    (case l_Disk_init => k_is)
    (case c_Disk_init => k_is)
    (case k_Disk_init => k_is)
    (case a_Disk__use_power => k_is)
    (case g_Disk__use_power => k_is)
    (case l_Disk__use_power => k_is)
    (case c_Disk__use_power => k_is)
    (case k_Disk__use_power => k_is)
    (case a__is_file_name => k_is)
    (case l__is_file_name => k_is)
    (case c__is_file_name => k_is)
    (case k__is_file_name => k_is)
    (case a_Disk_write => k_is)
    (case g_Disk_write => k_is)
    (case l_Disk_write => k_is)
    (case c_Disk_write => k_is)
    (case k_Disk_write => k_is)
    (case a_Disk__found => k_is)
    (case g_Disk__found => k_is)
    (case l_Disk__found => k_is)
    (case c_Disk__found => k_is)
    (case k_Disk__found => k_is)
    (case a_Disk_read => k_is)
    (case g_Disk_read => k_is)
    (case l_Disk_read => k_is)
    (case c_Disk_read => k_is)
    (case k_Disk_read => k_is)
    (case a_Disk_names => k_is)
    (case g_Disk_names => k_is)
    (case l_Disk_names => k_is)
    (case c_Disk_names => k_is)
    (case k_Disk_names => k_is)
    (case a_Disk_sync => k_is)
    (case g_Disk_sync => k_is)
    (case l_Disk_sync => k_is)
    (case c_Disk_sync => k_is)
    (case k_Disk_sync => k_is)
    (case a_Disk_synced => k_is)
    (case g_Disk_synced => k_is)
    (case l_Disk_synced => k_is)
    (case c_Disk_synced => k_is)
    (case k_Disk_synced => k_is)
    (case a_Disk_fall => k_is)
    (case g_Disk_fall => k_is)
    (case l_Disk_fall => k_is)
    (case c_Disk_fall => k_is)
    (case k_Disk_fall => k_is)
    (case a_Disk_ops => k_is)
    (case g_Disk_ops => k_is)
    (case l_Disk_ops => k_is)
    (case c_Disk_ops => k_is)
    (case k_Disk_ops => k_is)
    (case a__law_cell => k_is)
    (case l__law_cell => k_is)
    (case c__law_cell => k_is)
    (case k__law_cell => k_is)
    (case a__law_box => k_is)
    (case l__law_box => k_is)
    (case c__law_box => k_is)
    (case k__law_box => k_is)
    (case a__law_take => k_is)
    (case l__law_take => k_is)
    (case c__law_take => k_is)
    (case k__law_take => k_is)
    (case a__law_pool => k_is)
    (case l__law_pool => k_is)
    (case c__law_pool => k_is)
    (case k__law_pool => k_is)
    (case a__law_filled => k_is)
    (case l__law_filled => k_is)
    (case c__law_filled => k_is)
    (case k__law_filled => k_is)
    (case a__law_keeps => k_is)
    (case l__law_keeps => k_is)
    (case c__law_keeps => k_is)
    (case k__law_keeps => k_is)
    (case a__law_no_keeps => k_is)
    (case l__law_no_keeps => k_is)
    (case c__law_no_keeps => k_is)
    (case k__law_no_keeps => k_is)
    (case a__law_fallen => k_is)
    (case l__law_fallen => k_is)
    (case c__law_fallen => k_is)
    (case k__law_fallen => k_is)
    (case a__law_told => k_is)
    (case l__law_told => k_is)
    (case c__law_told => k_is)
    (case k__law_told => k_is)
    (case a__law_refused => k_is)
    (case l__law_refused => k_is)
    (case c__law_refused => k_is)
    (case k__law_refused => k_is)
    (case a__law_is_gone => k_is)
    (case l__law_is_gone => k_is)
    (case c__law_is_gone => k_is)
    (case k__law_is_gone => k_is)
    (case a__law_alike => k_is)
    (case l__law_alike => k_is)
    (case c__law_alike => k_is)
    (case k__law_alike => k_is)
    (case a__law_fall_right => k_is)
    (case l__law_fall_right => k_is)
    (case c__law_fall_right => k_is)
    (case k__law_fall_right => k_is)
    (case a_law => k_is)
    (case l_law => k_is)
    (case c_law => k_is)
    (case k_law => k_is)
    (case d1_Disk => k_is)
    (case d2_Disk => k_is)
    (case d3_Disk => k_is)
    (case d4_Disk => k_is)
    (case d5_Disk => k_is)
    (case d6_Disk => k_is)
    (case df_Disk__files => k_is)
    (case df_Disk__ops => k_is)
    (case df_Disk__power => k_is)
    (case z_abs => k_is)
    (case z_all => k_is)
    (case z_bool => k_is)
    (case z_dict => k_is)
    (case z_enumerate => k_is)
    (case z_int => k_is)
    (case z_isinstance => k_is)
    (case z_len => k_is)
    (case z_list => k_is)
    (case z_max => k_is)
    (case z_min => k_is)
    (case z_range => k_is)
    (case z_repr => k_is)
    (case z_sorted => k_is)
    (case z_str => k_is)
    (case z_sum => k_is)
    (case z_tuple => k_is)
    (case v_MOST_OF_NAME => k_is)
    (case v_SIGNS_OF_NAME => k_is)
    (case ec_InvalidName => k_is)
    (case eo_InvalidName => k_is)
    (case eb_InvalidName => first | rfl | decide +kernel)
    (case es_InvalidName => k_is)
    (case ex_InvalidName => k_is)
    (case et_InvalidName => k_is)
    (case ek_InvalidName => k_is)
    (case eg_InvalidName => k_is)
    (case eh_InvalidName => k_is)
    (case ed_InvalidName => k_is)
    (case en_InvalidName => k_is)
    (case em_InvalidName => k_is)
    (case ei_InvalidName => k_is)
    (case ej_InvalidName => k_is)
    (case el_InvalidName => k_is)
    (case ef_InvalidName => k_is)
    (case ekf_InvalidName => k_is)
    (case ec_InvalidText => k_is)
    (case eo_InvalidText => k_is)
    (case eb_InvalidText => first | rfl | decide +kernel)
    (case es_InvalidText => k_is)
    (case ex_InvalidText => k_is)
    (case et_InvalidText => k_is)
    (case ek_InvalidText => k_is)
    (case eg_InvalidText => k_is)
    (case eh_InvalidText => k_is)
    (case ed_InvalidText => k_is)
    (case en_InvalidText => k_is)
    (case em_InvalidText => k_is)
    (case ei_InvalidText => k_is)
    (case ej_InvalidText => k_is)
    (case el_InvalidText => k_is)
    (case ef_InvalidText => k_is)
    (case ekf_InvalidText => k_is)
    (case ec_NoFile => k_is)
    (case eo_NoFile => k_is)
    (case eb_NoFile => first | rfl | decide +kernel)
    (case es_NoFile => k_is)
    (case ex_NoFile => k_is)
    (case et_NoFile => k_is)
    (case ek_NoFile => k_is)
    (case eg_NoFile => k_is)
    (case eh_NoFile => k_is)
    (case ed_NoFile => k_is)
    (case en_NoFile => k_is)
    (case em_NoFile => k_is)
    (case ei_NoFile => k_is)
    (case ej_NoFile => k_is)
    (case el_NoFile => k_is)
    (case ef_NoFile => k_is)
    (case ekf_NoFile => k_is)
    (case ec_InvalidKeeps => k_is)
    (case eo_InvalidKeeps => k_is)
    (case eb_InvalidKeeps => first | rfl | decide +kernel)
    (case es_InvalidKeeps => k_is)
    (case ex_InvalidKeeps => k_is)
    (case et_InvalidKeeps => k_is)
    (case ek_InvalidKeeps => k_is)
    (case eg_InvalidKeeps => k_is)
    (case eh_InvalidKeeps => k_is)
    (case ed_InvalidKeeps => k_is)
    (case en_InvalidKeeps => k_is)
    (case em_InvalidKeeps => k_is)
    (case ei_InvalidKeeps => k_is)
    (case ej_InvalidKeeps => k_is)
    (case el_InvalidKeeps => k_is)
    (case ef_InvalidKeeps => k_is)
    (case ekf_InvalidKeeps => k_is)

