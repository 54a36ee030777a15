import PyProof.Rows.All
import Wide.All
import OpenK.AllK
import Wide.FinOn
import HandS.ForMost
import HandS.IsInst
import HandS.StrMore
import HandS.TupAny
import HandS.TupMul
import HandS.Zip
import HandS.CallLocal
import HandS.Style
import HandS.Flow
import HandS.More
import HandS.Conv
import HandS.Exc
import HandS.ExcInit
import HandS.ExcField
import HandS.TryMany
import HandS.ExcOwn
import HandS.ExcValue
import HandS.ReplaceLit
import HandS.Replace
import HandS.TryOnly
import HandS.ExcIs
import HandS.ReplaceList
import KE.IntTextLaws
import PySem.Challenge.RW_inorderonce_k04_commands
set_option Elab.async false
set_option linter.all false
set_option maxRecDepth 100000
set_option maxHeartbeats 4000000
/-! errors whose base is Exception, with an own __init__ that keeps its arguments -/
namespace PySem.EX1
open PySem PySem.Spec PySem.W PySem.Calls PyProof.Rows PySem.HandSPX Builtin Builtin.ObjectAttr
/-- an mro: own classes, then Exception's -/
def ownEx : List Value → Bool
  | .ref _ :: r => ownEx r
  | [.type "Exception", .type "BaseException", .type "object"] => true
  | _ => false
inductive OwnEx : List Value → Prop
  | base : OwnEx [.type "Exception", .type "BaseException", .type "object"]
  | own (c : Addr) {r : List Value} : OwnEx r → OwnEx (.ref c :: r)
theorem ownEx_ok : ∀ l : List Value, ownEx l = true → OwnEx l
  | [], h => by cases h
  | .ref c :: r, h => .own c (ownEx_ok r h)
  | .none :: _, h => by cases h
  | .ellipsis :: _, h => by cases h
  | .notImplemented :: _, h => by cases h
  | .bool _ :: _, h => by cases h
  | .int _ _ :: _, h => by cases h
  | .float _ _ :: _, h => by cases h
  | .str _ _ :: _, h => by cases h
  | .bytes _ _ :: _, h => by cases h
  | .builtin _ :: _, h => by cases h
  | .type a :: r, h => by
    unfold ownEx at h
    split at h
    · rename_i e
      cases e
    · rename_i e
      rw [e]
      exact .base
    · cases h
theorem OwnEx.setable {l : List Value} (h : OwnEx l) (self : Value) : refuseLoop self "__setattr__" l = pure () := by
  induction h with
  | base => exact F.store_Exception.passes self
  | own c _ ih => rw [refuseLoop_ref, ih]
theorem OwnEx.has {l : List Value} (h : OwnEx l) (n : String) : l.contains (.type n) = [Value.type "Exception", .type "BaseException", .type "object"].contains (.type n) := by
  induction h with
  | base => rfl
  | own c _ ih =>
    rw [List.contains_cons, ih]
    rfl
theorem OwnEx.full {l : List Value} (h : OwnEx l) : l.isEmpty = false := by cases h <;> rfl
section
variable {prog : Program} {w : World} {A : Around} {E : Value → Shared → Prop} {R : Result → Shared → Prop} {hp : Heap} {g : Array GenState} {d : Drawn} {t : Nat} {os : OsState}
variable {K : W.Frag} {nm : Str} {tk : Tok} {v : Value} {x C dx : Addr} {fv : Array Value} {cd : ClassData} {od : Option Addr} {oo : Option Obj}
theorem exs_new (X : K.In hp) (hx : hp.get? x = some { cls := .ref C, data := .fields fv }) (hcd : W.clsIn K C = some cd) (hm : OwnEx cd.mro) (hh : cd.hasDict = true) (ha : W.findIn K (.ref C) nm = some none)
    (hq : ∀ h' tk' dx, (∀ b o, b ≠ x → hp.get? b = some o → h'.get? b = some o) → hp.objs.size ≤ dx → dx ≠ x →
      h'.get? x = some { cls := .ref C, dict := some dx, data := .fields fv } → h'.Ns1 dx (fun y => if y = nm then some v else none) → R (.ok (.ret .none)) ⟨h', g, d, tk', os⟩) :
    codeAny (model prog w) A (.call (.builtin "object.__setattr__") ⟨[.ref x, .str nm tk, v], []⟩) R ⟨hp, g, d, t, os⟩ := by
  have J : W.InstAt hp x { cls := .ref C, data := .fields fv } C none := ⟨hx, rfl, rfl, trivial⟩
  have xs : x ≠ hp.objs.size := Nat.ne_of_lt (Heap.lt_size hx)
  have obj : cd.mro.contains (.type "object") = true := (hm.has "object").trans (by decide +kernel)
  have lm : W.Looks (model prog w) hp (mroOf (.ref C)) cd.mro := (W.looks_clsIn X hcd).andThen .now
  have lc : W.Looks (model prog w) hp (classData C) cd := W.looks_clsIn X hcd
  have ln : W.Looks (model prog w) hp (storeTaker? none) none := .now
  have li : W.Looks (model prog w) hp (isInstance (.ref x) (.type "object")) true :=
    J.type.andThen (W.looks_mroIn X (by unfold W.mroIn; rw [hcd, Option.bind_some, if_neg (by rw [hm.full]; decide), obj]))
  refine codeAny_call_builtin F.store_object.slot.plain F.store_object.entry
    (@W.check_slot (model prog w) _ _ ⟨hp, g, d, t, os⟩ "object.__setattr__" "object" "__setattr__" (.ref x) [.str nm tk, v] [] _ F.store_object.kind F.store_object.split li
      (F.store_object.args (.ref x) (.str nm tk) v) ?_)
  rw [W.osa_eq, refuse_eq]
  refine wpAny_bind (wpAny_bind (J.type.at (wpAny_bind (lm.at ?_))))
  rw [hm.setable]
  refine wpAny_pure (wpAny_bind (J.type.at (wpAny_bind ((W.looks_findIn X ha).at (wpAny_bind (ln.at ?_))))))
  show wpAny _ _ (storeInOwnDict (.ref x) (.ref C) (.str nm tk) nm v false) _ _ _
  obtain ⟨c1, c2, c3, c4, c5, c6, c7, c8, c9, c10, c11⟩ := cd
  have e6 : c6 = true := hh
  subst e6
  unfold storeInOwnDict ownDictForStores
  repeat (first | with_reducible refine store_in_new ?_ ?_ | with_reducible refine wpAny_loadPart_at hx ?_ | with_reducible refine lc.at ?_ | wp_step)
  · exact ⟨_, #[], _, (Heap.get?_update_ne _ _ _ _ xs.symm).trans (Heap.get?_push_at rfl rfl), rfl, fun e q => absurd q (by simp), fun _ => rfl⟩
  · intro h' tk' n1 sb
    have hx1 := Heap.get?_push_of_some (h := hp) { cls := .type "dict", data := .dict #[] } hx
    exact hq h' tk' hp.objs.size (fun b o ne q => (sb.2 b (Nat.ne_of_lt (Heap.lt_size q))).trans ((Heap.get?_update_ne _ _ _ _ ne).trans (Heap.get?_push_of_some _ q))) (Nat.le_refl _) xs.symm
      ((sb.2 x xs).trans (Heap.get?_update_self _ hx1 rfl)) n1
/-- a further field -/
theorem exs_old {m0 : Str → Option Value} {nl : List Str} (X : K.In hp) (hx : hp.get? x = some { cls := .ref C, dict := some dx, data := .fields fv }) (hns : hp.Ns1 dx m0) (hw : Within m0 nl) (hz : nl.length ≤ 1000)
    (hcd : W.clsIn K C = some cd) (hm : OwnEx cd.mro) (hh : cd.hasDict = true) (ha : W.findIn K (.ref C) nm = some none)
    (hq : ∀ h' tk', (∀ b o, b ≠ dx → hp.get? b = some o → h'.get? b = some o) → h'.Ns1 dx (fun y => if y = nm then some v else m0 y) → R (.ok (.ret .none)) ⟨h', g, d, tk', os⟩) :
    codeAny (model prog w) A (.call (.builtin "object.__setattr__") ⟨[.ref x, .str nm tk, v], []⟩) R ⟨hp, g, d, t, os⟩ := by
  obtain ⟨oD, _, _, hoD, _, _⟩ := hns.count hw
  have J : W.InstAt hp x { cls := .ref C, dict := some dx, data := .fields fv } C (some oD) := ⟨hx, rfl, rfl, hoD⟩
  have obj : cd.mro.contains (.type "object") = true := (hm.has "object").trans (by decide +kernel)
  have lm : W.Looks (model prog w) hp (mroOf (.ref C)) cd.mro := (W.looks_clsIn X hcd).andThen .now
  have lc : W.Looks (model prog w) hp (classData C) cd := W.looks_clsIn X hcd
  have ln : W.Looks (model prog w) hp (storeTaker? none) none := .now
  have li : W.Looks (model prog w) hp (isInstance (.ref x) (.type "object")) true :=
    J.type.andThen (W.looks_mroIn X (by unfold W.mroIn; rw [hcd, Option.bind_some, if_neg (by rw [hm.full]; decide), obj]))
  refine codeAny_call_builtin F.store_object.slot.plain F.store_object.entry
    (@W.check_slot (model prog w) _ _ ⟨hp, g, d, t, os⟩ "object.__setattr__" "object" "__setattr__" (.ref x) [.str nm tk, v] [] _ F.store_object.kind F.store_object.split li
      (F.store_object.args (.ref x) (.str nm tk) v) ?_)
  rw [W.osa_eq, refuse_eq]
  refine wpAny_bind (wpAny_bind (J.type.at (wpAny_bind (lm.at ?_))))
  rw [hm.setable]
  refine wpAny_pure (wpAny_bind (J.type.at (wpAny_bind ((W.looks_findIn X ha).at (wpAny_bind (ln.at ?_))))))
  show wpAny _ _ (storeInOwnDict (.ref x) (.ref C) (.str nm tk) nm v false) _ _ _
  obtain ⟨c1, c2, c3, c4, c5, c6, c7, c8, c9, c10, c11⟩ := cd
  have e6 : c6 = true := hh
  subst e6
  unfold storeInOwnDict ownDictForStores
  repeat (first | with_reducible refine OEX.store_in_old hns hw hz ?_ | with_reducible refine wpAny_loadPart_at hx ?_ | with_reducible refine lc.at ?_ | wp_step)
  exact fun h' tk' n1 sb => hq h' tk' (fun b o ne q => (sb.2 b ne).trans q) n1
end
end PySem.EX1

namespace W2
open PySem PySem.Spec PyProof.Rows L2 PySem.EX1
/-- what the written part says of such an error class -/
structure ErC (K : PySem.W.Frag) (C : Addr) : Prop where
  cls : ∃ nm q N bs bm sn sub ab col dd k0 k1 k2 k3 k5, K.lookup C = some (excClassObj nm q C N bs bm true sn sub ab col dd k0 k1 k2 k3 k5 "Exception.__new__") ∧ ownEx bm = true
  sa : PySem.W.findIn K (.ref C) "__setattr__" = some (some (.builtin "object.__setattr__"))
  exC : PySem.W.subIn K (.ref C) (.type "BaseException") = some true
  tyC : PySem.W.typeIn K (.ref C) = some (.type "type")
  kC : PySem.W.keepIn K (.ref C) = true
section
variable {X : Cx} {pins : List (Addr × Obj)} {σ : L2.St} {H : Hp} {s : Shared} {a C dx : Addr} {f : Str} {y : V} {u : Value} {fs : List (Str × V)} {Q : Unit → Shared → Prop} {E : Value → Shared → Prop} {A : Around}
theorem er_new (T : ErC X.K C) (I : Inv X pins σ H s) (e : H a = some (exo a C none)) (hno : PySem.W.findIn X.K (.ref C) f = some none) (ry : RelV y u)
    (h : ∀ dx s', H dx = none → dx ≠ a → Inv X pins σ (upd (upd H dx (exd dx [(f, y)])) a (exo a C (some dx))) s' → Q () s') : wpAny (model X.prog X.w) A (setAttr (.ref a) f u) Q E s := by
  obtain ⟨nm, q, N, bs, bm, sn, sub, ab, col, dd, k0, k1, k2, k3, k5, hC, hbm⟩ := T.cls
  have hcl : PySem.W.clsIn X.K C = some ⟨nm, bs, .ref C :: bm, N, q, true, sn, sub, ab, col, false⟩ := by
    unfold PySem.W.clsIn
    rw [hC]
  obtain ⟨t1, ho⟩ := exo_at I.hok e
  obtain ⟨hp, g, d, t, os⟩ := s
  refine PySem.W.set_plain I.kIn (ox := ⟨.ref C, none, .fields #[.ref t1, .none, .none, .none, .bool false, .none], #[]⟩) (od := none) ⟨ho, rfl, rfl, trivial⟩ T.sa ?_
  refine exs_new I.kIn ho hcl (.own C (ownEx_ok _ hbm)) rfl hno fun h' tk' dx k dn dne hx hn => ?_
  have fresh : H dx = none := I.hok.fresh dn
  have off : ∀ {b : Addr} {o : Obj}, hp.get? b = some o → b ≠ dx := fun z => Nat.ne_of_lt (Nat.lt_of_lt_of_le (Heap.lt_size z) dn)
  have offa : ∀ {b : Addr}, H b = none → b ≠ a := fun n z => by
    rw [z, e] at n
    cases n
  have un : Un X.fs [] H (upd (upd H dx (exd dx [(f, y)])) a (exo a C (some dx))) hp h' :=
    ⟨fun b o z n _ _ => k b o (offa n) z, fun b o z n _ _ => ⟨o.slots, k b o (offa n) z⟩, fun b o z n _ => by rw [upd_ne (offa n), upd_ne (off z)]; exact n,
      fun b o z _ => by
        by_cases hb : b = a
        · exact ⟨_, by rw [hb]; exact hx⟩
        · exact ⟨o, k b o hb z⟩,
      fun b xs z => by rw [upd_ne (at_ne e z exo_tup), upd_ne (ne_of_none z fresh)]; exact z,
      fun b o v z => by rw [upd_ne (at_ne e z exo_frz), upd_ne (ne_of_none z fresh)]; exact z,
      fun b ps z => ⟨#[], by rw [upd_ne (at_ne e z exo_tbl), upd_ne (ne_of_none z fresh), z]; simp⟩⟩
  refine h dx _ fresh dne (I.un (t' := tk') un fun b o z => ?_)
  by_cases hb : b = a
  · subst hb
    rw [upd_same] at z
    cases z
    exact exo_ok hx
  rw [upd_ne hb] at z
  by_cases hd : b = dx
  · subst hd
    rw [upd_same] at z
    cases z
    exact exd_ok hn (relO_put (fs := []) ry fun g => True.intro)
  rw [upd_ne hd] at z
  refine (I.hok b o z).stay (fun c v hc r => k c v ?_ r) (fun c hc => ?_) fun c xs hc => ?_
  · rcases hc with hc | hc
    · rw [hc]; exact hb
    · exact at_ne e hc exo_own
  · rw [upd_ne (at_ne e hc exo_own), upd_ne (ne_of_none hc fresh)]; exact hc
  · rw [upd_ne (at_ne e hc exo_tup), upd_ne (ne_of_none hc fresh)]; exact hc
theorem er_old (T : ErC X.K C) (I : Inv X pins σ H s) (e : H a = some (exo a C (some dx))) (ed : H dx = some (exd dx fs)) (hl : fs.length ≤ 900) (hno : PySem.W.findIn X.K (.ref C) f = some none) (ry : RelV y u)
    (h : ∀ s', Inv X pins σ (upd H dx (exd dx ((f, y) :: fs))) s' → Q () s') : wpAny (model X.prog X.w) A (setAttr (.ref a) f u) Q E s := by
  obtain ⟨nm, q, N, bs, bm, sn, sub, ab, col, dd, k0, k1, k2, k3, k5, hC, hbm⟩ := T.cls
  have hcl : PySem.W.clsIn X.K C = some ⟨nm, bs, .ref C :: bm, N, q, true, sn, sub, ab, col, false⟩ := by
    unfold PySem.W.clsIn
    rw [hC]
  obtain ⟨t1, ho⟩ := exo_at I.hok e
  obtain ⟨mA, hns, rel⟩ := exd_at I.hok ed
  obtain ⟨hp, g, d, t, os⟩ := s
  obtain ⟨oD, _, _, hoD, _, _⟩ := hns.count (within_of rel)
  refine PySem.W.set_plain I.kIn (ox := ⟨.ref C, some dx, .fields #[.ref t1, .none, .none, .none, .bool false, .none], #[]⟩) (od := some oD) ⟨ho, rfl, rfl, hoD⟩ T.sa ?_
  refine exs_old I.kIn ho hns (within_of rel) (by rw [List.length_map]; omega) hcl (.own C (ownEx_ok _ hbm)) rfl hno fun h' tk' k hn => ?_
  obtain ⟨o1, _, _, e1, _⟩ := id hn
  exact h _ (I.write (t' := tk') (x := dx) (e := dx) (o := exd dx ((f, y) :: fs)) (by rw [ed]; exact True.intro) (.inl rfl) k ⟨o1, e1⟩ (exd_ok hn (relO_put ry rel)))
end
/-- self.f = e in the __init__ of an error -/
def tEr (K : PySem.W.Frag) (f : Str) (to te : TE) : TS := fun D σ H => te σ H fun y H1 => to σ H1 fun x H2 => ∃ a C : Addr, x = .ref a ∧ ErC K C ∧ PySem.W.findIn K (.ref C) f = some none ∧
  ((H2 a = some (exo a C none) ∧ ∀ dx, H2 dx = none → dx ≠ a → D.nx σ (upd (upd H2 dx (exd dx [(f, y)])) a (exo a C (some dx)))) ∨
    ∃ (dx : Addr) (fs : List (Str × V)), H2 a = some (exo a C (some dx)) ∧ H2 dx = some (exd dx fs) ∧ fs.length ≤ 900 ∧ D.nx σ (upd H2 dx (exd dx ((f, y) :: fs))))
theorem ps_er {X : Cx} {o e : Expr} {to te : TE} {f : Str} {p' pos : Pos} (ho : PE X o to) (he : PE X e te) (hs : swapsWith e (some (.Attribute o f p')) pos.line X.env = pure false := by rfl) : PS X (.Assign [.Attribute o f p'] e pos) (tEr X.K f to te) := by
  constructor
  intro pins s σ H D I h
  refine plainObj_wpAny_Assign_Attribute (thn (he.run pins s σ H _ I h) fun v s1 ⟨y, H1, I1, r1, q1⟩ => thn (ho.run pins s1 σ H1 _ I1 q1) ?_) hs
  rintro u s2 ⟨x, H2, I2, r2, a, C, rfl, T, hno, q⟩
  obtain rfl : u = Value.ref a := r2
  rcases q with ⟨ea, q⟩ | ⟨dx, fs, ea, ed, hl, q⟩
  · exact er_new T I2 ea hno r1 fun dx s' n ne J => ⟨σ, _, J, q dx n ne⟩
  · exact er_old T I2 ea ed hl hno r1 fun s' J => ⟨σ, _, J, q⟩
end W2

namespace W2
open PySem PySem.Spec PyProof.Rows L2
/-! ### room with the guards told; what is left of it in an except suite -/
structure Rm (k : Nat) (A : Around) : Prop where
  r : Room k A
  g : A.guards = some []
theorem Rm.mono {j k : Nat} {A : Around} (h : Rm k A) (le : j ≤ k) : Rm j A := ⟨h.r.mono le, h.g⟩
structure Rg (A : Around) : Prop where
  un : A.units + 200 < cLine
  g : A.guards = some []
theorem Rm.rg {k : Nat} {A : Around} (h : Rm k A) : Rg A := ⟨by have := h.r.un; omega, h.g⟩
theorem Rg.mark {A : Around} (h : Rg A) (hd : Option Value) : Rg (A.mark hd) := ⟨h.un, h.g⟩
theorem Rm.make {k : Nat} {A : Around} (r : Rm (k + 1) A) (C : Addr) (us : List Value) (kw : List (Str × Value)) : Rm k (A.under (.builtin "type.__call__" ⟨.ref C :: us, kw⟩)) := ⟨r.r.make C us kw, by
  show pushGuards (Code.guards (.builtin "type.__call__" ⟨.ref C :: us, kw⟩)) A.guards = some []
  rw [r.g]
  have : Code.guards (.builtin "type.__call__" ⟨.ref C :: us, kw⟩) = [] := by
    unfold Code.guards
    rw [if_neg]
    show ¬ guardIds.contains "type.__call__" = true
    decide +kernel
  rw [this]
  rfl⟩
/-- a def's promise; errors may leave it -/
structure FnX (P : Program) (w : World) (K : PySem.W.Frag) (mg : Str → Option Value) (base : Heap) (k : Nat) (f : Addr) (fd : FuncData) (ps : List Str) (sp : Sp) : Prop where
  len : ∀ vs H Q E, sp vs H Q E → vs.length = ps.length
  run : ∀ (A : Around) (o : List Env) (s : Shared) (H : Hp) (ar : Args) (us : List Value) (vs : List V) (Q : VK) (E : XK), Rm k A → Env0 P w K mg base A o s H → BindsTo s fd ar (ps.zip us) → Vals vs us → sp vs H Q E →
    codeAny (model P w) A (.call (.ref f) ar) (CR (L2.CX P w) o P w H s Q E) s
section
variable {P : Program} {w : World} {K : PySem.W.Frag} {mg : Str → Option Value} {base : Heap}
theorem FnX.mono {j k : Nat} {f : Addr} {fd : FuncData} {ps : List Str} {sp : Sp} (F : FnX P w K mg base j f fd ps sp) (h : j ≤ k) : FnX P w K mg base k f fd ps sp := ⟨F.len, fun A o s H ar us vs Q E hr => F.run A o s H ar us vs Q E (hr.mono h)⟩
theorem fnX_of {x qual : Str} {st : Stmt} {f : Addr} {fd : FuncData} {N ps : List Str} {k : Nat} {sp : Sp} (F : Fun K x qual st f fd) (S : FnScope N ps (defScope st)) (len : ∀ vs H Q E, sp vs H Q E → vs.length = ps.length)
    (body : ∀ (c : Value) (A : Around) (o : List Env) (s : Shared) (H : Hp) (vs : List V) (Q : VK) (E : XK), Rm k (A.deeper (envOfC qual (defScope st) s.heap.objs.size f c)) → sp vs H Q E →
      ∃ t, PSs (cxOf (L2.CX P w) P w K mg base N qual (defScope st) f c A o s H E) (defBody st) t ∧ t { nx := fun _ H' => Q .non H', rt := Q } (start N vs) H) : FnX P w K mg base (k + 1) f fd ps sp := by
  obtain ⟨oc, od, kV, doc, pm, an, c, ct, osl, rfl, lk, hcd⟩ := F.ex
  refine ⟨len, ?_⟩
  intro A o s H ar us vs Q E hr e0 hb r hsp
  have kb : ∀ b ob, base.get? b = some ob → s.heap.get? b = some ob := fun b ob e => (e0.bs b ob e).1
  have KX : K.In s.heap := e0.mod.kin.keeps kb
  have kinds : ∀ y ∈ ps.zip us, (defScope st).names.lookup y.1 = some .local ∨ ((defScope st).names.lookup y.1 = some .cell ∧ ((cellsFrom (s.heap.objs.size + 1) (defScope st).names []).lookup y.1).isSome = true) := by
    intro y hy
    rcases S.par y.1 (List.of_mem_zip (show (y.1, y.2) ∈ ps.zip us from hy)).1 with q | q
    · exact .inl q
    · exact .inr ⟨q, PySem.W.cellsFrom_some _ _ _ (Or.inl q)⟩
  refine codeAny_call_function hr.r.depth (KX _ _ lk) rfl S.co S.gen rfl (PySem.W.codeRec_of KX hcd) (hb _ _ _ _ ?_)
  refine wpAny_newFunctionEnv_cells S.kind kinds fun env he s1 x => ?_
  subst he
  refine ⟨(e0.mod.nolimit.keeps kb).keeps x.toInCall.keep, codeAny_func ?_⟩
  obtain ⟨t, ht, hq⟩ := body c A o s H vs Q E ⟨hr.r.deeper _, hr.g⟩ hsp
  have I := inv_start (CX := L2.CX P w) (P := P) (w := w) (K := K) (mg := mg) (base := base) (qual := qual) (f := f) (cd := c) (E := E) S hr.r.hd e0 (len _ _ _ _ hsp) r x
  refine wpAny_mono (ht.run [] s1 (start N vs) H _ I hq) (fun fl s' hs => ?_) fun e s' hs => hs
  cases fl with
  | ret u =>
    obtain ⟨v, σ', H', J, rv, q⟩ := hs
    exact ⟨v, H', J.os, J.bare, J.base, J.hok, rv, q⟩
  | next =>
    obtain ⟨σ', H', J, q⟩ := hs
    exact ⟨.non, H', J.os, J.bare, J.base, J.hok, rfl, q⟩
  | brk => exact (hs.elim fun _ h => h.elim fun _ h => False.elim h.2)
  | cont => exact (hs.elim fun _ h => h.elim fun _ h => False.elim h.2)
end
section
variable {X : Cx} {k : Nat} {f : Addr} {fd : FuncData} {ps : List Str} {sp : Sp} {E : L2.St → XK} {W : WX} {x : Str} {p pos : Pos} {e : Expr} {es : List Expr} {t : TA}
theorem run_X {pins : List (Addr × Obj)} {σ : L2.St} {H : Hp} {s : Shared} {Q : VK} {us : List Value} {vs : List V} {ar : Args} (F : FnX X.prog X.w X.K X.mg X.base k f fd ps sp) (hr : Rm k X.A) (tk : Takes X W)
    (hb : BindsTo s fd ar (ps.zip us)) (I : Inv X pins σ H s) (r : Vals vs us) (h : sp vs H Q (WE W σ)) :
    codeAny (model X.prog X.w) X.A (.call (.ref f) ar) (fun r s' => match r with | .ok (.ret u) => EP X pins σ Q u s' | .ok _ => False | .error e => X.xe e s') s := by
  refine codeAny_mono (F.run X.A X.stack s H ar us vs Q _ hr I.env0 hb r h) fun r s' hq => ?_
  match r, hq with
  | .error e, hq => exact passAt tk σ pins H s e s' I hq
  | .ok (.ret u), hq => exact I.after hq
theorem run_Xc {pins : List (Addr × Obj)} {σ : L2.St} {H : Hp} {s : Shared} {Q : VK} {us : List Value} {vs : List V} (F : FnX X.prog X.w X.K X.mg X.base k f fd ps sp) (hr : Rm k X.A) (tk : Takes X W)
    (hb : Binds X.K fd ps []) (I : Inv X pins σ H s) (r : Vals vs us) (h : sp vs H Q (WE W σ)) : wpAny (model X.prog X.w) X.A (call (.ref f) us) (EP X pins σ Q) X.xe s := by
  have hl : (us ++ []).length = ps.length := by
    rw [List.append_nil, ← r.length]
    exact F.len _ _ _ _ h
  have hz := hb s us I.kIn hl
  rw [List.append_nil] at hz
  refine wpAny_call (codeAny_mono (run_X F hr tk hz I r h) fun r s' hq => ?_)
  match r, hq with
  | .error e, hq => exact hq
  | .ok (.ret u), hq => exact hq
theorem pe_X (F : FnX X.prog X.w X.K X.mg X.base k f fd ps sp) (hr : Rm k X.A) (tk : Takes X W) (hg : Gl X x) (hm : X.mg x = some (.ref f)) (hk : PySem.W.keepIn X.K (.ref f) = true) (hb : Binds X.K fd ps []) (ha : PA X (e :: es) t)
    (hdb : (x == ("__debug__" : Str)) = false := by decide) (he : starEach (e :: es) X.env = (false, eval e X.env) :: starEach es X.env := by rfl) (hpl : (backTo pos (starEach es X.env)).any (·.1) = false := by rfl) :
    PE X (.Call (.Name x p) (e :: es) [] pos) (fun σ H Q => t σ H fun vs H1 => sp vs H1 Q (WE W σ)) := by
  constructor
  intro pins s σ H Q I h
  refine wpAny_Call_Name_kw (ld_glob I hg hm ?_ hdb)
  refine PySem.W.callWith_K (h₀ := X.base) I.ok.mod.kin hk (thn (ha.run pos pins s σ H _ I h) ?_) he hpl
  rintro us s1 ⟨vs, H1, I1, r, q⟩
  exact ⟨I1.kIn, run_Xc F hr tk hb I1 r q⟩
theorem pe_X0 (F : FnX X.prog X.w X.K X.mg X.base k f fd ps sp) (hr : Rm k X.A) (tk : Takes X W) (hg : Gl X x) (hm : X.mg x = some (.ref f)) (hk : PySem.W.keepIn X.K (.ref f) = true) (hb : Binds X.K fd ps [])
    (hdb : (x == ("__debug__" : Str)) = false := by decide) : PE X (.Call (.Name x p) [] [] pos) (fun σ H Q => sp [] H Q (WE W σ)) := by
  constructor
  intro pins s σ H Q I h
  refine wpAny_Call_Name_kw (ld_glob I hg hm ?_ hdb)
  exact PySem.W.callWith_K0 I.kIn hk (run_Xc (us := []) F hr tk hb I .nil h)
/-- C(e, ..), C an error class with an own __init__ -/
theorem pmk_er {C fI : Addr} (T : ErC X.K C) (iC : PySem.W.findIn X.K (.ref C) "__init__" = some (some (.ref fI))) (tI : PySem.W.typeIn X.K (.ref fI) = some (.type "function")) (F : FnX X.prog X.w X.K X.mg X.base k fI fd ps sp) (hr : Rm (k + 1) X.A)
    (hb : Binds X.K fd ps []) (hg : Gl X x) (hm : X.mg x = some (.ref C)) (ha : PA X (e :: es) t)
    (hdb : (x == ("__debug__" : Str)) = false := by decide) (he : starEach (e :: es) X.env = (false, eval e X.env) :: starEach es X.env := by rfl) (hpl : (backTo pos (starEach es X.env)).any (·.1) = false := by rfl) :
    PMk X (.Call (.Name x p) (e :: es) [] pos) (tMkO C sp [] t) := by
  intro pins s σ H Q I h
  obtain ⟨nm, q, N, bs, bm, sn, sub, ab, col, dd, k0, k1, k2, k3, k5, hC, hbm⟩ := T.cls
  have hm2 := PySem.EX1.ownEx_ok _ hbm
  refine wpAny_Call_Name_kw (ld_glob I hg hm ?_ hdb)
  refine PySem.W.callWith_K (h₀ := X.base) I.ok.mod.kin T.kC (thn (ha.run pos pins s σ H _ I h) fun us s1 ⟨vs, H1, I1, r1, hz, q1⟩ => ⟨I1.kIn, ?_⟩) he hpl
  show wpAny _ _ (call (.ref C) us) _ _ _
  obtain ⟨hp, g, dr, tk, os⟩ := s1
  have hsz : hp.objs.size ≤ hp.objs.size + 1 := Nat.le_succ _
  have hq := q1 (hp.objs.size + 1) (I1.hok.fresh hsz)
  have kk : ∀ b o, hp.get? b = some o → ((hp.push (PySem.W.kdv_tup us)).push (PySem.HandSPX.excO C hp.objs.size)).get? b = some o := fun b o e => Heap.get?_push_of_some _ (Heap.get?_push_of_some _ e)
  have hget : ((hp.push (PySem.W.kdv_tup us)).push (PySem.HandSPX.excO C hp.objs.size)).get? (hp.objs.size + 1) = some (PySem.HandSPX.excO C hp.objs.size) := by heap_get
  have I2 := I1.laid (t' := tk) (a := hp.objs.size + 1) (o := exo (hp.objs.size + 1) C none) (h' := (hp.push (PySem.W.kdv_tup us)).push (PySem.HandSPX.excO C hp.objs.size)) kk hsz (exo_ok hget)
  have r2 : Vals (V.ref (hp.objs.size + 1) :: (vs ++ [])) (Value.ref (hp.objs.size + 1) :: us) := .cons rfl (by rw [List.append_nil]; exact r1)
  have hl : (Value.ref (hp.objs.size + 1) :: us ++ []).length = ps.length := by
    rw [List.append_nil, ← r2.length]
    exact F.len _ _ _ _ hq
  have hus : us.length ≤ sizeLine := by
    rw [← Paired.length r1, sizeLine_eq]
    omega
  have hbz := hb _ (Value.ref (hp.objs.size + 1) :: us) I2.kIn hl
  rw [List.append_nil] at hbz
  refine wpAny_call (PySem.HandSPX.call_own PySem.F.excBase_Exception (fun Y => hm2.has Y) (I1.kIn _ _ hC) (PySem.W.looks_findIn I1.kIn iC) (fun self => PySem.W.bind_fn I1.kIn self tI) hus
    (codeAny_mono (F.run _ X.stack _ _ _ _ _ _ (fun _ _ _ => False) (hr.make C us []) (I2.env0.make C us []) hbz r2 hq) fun r s' hq' => ?_))
  match r, hq' with
  | .error er, hq' =>
    obtain ⟨_, _, _, _, _, _, _, _, _, _, _, _, z⟩ := hq'
    exact z.elim
  | .ok (.ret u), hq' =>
    obtain ⟨v, H2, os2, bare2, un2, hok2, rv, ev, d, fs, ea, ed, hd1, q2⟩ := hq'
    subst ev
    obtain ⟨h2, g2, d2, t2, os'⟩ := s'
    exact ⟨rv, mk_end (raises_own T.exC T.tyC) I1 hsz kk un2 hok2 os2 bare2 ea ed hd1 q2⟩
end
end W2

namespace W2
open PySem PySem.Spec PyProof.Rows L2
/-! ### try with any clauses "except C:" and "except C as n:" -/
abbrev Ts := Addr → Value → Option Addr → TS
structure Cl where
  c : Value
  i : Option Nat
  ts : Ts
/-- what is wanted behind a suite: the clause's name is gone -/
def dropN (D : Ends) : Option Nat → Ends
  | none => D
  | some i => { nx := fun σ H => D.nx (σ.set i none) H, rt := D.rt, bk := fun σ H => D.bk (σ.set i none) H, ct := fun σ H => D.ct (σ.set i none) H }
def setN (σ : L2.St) (a : Addr) : Option Nat → L2.St
  | none => σ
  | some i => σ.set i (some (.ref a))
def wCl (K : PySem.W.Frag) (Wout : WX) (D : Ends) : List Cl → WX
  | [] => Wout
  | l :: r => fun cls d σ H => ∃ b, PySem.W.exmOne K cls l.c = some b ∧ (b = true → ∀ a, H a = none → l.ts a cls d (dropN D l.i) (setN σ a l.i) H) ∧ (b = false → wCl K Wout D r cls d σ H)
inductive ClsOk (X : Cx) : List ExceptHandler → List Cl → Prop
  | nil : ClsOk X [] []
  | cons {x : Str} {c : Value} {ts : Ts} {b₀ : Stmt} {suite : List Stmt} {np pos' : Pos} {hds : List ExceptHandler} {l : List Cl} (hc : Names X x c)
      (hsu : ∀ (a : Addr) (oe : Obj) (cls : Value) (d : Option Addr) (pn : List (Addr × Obj)), Zc cls d oe → (∃ vs, oe.data = .fields vs) → PSs (X.suite a ((a, oe) :: pn)) (b₀ :: suite) (ts a cls d)) (r : ClsOk X hds l) :
      ClsOk X (.ExceptHandler (some (.Name x np)) none (b₀ :: suite) pos' :: hds) (⟨c, none, ts⟩ :: l)
  | as {x n : Str} {i : Nat} {c : Value} {ts : Ts} {b₀ : Stmt} {suite : List Stmt} {np pos' : Pos} {hds : List ExceptHandler} {l : List Cl} (hc : Names X x c) (hi : X.N[i]? = some n) (hln : X.env.kindOf n = some .local)
      (hsu : ∀ (a : Addr) (oe : Obj) (cls : Value) (d : Option Addr) (pn : List (Addr × Obj)), Zc cls d oe → (∃ vs, oe.data = .fields vs) → PSs (X.suite a ((a, oe) :: pn)) (b₀ :: suite) (ts a cls d)) (r : ClsOk X hds l) :
      ClsOk X (.ExceptHandler (some (.Name x np)) (some n) (b₀ :: suite) pos' :: hds) (⟨c, some i, ts⟩ :: l)
section
variable {X : Cx} {body : List Stmt} {h₀ : ExceptHandler} {hds : List ExceptHandler} {l : List Cl} {pos : Pos} {tb : WX → TS} {Wout : WX}
theorem ps_try (hs : X.stack = X.env :: X.outer) (hf : X.env.frame = some X.env.locals) (hN : X.N.Nodup) (tk : Takes X Wout)
    (hb : ∀ (W : WX) (pn : List (Addr × Obj)) (xe : Value → Shared → Prop), Takes (X.tr pn xe) W → PassesOwn (model X.prog X.w) X.A X.env xe → PSs (X.tr pn xe) body (tb W)) (hh : ClsOk X (h₀ :: hds) l) :
    PS X (.Try body (h₀ :: hds) [] [] pos) (fun D σ H => tb (wCl X.K Wout D l) D σ H) := by
  constructor
  intro pins s σ H D I h
  have ok := I.ok
  have hfr : X.A.frames = some (X.env :: X.outer) := by rw [ok.frames, hs]
  refine wpAny_Try_except (wpAny_mono ((hb (wCl X.K Wout D l) (X.pn ++ pins) (fun e s₁ => wpAny (model X.prog X.w) X.A (noteFrame e X.env) (fun _ s₂ => wpAny (model X.prog X.w) X.A (setFlight e none)
    (fun _ s₃ => wpAny (model X.prog X.w) X.A (handleBy e X.env (h₀ :: hds)) (SP X pins D) X.xe s₃) X.xe s₂) X.xe s₁) (fun u s' xx => ?_) PassesOwn.looking).run [] s σ H D (I.toTry _) h) (fun f s1 hsp => ?_) (fun e s1 he => he))
  · obtain ⟨a, B, sI, pins', σ', H', cls, d, rfl, J', nb, up, sky, na, os, ag, w⟩ := xx
    have J : Inv X pins σ' H' sI := J'.ofTry ok
    have sky' : Sky B (X.env :: X.outer) a (Zc cls d) X.env.locals s'.heap := hs ▸ sky
    show wpAny (model X.prog X.w) X.A (noteFrame (.ref a) X.env) _ _ _
    refine Sky.land Zc.steady hfr hf sky' fun h3 fl3 up3 => ?_
    have J3 : Inv X pins σ' H' { s' with heap := h3 } := J.landed nb fl3.1 (up.trans up3) os ag
    obtain ⟨oe3, vs3, he3, hz3, hd3⟩ := fl3.there
    have nfr : a ∉ frs (X.env :: X.outer) := fun hm => by
      obtain ⟨_, o', e', hnf⟩ := fl3.2.2.1.mem hm
      rw [he3] at e'
      cases e'
      exact hnf _ hd3
    have nL : a ≠ X.env.locals := fun z => nfr (List.mem_filterMap.mpr ⟨X.env, List.mem_cons_self, by rw [hf, z]⟩)
    have nF : a ∉ X.fs := fun hm => by
      obtain ⟨e, he, q⟩ := List.mem_filterMap.mp hm
      exact nfr (List.mem_filterMap.mpr ⟨e, List.mem_cons_of_mem _ he, q⟩)
    have S3 := J3.suite he3 hd3 na nL nF
    have LT : PySem.W.Looks (model X.prog X.w) h3 (typeOf (.ref a)) cls := fun A Q E s k q => wpAny_typeOf_ref (k _ _ he3) (by rw [hz3.1]; exact q)
    have test : ∀ {x : Str} {c : Value} {np : Pos} {Q : Value → Shared → Prop} {E : Value → Shared → Prop}, Names X x c → Q c { s' with heap := h3 } → wpAny (model X.prog X.w) (X.A.mark (some (.ref a))) (eval (.Name x np) X.env) Q E { s' with heap := h3 } := by
      intro x c np Q E hc q
      obtain ⟨hg, hdbg, hm | ⟨hm, hv, hnn⟩⟩ := hc
      · exact ld_glob (X := X.suite a ((a, oe3) :: (X.pn ++ pins))) S3 hg hm q hdbg
      · exact ld_blt (X := X.suite a ((a, oe3) :: (X.pn ++ pins))) S3 hg hm hv q hnn hdbg
    have go : ∀ {hds' : List ExceptHandler} {l' : List Cl}, ClsOk X hds' l' → wCl X.K Wout D l' cls d σ' H' → wpAny (model X.prog X.w) X.A (handleBy (.ref a) X.env hds') (SP X pins D) X.xe { s' with heap := h3 } := by
      intro hds' l' hk
      induction hk with
      | nil =>
        intro w
        refine wpAny_handleBy_nil ?_
        obtain ⟨_, _, _, oe, vs, T, _, _, he, _, hd, h1, _⟩ := id fl3
        have fin : wpAny (model X.prog X.w) X.A (setFlight (.ref a) X.env.frame) (fun _ s4 => wpAny (model X.prog X.w) X.A (throw (.ref a) : Sem Flow) (SP X pins D) X.xe s4) X.xe { s' with heap := h3 } := by
          rw [hf]
          refine HandSPX.setFlight_upZ fl3 fun h4 hh4 up4 => wpAny_throw (tk _ _ ⟨a, B, sI, pins, σ', H', cls, d, rfl, J, nb, (up.trans up3).trans up4, .inr (.inr (by rw [hs]; exact hh4)), na, os, ag, w⟩)
        unfold PySem.passOn
        refine wpAny_bind (wpAny_field he hd h1 ?_)
        rw [if_neg (show ¬ ((Value.ref T == Value.none) = true) from by simp)]
        first | exact wpAny_bind (wpAny_pure (wpAny_bind fin)) | exact wpAny_bind fin
      | @cons x c ts b₀ suite np pos' hds2 l2 hc hsu r ih =>
        rintro ⟨b, hb1, hyes, hno⟩
        refine wpAny_handleBy_cons (codeAny_handlers_test ?_) (by intro q; cases q)
        refine test hc ((PySem.W.exm_one (M := model X.prog X.w) J3.kIn LT hb1).here ?_)
        cases b with
        | false => exact ih (hno rfl)
        | true =>
          refine codeAny_handlers_suite (HandSPX.lands_againZ fl3 fun h4 fl4 up4 => ?_)
          have J4 : Inv X pins σ' H' { s' with heap := h4 } := J.landed nb fl4.1 ((up.trans up3).trans up4) os ag
          obtain ⟨oe4, vs4, he4, hz4, hd4⟩ := fl4.there
          refine wpAny_mono ((hsu a oe4 cls d (X.pn ++ pins) hz4 ⟨_, hd4⟩).run [] _ _ H' _ (J4.suite he4 hd4 na nL nF) (hyes rfl a na)) (fun f s6 hsp => ?_) (fun _ _ z => False.elim z)
          match f, hsp with
          | .next, ⟨_, _, S6, q6⟩ => exact ⟨_, _, S6.unsuite ok, q6⟩
          | .brk, ⟨_, _, S6, q6⟩ => exact ⟨_, _, S6.unsuite ok, q6⟩
          | .cont, ⟨_, _, S6, q6⟩ => exact ⟨_, _, S6.unsuite ok, q6⟩
          | .ret u, ⟨_, _, _, S6, r6, q6⟩ => exact ⟨_, _, _, S6.unsuite ok, r6, q6⟩
      | @as x n i c ts b₀ suite np pos' hds2 l2 hc hi hln hsu r ih =>
        rintro ⟨b, hb1, hyes, hno⟩
        refine wpAny_handleBy_cons (codeAny_handlers_test ?_) (by intro q; cases q)
        refine test hc ((PySem.W.exm_one (M := model X.prog X.w) J3.kIn LT hb1).here ?_)
        cases b with
        | false => exact ih (hno rfl)
        | true =>
          refine codeAny_handlers_suite_as (HandSPX.lands_againZ fl3 fun h4 fl4 up4 => ?_)
          have J4 : Inv X pins σ' H' { s' with heap := h4 } := J.landed nb fl4.1 ((up.trans up3).trans up4) os ag
          obtain ⟨oe4, vs4, he4, hz4, hd4⟩ := fl4.there
          refine store_ok (X := X.suite a ((a, oe4) :: (X.pn ++ pins))) (v := .ref a) (J4.suite he4 hd4 na nL nF) hN hi (.inl hln) rfl (fun s5 S5 => ?_) (.inr hln)
          refine wpAny_mono ((hsu a oe4 cls d (X.pn ++ pins) hz4 ⟨_, hd4⟩).run [] s5 _ H' _ S5 (hyes rfl a na)) (fun f s6 hsp => ?_) (fun _ _ z => False.elim z)
          have end_ : ∀ {σ6 : L2.St} {H6 : Hp} {Q : Shared → Prop}, Inv (X.suite a ((a, oe4) :: (X.pn ++ pins))) [] σ6 H6 s6 → (∀ s7, Inv X pins (σ6.set i none) H6 s7 → Q s7) →
              wpAny (model X.prog X.w) X.A (do bindName X.env n .none; unbindBehindTheSuite X.env n pos') (fun _ s7 => Q s7) X.xe s6 := fun S6 hq => gone_ok (S6.unsuite ok) hN hi hln hq
          match f, hsp with
          | .next, ⟨_, _, S6, q6⟩ => exact end_ S6 fun s7 J7 => ⟨_, _, J7, q6⟩
          | .brk, ⟨_, _, S6, q6⟩ => exact end_ S6 fun s7 J7 => ⟨_, _, J7, q6⟩
          | .cont, ⟨_, _, S6, q6⟩ => exact end_ S6 fun s7 J7 => ⟨_, _, J7, q6⟩
          | .ret u, ⟨_, _, _, S6, r6, q6⟩ => exact end_ S6 fun s7 J7 => ⟨_, _, _, J7, r6, q6⟩
    exact go hh w
  · match f, hsp with
    | .next, ⟨σ', H', J', q⟩ => exact wpAny_execs_nil ⟨σ', H', J'.ofTry ok, q⟩
    | .brk, ⟨σ', H', J', q⟩ => exact ⟨σ', H', J'.ofTry ok, q⟩
    | .cont, ⟨σ', H', J', q⟩ => exact ⟨σ', H', J'.ofTry ok, q⟩
    | .ret u, ⟨v, σ', H', J', r, q⟩ => exact ⟨v, σ', H', J'.ofTry ok, r, q⟩
end
/-- e.f of a pinned error -/
def Pin (X : Cx) (a : Addr) (cls : Value) (d : Option Addr) : Prop := ∃ oe, (a, oe) ∈ X.pn ∧ Zc cls d oe ∧ ∃ vs, oe.data = .fields vs
def tPf (X : Cx) (n : Str) (te : TE) : TE := fun σ H Q => te σ H fun x H1 => ∃ (a C dd : Addr) (fs : List (Str × V)) (v : V), x = .ref a ∧ Pin X a (.ref C) (some dd) ∧ XfC X.K C ∧ PySem.W.findIn X.K (.ref C) n = some none ∧ H1 dd = some (.xd fs) ∧ fs.lookup n = some v ∧ Q v H1
theorem pe_pf {X : Cx} {e : Expr} {te : TE} {pos : Pos} {n : Str} (he : PE X e te) (hb : attributeBase e n X.env (eval e X.env) = eval e X.env := by rfl) : PE X (.Attribute e n pos) (tPf X n te) := by
  constructor
  intro pins s σ H Q I h
  refine attr_of hb (thn (he.run pins s σ H _ I h) fun u s1 hh => ?_)
  obtain ⟨x, H1, I1, rx, a, C, dd, fs, v, rfl, ⟨oe, hp, hz, vs, hd⟩, T, hno, ea, l, q⟩ := hh
  obtain rfl : u = Value.ref a := rx
  obtain ⟨ha, _⟩ := I1.pin (a, oe) (List.mem_append_left _ hp)
  obtain ⟨mA, hns, hr⟩ := (show ObjOk X.prog X.w H1 s1.heap dd (.xd fs) from I1.hok dd _ ea)
  obtain ⟨od, ho, hl⟩ := lookIn_ns hns
  have hrn := hr n
  rw [l] at hrn
  obtain ⟨u, hu, ru⟩ := RelO.some_of (v := v) (o := mA n) hrn
  have J : PySem.W.InstAt s1.heap a oe C (some od) := ⟨ha, hz.1, by unfold PySem.W.notCls; rw [hd] <;> rfl, by rw [hz.2]; exact ho⟩
  exact HandSPX.exc_get I1.kIn J T.ga T.gg T.exC (PySem.W.findObj_own T.hdC hno rfl (by rw [hl, hu])) (handed_of ru) ⟨v, H1, I1.tok _, ru, q⟩
end W2

namespace W2
open PySem PySem.Spec PyProof.Rows L2
theorem Rg.units {A : Around} (h : Rg A) : A.units + 64 < cLine := by have := h.un; omega
/-! ### a def that raises nothing -/
abbrev FnG := FnX
section
variable {P : Program} {w : World} {K : PySem.W.Frag} {mg : Str → Option Value} {base : Heap}
theorem fnG_of {x qual : Str} {st : Stmt} {f : Addr} {fd : FuncData} {N ps : List Str} {k : Nat} {sp : Sp} (F : Fun K x qual st f fd) (S : FnScope N ps (defScope st)) (len : ∀ vs H Q E, sp vs H Q E → vs.length = ps.length)
    (body : ∀ (c : Value) (A : Around) (o : List Env) (s : Shared) (H : Hp) (vs : List V) (Q : VK) (E : XK), Rm k (A.deeper (envOfC qual (defScope st) s.heap.objs.size f c)) → sp vs H Q E →
      ∃ t, PSs (cxOf (L2.CX P w) P w K mg base N qual (defScope st) f c A o s H E).nox (defBody st) t ∧ t { nx := fun _ H' => Q .non H', rt := Q } (start N vs) H) : FnG P w K mg base (k + 1) f fd ps sp :=
  fnX_of F S len fun c A o s H vs Q E hr h => let ⟨t, a, b⟩ := body c A o s H vs Q E hr h; ⟨t, a.nox, b⟩
end
section
variable {X : Cx} {k : Nat} {f : Addr} {fd : FuncData} {ps : List Str} {sp : Sp} {x : Str} {p pos : Pos} {e : Expr} {es : List Expr} {t : TA}
theorem run_G {pins : List (Addr × Obj)} {σ : L2.St} {H : Hp} {s : Shared} {Q : VK} {us : List Value} {vs : List V} (F : FnG X.prog X.w X.K X.mg X.base k f fd ps sp) (hr : Rm k X.A) (hb : Binds X.K fd ps []) (I : Inv X pins σ H s) (r : Vals vs us) (h : sp vs H Q E0) :
    wpAny (model X.prog X.w) X.A (call (.ref f) us) (EP X pins σ Q) X.xe s := run_Xc F hr takes_none5 hb I r h
theorem pe_G (F : FnG X.prog X.w X.K X.mg X.base k f fd ps sp) (hr : Rm k X.A) (hg : Gl X x) (hm : X.mg x = some (.ref f)) (hk : PySem.W.keepIn X.K (.ref f) = true) (hb : Binds X.K fd ps []) (ha : PA X (e :: es) t)
    (hdb : (x == ("__debug__" : Str)) = false := by decide) (he : starEach (e :: es) X.env = (false, eval e X.env) :: starEach es X.env := by rfl) (hpl : (backTo pos (starEach es X.env)).any (·.1) = false := by rfl) :
    PE X (.Call (.Name x p) (e :: es) [] pos) (fun σ H Q => t σ H fun vs H1 => sp vs H1 Q E0) := pe_X F hr takes_none5 hg hm hk hb ha hdb he hpl
end
end W2

namespace W2
open PySem PySem.Spec PyProof.Rows L2
/-! ### try: the error that a clause has caught is a thing that stays -/
def EO (a : Addr) (oe : Obj) : HO := .frz oe (.ext fun h => h.get? a = some oe)
theorem eO_ok {P : Program} {w : World} {H : Hp} {h : Heap} {a : Addr} {oe : Obj} (e : h.get? a = some oe) : ObjOk P w H h a (EO a oe) := ⟨e, e, ⟨oe, e⟩, fun _ _ q k => k _ q⟩
section
variable {X : Cx} {pins : List (Addr × Obj)} {σ : L2.St} {H : Hp} {s sI s' : Shared} {B : Heap}
theorem Inv.suiteF (I : L2.Inv X pins σ H s) (a : Addr) : L2.Inv (X.suite a (X.pn ++ pins)) [] σ H s :=
  ⟨I.ok.suite _ _, I.os, I.bare, I.base, I.loc, I.cell, I.free, I.freeC, fun p hp => I.pin p (by rw [List.append_nil] at hp; exact hp), I.hok, I.len⟩
theorem Inv.unsuiteF {a : Addr} {pn' : List (Addr × Obj)} (I : L2.Inv (X.suite a (X.pn ++ pins)) pn' σ H s) (ok : X.Ok) : L2.Inv X pins σ H s :=
  ⟨ok, I.os, I.bare, I.base, I.loc, I.cell, I.free, I.freeC, fun p hp => I.pin p (List.mem_append_left _ hp), I.hok, I.len⟩
theorem Inv.landF {a : Addr} {oe : Obj} {h4 : Heap} (J : L2.Inv X pins σ H sI) (nb : ∀ b o, sI.heap.get? b = some o → b ∉ frs X.stack → B.get? b = some o) (st : B.StaysIn h4) (hB : B.get? a = none) (up : sI.heap.UpToSlots h4) (os : s'.os = sI.os) (ag : AllBare s'.gens)
    (nfr : a ∉ frs X.stack) (na : H a = none) (he : h4.get? a = some oe) : L2.Inv X pins σ (upd H a (EO a oe)) { s' with heap := h4 } := by
  obtain ⟨G, g1, g2⟩ := restrict h4 fun b => decide (b ≠ a)
  have gk : ∀ b, b ≠ a → G.get? b = h4.get? b := fun b hb => g1 b (decide_eq_true hb)
  have ga : G.get? a = none := g2 a (by simp)
  have nI : ∀ b o, sI.heap.get? b = some o → b ≠ a := fun b o e q => by
    subst q
    rw [nb b o e nfr] at hB
    cases hB
  have JG := J.landed (s' := { s' with heap := G }) nb (fun b o e => by
    have hb : b ≠ a := fun q => by rw [q, hB] at e; cases e
    show G.get? b = some o
    rw [gk b hb]; exact st b o e) (fun b o e d => by
    obtain ⟨sl, q⟩ := up b o e d
    exact ⟨sl, by show G.get? b = _; rw [gk b (nI b o e)]; exact q⟩) os ag
  exact JG.laidN (h' := h4) (t' := s'.toks) (fun b u e => by
    have e' : G.get? b = some u := e
    have hb : b ≠ a := fun q => by rw [q, ga] at e'; cases e'
    rw [← gk b hb]; exact e') ga na (eO_ok he)
end
abbrev TsF := Value → Option Addr → TS
structure ClF where
  c : Value
  i : Option Nat
  ts : TsF
/-- what is wanted behind a suite: the clause's name is gone -/
def dropF (D : Ends) : Option Nat → Ends
  | none => D
  | some i => { nx := fun σ H => D.nx (σ.set i none) H, rt := D.rt, bk := fun σ H => D.bk (σ.set i none) H, ct := fun σ H => D.ct (σ.set i none) H }
def setF (σ : L2.St) (a : Addr) : Option Nat → L2.St
  | none => σ
  | some i => σ.set i (some (.ref a))
def wClF (K : PySem.W.Frag) (Wout : WX) (D : Ends) : List ClF → WX
  | [] => Wout
  | l :: r => fun cls d σ H => ∃ b, PySem.W.exmOne K cls l.c = some b ∧ (b = true → ∀ a oe, H a = none → Zc cls d oe → (∃ vs, oe.data = .fields vs) → l.ts cls d (dropF D l.i) (setF σ a l.i) (upd H a (EO a oe))) ∧ (b = false → wClF K Wout D r cls d σ H)
inductive ClsOkF (X : Cx) : List ExceptHandler → List ClF → Prop
  | nil : ClsOkF X [] []
  | cons {x : Str} {c : Value} {ts : TsF} {b₀ : Stmt} {suite : List Stmt} {np pos' : Pos} {hds : List ExceptHandler} {l : List ClF} (hc : Names X x c)
      (hsu : ∀ (a : Addr) (cls : Value) (d : Option Addr) (pn : List (Addr × Obj)), PSs (X.suite a pn) (b₀ :: suite) (ts cls d)) (r : ClsOkF X hds l) :
      ClsOkF X (.ExceptHandler (some (.Name x np)) none (b₀ :: suite) pos' :: hds) (⟨c, none, ts⟩ :: l)
  | as {x n : Str} {i : Nat} {c : Value} {ts : TsF} {b₀ : Stmt} {suite : List Stmt} {np pos' : Pos} {hds : List ExceptHandler} {l : List ClF} (hc : Names X x c) (hi : X.N[i]? = some n) (hln : X.env.kindOf n = some .local)
      (hsu : ∀ (a : Addr) (cls : Value) (d : Option Addr) (pn : List (Addr × Obj)), PSs (X.suite a pn) (b₀ :: suite) (ts cls d)) (r : ClsOkF X hds l) :
      ClsOkF X (.ExceptHandler (some (.Name x np)) (some n) (b₀ :: suite) pos' :: hds) (⟨c, some i, ts⟩ :: l)
section
variable {X : Cx} {body : List Stmt} {h₀ : ExceptHandler} {hds : List ExceptHandler} {l : List ClF} {pos : Pos} {tb : WX → TS} {Wout : WX}
theorem ps_tryF (hs : X.stack = X.env :: X.outer) (hf : X.env.frame = some X.env.locals) (hN : X.N.Nodup) (tk : Takes X Wout)
    (hb : ∀ (W : WX) (pn : List (Addr × Obj)) (xe : Value → Shared → Prop), Takes (X.tr pn xe) W → PassesOwn (model X.prog X.w) X.A X.env xe → PSs (X.tr pn xe) body (tb W)) (hh : ClsOkF X (h₀ :: hds) l) :
    PS X (.Try body (h₀ :: hds) [] [] pos) (fun D σ H => tb (wClF X.K Wout D l) D σ H) := by
  constructor
  intro pins s σ H D I h
  have ok := I.ok
  have hfr : X.A.frames = some (X.env :: X.outer) := by rw [ok.frames, hs]
  refine wpAny_Try_except (wpAny_mono ((hb (wClF X.K Wout D l) (X.pn ++ pins) (fun e s₁ => wpAny (model X.prog X.w) X.A (noteFrame e X.env) (fun _ s₂ => wpAny (model X.prog X.w) X.A (setFlight e none)
    (fun _ s₃ => wpAny (model X.prog X.w) X.A (handleBy e X.env (h₀ :: hds)) (SP X pins D) X.xe s₃) X.xe s₂) X.xe s₁) (fun u s' xx => ?_) PassesOwn.looking).run [] s σ H D (I.toTry _) h) (fun f s1 hsp => ?_) (fun e s1 he => he))
  · obtain ⟨a, B, sI, pins', σ', H', cls, d, rfl, J', nb, up, sky, na, os, ag, w⟩ := xx
    have J : L2.Inv X pins σ' H' sI := J'.ofTry ok
    have sky' : Sky B (X.env :: X.outer) a (Zc cls d) X.env.locals s'.heap := hs ▸ sky
    show wpAny (model X.prog X.w) X.A (noteFrame (.ref a) X.env) _ _ _
    refine Sky.land Zc.steady hfr hf sky' fun h3 fl3 up3 => ?_
    have J3 : L2.Inv X pins σ' H' { s' with heap := h3 } := J.landed nb fl3.1 (up.trans up3) os ag
    obtain ⟨oe3, vs3, he3, hz3, hd3⟩ := fl3.there
    have nfr : a ∉ frs (X.env :: X.outer) := fun hm => by
      obtain ⟨_, o', e', hnf⟩ := fl3.2.2.1.mem hm
      rw [he3] at e'
      cases e'
      exact hnf _ hd3
    have nL : a ≠ X.env.locals := fun z => nfr (List.mem_filterMap.mpr ⟨X.env, List.mem_cons_self, by rw [hf, z]⟩)
    have nF : a ∉ X.fs := fun hm => by
      obtain ⟨e, he, q⟩ := List.mem_filterMap.mp hm
      exact nfr (List.mem_filterMap.mpr ⟨e, List.mem_cons_of_mem _ he, q⟩)
    have S3 := Inv.suiteF J3 a
    have LT : PySem.W.Looks (model X.prog X.w) h3 (typeOf (.ref a)) cls := fun A Q E s k q => wpAny_typeOf_ref (k _ _ he3) (by rw [hz3.1]; exact q)
    have test : ∀ {x : Str} {c : Value} {np : Pos} {Q : Value → Shared → Prop} {E : Value → Shared → Prop}, Names X x c → Q c { s' with heap := h3 } → wpAny (model X.prog X.w) (X.A.mark (some (.ref a))) (eval (.Name x np) X.env) Q E { s' with heap := h3 } := by
      intro x c np Q E hc q
      obtain ⟨hg, hdbg, hm | ⟨hm, hv, hnn⟩⟩ := hc
      · exact ld_glob (X := X.suite a (X.pn ++ pins)) S3 hg hm q hdbg
      · exact ld_blt (X := X.suite a (X.pn ++ pins)) S3 hg hm hv q hnn hdbg
    have go : ∀ {hds' : List ExceptHandler} {l' : List ClF}, ClsOkF X hds' l' → wClF X.K Wout D l' cls d σ' H' → wpAny (model X.prog X.w) X.A (handleBy (.ref a) X.env hds') (SP X pins D) X.xe { s' with heap := h3 } := by
      intro hds' l' hk
      induction hk with
      | nil =>
        intro w
        refine wpAny_handleBy_nil ?_
        obtain ⟨_, _, _, oe, vs, T, _, _, he, _, hd, h1, _⟩ := id fl3
        have fin : wpAny (model X.prog X.w) X.A (setFlight (.ref a) X.env.frame) (fun _ s4 => wpAny (model X.prog X.w) X.A (throw (.ref a) : Sem Flow) (SP X pins D) X.xe s4) X.xe { s' with heap := h3 } := by
          rw [hf]
          refine HandSPX.setFlight_upZ fl3 fun h4 hh4 up4 => wpAny_throw (tk _ _ ⟨a, B, sI, pins, σ', H', cls, d, rfl, J, nb, (up.trans up3).trans up4, .inr (.inr (by rw [hs]; exact hh4)), na, os, ag, w⟩)
        unfold PySem.passOn
        refine wpAny_bind (wpAny_field he hd h1 ?_)
        rw [if_neg (show ¬ ((Value.ref T == Value.none) = true) from by simp)]
        first | exact wpAny_bind (wpAny_pure (wpAny_bind fin)) | exact wpAny_bind fin
      | @cons x c ts b₀ suite np pos' hds2 l2 hc hsu r ih =>
        rintro ⟨b, hb1, hyes, hno⟩
        refine wpAny_handleBy_cons (codeAny_handlers_test ?_) (by intro q; cases q)
        refine test hc ((PySem.W.exm_one (M := model X.prog X.w) J3.kIn LT hb1).here ?_)
        cases b with
        | false => exact ih (hno rfl)
        | true =>
          refine codeAny_handlers_suite (HandSPX.lands_againZ fl3 fun h4 fl4 up4 => ?_)
          obtain ⟨oe4, vs4, he4, hz4, hd4⟩ := fl4.there
          have J4 : L2.Inv X pins σ' (upd H' a (EO a oe4)) { s' with heap := h4 } := Inv.landF J nb fl4.1 fl4.2.1 ((up.trans up3).trans up4) os ag (hs ▸ nfr) na he4
          refine wpAny_mono ((hsu a cls d (X.pn ++ pins)).run [] _ _ _ _ (Inv.suiteF J4 a) (hyes rfl a oe4 na hz4 ⟨_, hd4⟩)) (fun f s6 hsp => ?_) (fun _ _ z => False.elim z)
          match f, hsp with
          | .next, ⟨_, _, S6, q6⟩ => exact ⟨_, _, Inv.unsuiteF S6 ok, q6⟩
          | .brk, ⟨_, _, S6, q6⟩ => exact ⟨_, _, Inv.unsuiteF S6 ok, q6⟩
          | .cont, ⟨_, _, S6, q6⟩ => exact ⟨_, _, Inv.unsuiteF S6 ok, q6⟩
          | .ret u, ⟨_, _, _, S6, r6, q6⟩ => exact ⟨_, _, _, Inv.unsuiteF S6 ok, r6, q6⟩
      | @as x n i c ts b₀ suite np pos' hds2 l2 hc hi hln hsu r ih =>
        rintro ⟨b, hb1, hyes, hno⟩
        refine wpAny_handleBy_cons (codeAny_handlers_test ?_) (by intro q; cases q)
        refine test hc ((PySem.W.exm_one (M := model X.prog X.w) J3.kIn LT hb1).here ?_)
        cases b with
        | false => exact ih (hno rfl)
        | true =>
          refine codeAny_handlers_suite_as (HandSPX.lands_againZ fl3 fun h4 fl4 up4 => ?_)
          obtain ⟨oe4, vs4, he4, hz4, hd4⟩ := fl4.there
          have J4 : L2.Inv X pins σ' (upd H' a (EO a oe4)) { s' with heap := h4 } := Inv.landF J nb fl4.1 fl4.2.1 ((up.trans up3).trans up4) os ag (hs ▸ nfr) na he4
          refine store_ok (X := X.suite a (X.pn ++ pins)) (v := .ref a) (Inv.suiteF J4 a) hN hi (.inl hln) rfl (fun s5 S5 => ?_) (.inr hln)
          refine wpAny_mono ((hsu a cls d (X.pn ++ pins)).run [] s5 _ _ _ S5 (hyes rfl a oe4 na hz4 ⟨_, hd4⟩)) (fun f s6 hsp => ?_) (fun _ _ z => False.elim z)
          have end_ : ∀ {σ6 : L2.St} {H6 : Hp} {Q : Shared → Prop}, L2.Inv (X.suite a (X.pn ++ pins)) [] σ6 H6 s6 → (∀ s7, L2.Inv X pins (σ6.set i none) H6 s7 → Q s7) →
              wpAny (model X.prog X.w) X.A (do bindName X.env n .none; unbindBehindTheSuite X.env n pos') (fun _ s7 => Q s7) X.xe s6 := fun S6 hq => gone_ok (Inv.unsuiteF S6 ok) hN hi hln hq
          match f, hsp with
          | .next, ⟨_, _, S6, q6⟩ => exact end_ S6 fun s7 J7 => ⟨_, _, J7, q6⟩
          | .brk, ⟨_, _, S6, q6⟩ => exact end_ S6 fun s7 J7 => ⟨_, _, J7, q6⟩
          | .cont, ⟨_, _, S6, q6⟩ => exact end_ S6 fun s7 J7 => ⟨_, _, J7, q6⟩
          | .ret u, ⟨_, _, _, S6, r6, q6⟩ => exact end_ S6 fun s7 J7 => ⟨_, _, _, J7, r6, q6⟩
    exact go hh w
  · match f, hsp with
    | .next, ⟨σ', H', J', q⟩ => exact wpAny_execs_nil ⟨σ', H', J'.ofTry ok, q⟩
    | .brk, ⟨σ', H', J', q⟩ => exact ⟨σ', H', J'.ofTry ok, q⟩
    | .cont, ⟨σ', H', J', q⟩ => exact ⟨σ', H', J'.ofTry ok, q⟩
    | .ret u, ⟨v, σ', H', J', r, q⟩ => exact ⟨v, σ', H', J'.ofTry ok, r, q⟩
end
end W2

namespace M
open PySem PySem.Spec L2 W2

/-! ### values as data; `ref j`: the j-th thing of the store; `err`: an error with its fields -/
inductive D where
  | non | bl (b : Bool) | int (i : Int) | str (x : Str)
  | lst (xs : List D) | tup (xs : List D) | dct (kvs : List (Key × D))
  | ref (j : Nat) | fn (x : Str) | ty (n : String) | seq (xs : List D) | cls (x : Str) | err (cn : Str) (fs : List (Str × D))
/-- a thing that may change -/
inductive Ob where
  | lst (xs : List D) | dct (kvs : List (Key × D)) | ins (cn : Str) (fs : List (Str × D))
abbrev Sto := List Ob
abbrev En := List (Option D)
abbrev Fs := List (Str × D)
structure Cfg where
  π : Nat → Addr
  S : Sto
  T : Addr → Prop
  H : Hp
def Cfg.Rg (c : Cfg) (a : Addr) : Prop := ∃ j, j < c.S.length ∧ c.π j = a
def Cfg.B (c : Cfg) (a : Addr) : Prop := c.Rg a ∨ c.T a
def Hn : Hp := fun _ => none
/-- an error that stays: made here, or named by an except clause -/
def ErrAt (H : Hp) (a C : Addr) (od : Option Addr) : Prop := H a = some (exo a C od) ∨ ∃ oe u, H a = some (.frz oe u) ∧ Zc (.ref C) od oe ∧ ∃ w, oe.data = .fields w
def ErrD (c : Cfg) (od : Option Addr) (vs : List (Str × V)) : Prop := match od with
  | none => vs = []
  | some dd => ¬ c.B dd ∧ (c.H dd = some (exd dd vs) ∨ c.H dd = some (.xd vs))
section
variable (K : PySem.W.Frag) (mg : Str → Option Value)
def Sl (c : Cfg) (a : Addr) (xs : List V) : Prop := (¬ c.B a ∧ Rd c.H a (.lst xs)) ∨ SqL K Hn a xs
def Ll (c : Cfg) (a : Addr) (xs : List V) : Prop := ¬ c.B a ∧ Rd c.H a (.lst xs)
def Tl (c : Cfg) (a : Addr) (xs : List V) : Prop := (¬ c.B a ∧ Rd c.H a (.tup xs)) ∨ SqT K Hn a xs
mutual
inductive Den (c : Cfg) : V → D → Prop
  | non : Den c .non .non
  | bl (b : Bool) : Den c (.bl b) (.bl b)
  | int (i : Int) : Den c (.int i) (.int i)
  | str (x : Str) : Den c (.str x) (.str x)
  | lst {a : Addr} {xs : List V} {ds : List D} : Ll c a xs → DenA c xs ds → Den c (.ref a) (.lst ds)
  | seq {a : Addr} {xs : List V} {ds : List D} : Sl K c a xs → DenA c xs ds → Den c (.ref a) (.seq ds)
  | tup {a : Addr} {xs : List V} {ds : List D} : Tl K c a xs → DenA c xs ds → Den c (.ref a) (.tup ds)
  | dct {a : Addr} {xs : List (Key × V)} {ds : List (Key × D)} : ¬ c.B a → c.H a = some (.dK xs) → DenK c xs ds → Den c (.ref a) (.dct ds)
  | ref {j : Nat} : j < c.S.length → Den c (.ref (c.π j)) (.ref j)
  | fn {x : Str} {f : Addr} : mg x = some (.ref f) → Den c (.ref f) (.fn x)
  | ty (n : String) : Den c (.ty n) (.ty n)
  | cls {x : Str} {f : Addr} : mg x = some (.ref f) → Den c (.ref f) (.cls x)
  | err {a C : Addr} {od : Option Addr} {vs : List (Str × V)} {cn : Str} {fs : List (Str × D)} : ¬ c.B a → mg cn = some (.ref C) → ErrAt c.H a C od → ErrD c od vs → DenF c vs fs → Den c (.ref a) (.err cn fs)
inductive DenA (c : Cfg) : List V → List D → Prop
  | nil : DenA c [] []
  | cons {v : V} {vs : List V} {d : D} {ds : List D} : Den c v d → DenA c vs ds → DenA c (v :: vs) (d :: ds)
inductive DenK (c : Cfg) : List (Key × V) → List (Key × D) → Prop
  | nil : DenK c [] []
  | cons {k : Key} {v : V} {vs : List (Key × V)} {d : D} {ds : List (Key × D)} : Den c v d → DenK c vs ds → DenK c ((k, v) :: vs) ((k, d) :: ds)
inductive DenF (c : Cfg) : List (Str × V) → List (Str × D) → Prop
  | nil : DenF c [] []
  | cons {k : Str} {v : V} {vs : List (Str × V)} {d : D} {ds : List (Str × D)} : Den c v d → DenF c vs ds → DenF c ((k, v) :: vs) ((k, d) :: ds)
end
end
/-- growth -/
structure Le (c c' : Cfg) : Prop where
  len : c.S.length ≤ c'.S.length
  pi : ∀ j, j < c.S.length → c'.π j = c.π j
  keep : ∀ a o, ¬ c.Rg a → c.H a = some o → c'.H a = some o ∧ ¬ c'.Rg a
  T : c'.T = c.T
theorem Le.refl (c : Cfg) : Le c c := ⟨Nat.le_refl _, fun _ _ => rfl, fun _ _ n h => ⟨h, n⟩, rfl⟩
theorem Le.trans {a b c : Cfg} (x : Le a b) (y : Le b c) : Le a c where
  len := Nat.le_trans x.len y.len
  pi := fun j h => (y.pi j (Nat.lt_of_lt_of_le h x.len)).trans (x.pi j h)
  keep := fun p o n h => let ⟨h1, n1⟩ := x.keep p o n h; y.keep p o n1 h1
  T := y.T.trans x.T
structure Lw (c c' : Cfg) : Prop where
  len : c.S.length ≤ c'.S.length
  pi : ∀ j, j < c.S.length → c'.π j = c.π j
  nB : ∀ a o, ¬ c.B a → c.H a = some o → c'.H a = some o ∧ ¬ c'.B a
theorem Lw.refl (c : Cfg) : Lw c c := ⟨Nat.le_refl _, fun _ _ => rfl, fun _ _ n h => ⟨h, n⟩⟩
theorem Lw.trans {a b c : Cfg} (x : Lw a b) (y : Lw b c) : Lw a c where
  len := Nat.le_trans x.len y.len
  pi := fun j h => (y.pi j (Nat.lt_of_lt_of_le h x.len)).trans (x.pi j h)
  nB := fun p o n h => let ⟨h1, n1⟩ := x.nB p o n h; y.nB p o n1 h1
theorem Le.lw {c c' : Cfg} (e : Le c c') : Lw c c' := ⟨e.len, e.pi, fun a o n h => by
  obtain ⟨h1, n1⟩ := e.keep a o (fun q => n (.inl q)) h
  exact ⟨h1, fun q => q.elim n1 fun q => n (.inr (by rw [← e.T]; exact q))⟩⟩
section
variable {K : PySem.W.Frag} {mg : Str → Option Value} {c c' : Cfg}
theorem Sl.get {a : Addr} {xs : List V} (h : Sl K c a xs) : SqL K c.H a xs := h.elim (fun h => .inl h.2) fun h => h.elim (fun h => h.elim (fun z => nomatch z) fun ⟨_, z⟩ => nomatch z) .inr
theorem Ll.get {a : Addr} {xs : List V} (h : Ll c a xs) : SqL K c.H a xs := .inl h.2
theorem Tl.get {a : Addr} {xs : List V} (h : Tl K c a xs) : SqT K c.H a xs := h.elim (fun h => .inl h.2) fun h => h.elim (fun h => h.elim (fun z => nomatch z) fun ⟨_, z⟩ => nomatch z) .inr
theorem Lw.rd {a : Addr} {o : HO} (e : Lw c c') (n : ¬ c.B a) (h : Rd c.H a o) : ¬ c'.B a ∧ Rd c'.H a o := by
  rcases h with h | ⟨ob, h⟩
  · obtain ⟨h1, h2⟩ := e.nB _ _ n h
    exact ⟨h2, .inl h1⟩
  · obtain ⟨h1, h2⟩ := e.nB _ _ n h
    exact ⟨h2, .inr ⟨ob, h1⟩⟩
theorem Sl.mw {a : Addr} {xs : List V} (e : Lw c c') (h : Sl K c a xs) : Sl K c' a xs := h.elim (fun h => .inl (e.rd h.1 h.2)) .inr
theorem Ll.mw {a : Addr} {xs : List V} (e : Lw c c') (h : Ll c a xs) : Ll c' a xs := e.rd h.1 h.2
theorem Tl.mw {a : Addr} {xs : List V} (e : Lw c c') (h : Tl K c a xs) : Tl K c' a xs := h.elim (fun h => .inl (e.rd h.1 h.2)) .inr
theorem Lw.err {a C : Addr} {od : Option Addr} (e : Lw c c') (n : ¬ c.B a) (h : ErrAt c.H a C od) : ¬ c'.B a ∧ ErrAt c'.H a C od := by
  rcases h with h | ⟨oe, u, h, z⟩
  · obtain ⟨h1, h2⟩ := e.nB _ _ n h
    exact ⟨h2, .inl h1⟩
  · obtain ⟨h1, h2⟩ := e.nB _ _ n h
    exact ⟨h2, .inr ⟨oe, u, h1, z⟩⟩
theorem Lw.errD {od : Option Addr} {vs : List (Str × V)} (e : Lw c c') (h : ErrD c od vs) : ErrD c' od vs := by
  cases od with
  | none => exact h
  | some dd =>
    obtain ⟨n, h⟩ := h
    rcases h with h | h
    · obtain ⟨h1, h2⟩ := e.nB _ _ n h
      exact ⟨h2, .inl h1⟩
    · obtain ⟨h1, h2⟩ := e.nB _ _ n h
      exact ⟨h2, .inr h1⟩
mutual
theorem Den.mw (e : Lw c c') : ∀ {d : D} {v : V}, Den K mg c v d → Den K mg c' v d
  | .non, _, h => by cases h; exact .non
  | .bl b, _, h => by cases h; exact .bl b
  | .int i, _, h => by cases h; exact .int i
  | .str x, _, h => by cases h; exact .str x
  | .lst ds, _, h => by
    cases h with
    | lst s t => exact .lst (s.mw e) (DenA.mw e t)
  | .seq ds, _, h => by
    cases h with
    | seq s t => exact .seq (s.mw e) (DenA.mw e t)
  | .tup ds, _, h => by
    cases h with
    | tup s t => exact .tup (s.mw e) (DenA.mw e t)
  | .dct ds, _, h => by
    cases h with
    | dct n s t => exact .dct (e.nB _ _ n s).2 (e.nB _ _ n s).1 (DenK.mw e t)
  | .ref j, _, h => by
    cases h with
    | ref l => rw [← e.pi j l]; exact .ref (Nat.lt_of_lt_of_le l e.len)
  | .fn x, _, h => by
    cases h with
    | fn m => exact .fn m
  | .ty n, _, h => by cases h; exact .ty n
  | .cls x, _, h => by
    cases h with
    | cls m => exact .cls m
  | .err cn fs, _, h => by
    cases h with
    | err n m e1 e2 q => exact .err (e.err n e1).1 m (e.err n e1).2 (e.errD e2) (DenF.mw e q)
theorem DenA.mw (e : Lw c c') : ∀ {ds : List D} {vs : List V}, DenA K mg c vs ds → DenA K mg c' vs ds
  | [], _, h => by cases h; exact .nil
  | d :: ds, _, h => by
    cases h with
    | cons a b => exact .cons (Den.mw e a) (DenA.mw e b)
theorem DenK.mw (e : Lw c c') : ∀ {ds : List (Key × D)} {vs : List (Key × V)}, DenK K mg c vs ds → DenK K mg c' vs ds
  | [], _, h => by cases h; exact .nil
  | (_, d) :: ds, _, h => by
    cases h with
    | cons a b => exact .cons (Den.mw e a) (DenK.mw e b)
theorem DenF.mw (e : Lw c c') : ∀ {ds : List (Str × D)} {vs : List (Str × V)}, DenF K mg c vs ds → DenF K mg c' vs ds
  | [], _, h => by cases h; exact .nil
  | (_, d) :: ds, _, h => by
    cases h with
    | cons a b => exact .cons (Den.mw e a) (DenF.mw e b)
end
theorem Den.mono (e : Le c c') {d : D} {v : V} (h : Den K mg c v d) : Den K mg c' v d := h.mw e.lw
theorem DenA.mono (e : Le c c') {ds : List D} {vs : List V} (h : DenA K mg c vs ds) : DenA K mg c' vs ds := h.mw e.lw
theorem DenK.mono (e : Le c c') {ds : List (Key × D)} {vs : List (Key × V)} (h : DenK K mg c vs ds) : DenK K mg c' vs ds := h.mw e.lw
theorem DenF.mono (e : Le c c') {ds : Fs} {vs : List (Str × V)} (h : DenF K mg c vs ds) : DenF K mg c' vs ds := h.mw e.lw
theorem DenA.length : ∀ {ds : List D} {vs : List V}, DenA K mg c vs ds → vs.length = ds.length
  | [], _, h => by cases h; rfl
  | d :: ds, _, h => by
    cases h with
    | cons a b => simp [DenA.length b]
theorem DenK.length : ∀ {ds : List (Key × D)} {vs : List (Key × V)}, DenK K mg c vs ds → vs.length = ds.length
  | [], _, h => by cases h; rfl
  | (_, d) :: ds, _, h => by
    cases h with
    | cons a b => simp [DenK.length b]
theorem DenA.app : ∀ {ds es : List D} {vs ws : List V}, DenA K mg c vs ds → DenA K mg c ws es → DenA K mg c (vs ++ ws) (ds ++ es)
  | [], _, _, _, h, q => by cases h; exact q
  | d :: ds, _, _, _, h, q => by
    cases h with
    | cons a b => exact .cons a (DenA.app b q)
theorem DenA.take (n : Nat) : ∀ {ds : List D} {vs : List V}, DenA K mg c vs ds → DenA K mg c (vs.take n) (ds.take n) := by
  induction n with
  | zero => intro ds vs _; simp only [List.take_zero]; exact .nil
  | succ n ih =>
    intro ds vs h
    cases h with
    | nil => exact .nil
    | cons a b => exact .cons a (ih b)
theorem DenA.drop (n : Nat) : ∀ {ds : List D} {vs : List V}, DenA K mg c vs ds → DenA K mg c (vs.drop n) (ds.drop n) := by
  induction n with
  | zero => intro ds vs h; simpa only [List.drop_zero] using h
  | succ n ih =>
    intro ds vs h
    cases h with
    | nil => exact .nil
    | cons a b => exact ih b
theorem DenA.get : ∀ {ds : List D} {vs : List V} {i : Nat} {d : D}, DenA K mg c vs ds → ds[i]? = some d → ∃ v, vs[i]? = some v ∧ Den K mg c v d
  | [], _, _, _, h, e => by cases h; simp at e
  | d :: ds, _, 0, _, h, e => by
    cases h with
    | cons a b => simp at e; subst e; exact ⟨_, rfl, a⟩
  | d :: ds, _, i + 1, _, h, e => by
    cases h with
    | cons a b =>
      obtain ⟨x, h1, h2⟩ := DenA.get (i := i) b (by simpa using e)
      exact ⟨x, by simpa using h1, h2⟩
theorem DenA.set {v : V} {d : D} (h : Den K mg c v d) : ∀ {ds : List D} {vs : List V} (i : Nat), DenA K mg c vs ds → DenA K mg c (vs.set i v) (ds.set i d)
  | [], _, _, q => by cases q; exact .nil
  | _ :: _, _, 0, q => by
    cases q with
    | cons a b => exact .cons h b
  | _ :: _, _, i + 1, q => by
    cases q with
    | cons a b => exact .cons a (DenA.set h i b)
def lkF (fs : Fs) (n : Str) : Option D := fs.lookup n
theorem DenF.get : ∀ {fs : List (Str × D)} {vs : List (Str × V)} {n : Str}, DenF K mg c vs fs → match fs.lookup n with
    | some d => ∃ v, vs.lookup n = some v ∧ Den K mg c v d
    | none => vs.lookup n = none
  | [], _, n, h => by cases h; rfl
  | (k, d) :: fs, _, n, h => by
    cases h with
    | @cons _ v vs _ _ a b =>
      by_cases e : n = k
      · subst e
        simp only [List.lookup, beq_self_eq_true]
        exact ⟨v, rfl, a⟩
      · have e2 : (n == k) = false := by simpa using e
        simp only [List.lookup, e2]
        exact DenF.get b

/-! ### a sound configuration -/
def ObR (K : PySem.W.Frag) (mg : Str → Option Value) (c : Cfg) (p : Addr) : Ob → Prop
  | .lst xs => ∃ vs, c.H p = some (.lst vs) ∧ DenA K mg c vs xs
  | .dct kvs => ∃ vs, c.H p = some (.dK vs) ∧ DenK K mg c vs kvs
  | .ins cn fs => ∃ C dx vs, mg cn = some (.ref C) ∧ c.H p = some (.ins C dx vs) ∧ c.H dx = some (.own p) ∧ DenF K mg c vs fs
structure Ok (K : PySem.W.Frag) (mg : Str → Option Value) (c : Cfg) : Prop where
  at_ : ∀ j o, c.S[j]? = some o → ObR K mg c (c.π j) o
  inj : ∀ i j, i < c.S.length → j < c.S.length → c.π i = c.π j → i = j
  nT : ∀ a, c.T a → ¬ c.Rg a ∧ ∃ xs, c.H a = some (.lst xs)
end
theorem lt_of_get {α : Type} {l : List α} {j : Nat} {x : α} (h : l[j]? = some x) : j < l.length := (List.getElem?_eq_some_iff.mp h).1
def isMu : HO → Bool
  | .lst _ => true
  | .dK _ => true
  | .ins _ _ _ => true
  | _ => false
section
variable {K : PySem.W.Frag} {mg : Str → Option Value} {c c' : Cfg}
theorem rg_mu (k : Ok K mg c) {a : Addr} (h : c.Rg a) : ∃ o, c.H a = some o ∧ isMu o = true := by
  obtain ⟨j, l, rfl⟩ := h
  have q := k.at_ j _ (List.getElem?_eq_getElem l)
  revert q
  cases c.S[j] with
  | lst xs => rintro ⟨vs, h, _⟩; exact ⟨_, h, rfl⟩
  | dct xs => rintro ⟨vs, h, _⟩; exact ⟨_, h, rfl⟩
  | ins cn fs => rintro ⟨C, dx, vs, _, h, _⟩; exact ⟨_, h, rfl⟩
theorem ok_some (k : Ok K mg c) {a : Addr} (h : c.Rg a) : c.H a ≠ none := by
  obtain ⟨o, e, _⟩ := rg_mu k h
  rw [e]; exact fun z => nomatch z
theorem not_rg (k : Ok K mg c) {a : Addr} {o : HO} (h : c.H a = some o) (n : isMu o = false) : ¬ c.Rg a := fun q => by
  obtain ⟨u, e, m⟩ := rg_mu k q
  rw [h] at e
  cases e
  rw [n] at m
  cases m
theorem Ok.nB (k : Ok K mg c) {p : Addr} (h : c.H p = none) : ¬ c.B p := fun q => q.elim (fun q => ok_some k q h) fun q => by
  obtain ⟨_, xs, e⟩ := k.nT p q
  rw [h] at e; cases e
theorem Ok.nBo (k : Ok K mg c) {p : Addr} {o : HO} (h : c.H p = some o) (n : isMu o = false) : ¬ c.B p := fun q => q.elim (not_rg k h n) fun q => by
  obtain ⟨_, xs, e⟩ := k.nT p q
  rw [h] at e; cases e; cases n
/-- a thing stays what it is where its own place is kept -/
theorem ob_mono (k : Ok K mg c) (e : Le c c') {p p' : Addr} {o : Ob} (hp : p' = p) (h : c'.H p = c.H p) (q : ObR K mg c p o) : ObR K mg c' p' o := by
  subst hp
  cases o with
  | lst xs =>
    obtain ⟨vs, h1, h2⟩ := q
    exact ⟨vs, h.trans h1, h2.mono e⟩
  | dct xs =>
    obtain ⟨vs, h1, h2⟩ := q
    exact ⟨vs, h.trans h1, h2.mono e⟩
  | ins cn fs =>
    obtain ⟨C, dx, vs, h0, h1, h3, h2⟩ := q
    exact ⟨C, dx, vs, h0, h.trans h1, (e.keep dx _ (not_rg k h3 rfl) h3).1, h2.mono e⟩
/-- a new thing that stays -/
def Cfg.lay (c : Cfg) (p : Addr) (o : HO) : Cfg := { c with H := upd c.H p o }
theorem lay_le {p : Addr} {o : HO} (h : c.H p = none) : Le c (c.lay p o) :=
  ⟨Nat.le_refl _, fun _ _ => rfl, fun a u n e => ⟨by show upd c.H p o a = _; rw [upd_ne (ne_of_none e h)]; exact e, n⟩, rfl⟩
theorem lay_ok (k : Ok K mg c) {p : Addr} {o : HO} (h : c.H p = none) : Ok K mg (c.lay p o) := by
  have pe : ∀ a u, c.H a = some u → (c.lay p o).H a = some u := fun a u e => (upd_ne (ne_of_none e h)).trans e
  refine ⟨fun j ob e => ?_, k.inj, fun a t => ⟨(k.nT a t).1, ?_⟩⟩
  · obtain ⟨u, e1, _⟩ := rg_mu k ⟨j, lt_of_get e, rfl⟩
    exact ob_mono k (lay_le h) rfl ((pe _ _ e1).trans e1.symm) (k.at_ j ob e)
  · obtain ⟨_, xs, e⟩ := k.nT a t
    exact ⟨xs, pe _ _ e⟩
/-- a new thing of the store: H' is as H but at fresh places -/
def Cfg.new (c : Cfg) (p : Addr) (ob : Ob) (H' : Hp) : Cfg := { c with π := fun j => if j = c.S.length then p else c.π j, S := c.S ++ [ob], H := H' }
theorem new_le {p : Addr} {ob : Ob} {H' : Hp} (h : c.H p = none) (hH : ∀ a u, c.H a = some u → H' a = some u) : Le c (c.new p ob H') := by
  refine ⟨by show _ ≤ (c.S ++ [_]).length; simp, fun j l => if_neg (by omega), fun a u n e => ⟨hH a u e, ?_⟩, rfl⟩
  rintro ⟨j, l, q⟩
  have l' : j < c.S.length + 1 := by simpa [Cfg.new] using l
  by_cases z : j = c.S.length
  · rw [show (c.new p ob H').π j = p from if_pos z] at q
    rw [q, e] at h; cases h
  · rw [show (c.new p ob H').π j = c.π j from if_neg z] at q
    exact n ⟨j, by omega, q⟩
theorem new_ok (k : Ok K mg c) {p : Addr} {ob : Ob} {H' : Hp} (h : c.H p = none) (hH : ∀ a u, c.H a = some u → H' a = some u) (d : ObR K mg (c.new p ob H') p ob) : Ok K mg (c.new p ob H') := by
  have le := new_le (ob := ob) h hH
  have old : ∀ i, i < c.S.length → c.π i ≠ p := fun i l q => ok_some k ⟨i, l, rfl⟩ (by rw [q]; exact h)
  refine ⟨fun j o e => ?_, fun i j hi hj q => ?_, fun a t => ⟨fun r => ?_, ?_⟩⟩
  · have e' : (c.S ++ [ob])[j]? = some o := e
    by_cases z : j < c.S.length
    · rw [List.getElem?_append_left z] at e'
      obtain ⟨u, e1, _⟩ := rg_mu k ⟨j, z, rfl⟩
      exact ob_mono k le (le.pi j z) ((hH _ _ e1).trans e1.symm) (k.at_ j o e')
    · have l := lt_of_get e'
      have z' : j = c.S.length := by simp at l; omega
      subst z'
      rw [List.getElem?_append_right (Nat.le_refl _)] at e'
      simp at e'
      subst e'
      rw [show (c.new p ob H').π c.S.length = p from if_pos rfl]
      exact d
  · have hi' : i < c.S.length + 1 := by simpa [Cfg.new] using hi
    have hj' : j < c.S.length + 1 := by simpa [Cfg.new] using hj
    by_cases z : i = c.S.length
    · by_cases z' : j = c.S.length
      · omega
      · rw [show (c.new p ob H').π i = p from if_pos z, show (c.new p ob H').π j = c.π j from if_neg z'] at q
        exact absurd q.symm (old j (by omega))
    · by_cases z' : j = c.S.length
      · rw [show (c.new p ob H').π i = c.π i from if_neg z, show (c.new p ob H').π j = p from if_pos z'] at q
        exact absurd q (old i (by omega))
      · rw [show (c.new p ob H').π i = c.π i from if_neg z, show (c.new p ob H').π j = c.π j from if_neg z'] at q
        exact k.inj i j (by omega) (by omega) q
  · obtain ⟨n, xs, e⟩ := k.nT a t
    exact (le.keep a _ n e).2 r
  · obtain ⟨_, xs, e⟩ := k.nT a t
    exact ⟨xs, hH _ _ e⟩
/-- a thing of the store changes -/
def Cfg.put (c : Cfg) (j : Nat) (o : HO) (ob : Ob) : Cfg := { c with S := c.S.set j ob, H := upd c.H (c.π j) o }
theorem put_le {j : Nat} (hj : j < c.S.length) {o : HO} {ob : Ob} : Le c (c.put j o ob) := by
  refine ⟨by simp [Cfg.put], fun _ _ => rfl, fun a u n e => ⟨?_, fun ⟨i, l, q⟩ => n ⟨i, by simpa [Cfg.put] using l, q⟩⟩, rfl⟩
  show upd c.H (c.π j) _ a = _
  rw [upd_ne fun q => n ⟨j, hj, q.symm⟩]; exact e
theorem put_ok (k : Ok K mg c) {j : Nat} (hj : j < c.S.length) {o : HO} {ob : Ob} (d : ObR K mg (c.put j o ob) (c.π j) ob) : Ok K mg (c.put j o ob) := by
  have le := put_le (c := c) hj (o := o) (ob := ob)
  refine ⟨fun i u e => ?_, fun a b ha hb q => k.inj a b (by simpa [Cfg.put] using ha) (by simpa [Cfg.put] using hb) q, fun a t => ⟨fun r => ?_, ?_⟩⟩
  · have e' : (c.S.set j ob)[i]? = some u := e
    by_cases z : i = j
    · subst z
      rw [List.getElem?_set_self hj] at e'
      cases e'
      exact d
    · rw [List.getElem?_set_ne (Ne.symm z)] at e'
      exact ob_mono k le rfl (upd_ne fun q => z (k.inj i j (lt_of_get e') hj q)) (k.at_ i u e')
  · obtain ⟨n, xs, e⟩ := k.nT a t
    exact (le.keep a _ n e).2 r
  · obtain ⟨n, xs, e⟩ := k.nT a t
    exact ⟨xs, (le.keep a _ n e).1⟩
end

/-! ### the names' values -/
structure EnD (K : PySem.W.Frag) (mg : Str → Option Value) (c : Cfg) (σ : L2.St) (ρ : En) : Prop where
  len : σ.length = ρ.length
  get : ∀ (i : Nat) (d : D), ρ[i]? = some (some d) → ∃ v, σ[i]? = some (some v) ∧ Den K mg c v d
section
variable {K : PySem.W.Frag} {mg : Str → Option Value} {c c' : Cfg} {σ : L2.St} {ρ : En}
theorem EnD.mw (e : Lw c c') (h : EnD K mg c σ ρ) : EnD K mg c' σ ρ := ⟨h.len, fun i d q => let ⟨v, h1, h2⟩ := h.get i d q; ⟨v, h1, h2.mw e⟩⟩
theorem EnD.mono (e : Le c c') (h : EnD K mg c σ ρ) : EnD K mg c' σ ρ := h.mw e.lw
theorem EnD.set {i : Nat} {v : V} {d : D} (h : EnD K mg c σ ρ) (q : Den K mg c v d) : EnD K mg c (σ.set i (some v)) (ρ.set i (some d)) := by
  refine ⟨by simp [h.len], fun j u e => ?_⟩
  by_cases z : i = j
  · subst z
    have l : i < ρ.length := by have := lt_of_get e; simpa using this
    rw [List.getElem?_set_self l] at e
    cases e
    exact ⟨v, List.getElem?_set_self (by rw [h.len]; exact l), q⟩
  · rw [List.getElem?_set_ne z] at e
    obtain ⟨w, h1, h2⟩ := h.get j u e
    exact ⟨w, by rw [List.getElem?_set_ne z]; exact h1, h2⟩
theorem EnD.clear {i : Nat} (h : EnD K mg c σ ρ) : EnD K mg c (σ.set i none) (ρ.set i none) := by
  refine ⟨by simp [h.len], fun j u e => ?_⟩
  by_cases z : i = j
  · subst z
    have l : i < ρ.length := by have := lt_of_get e; simpa using this
    rw [List.getElem?_set_self l] at e
    cases e
  · rw [List.getElem?_set_ne z] at e
    obtain ⟨w, h1, h2⟩ := h.get j u e
    exact ⟨w, by rw [List.getElem?_set_ne z]; exact h1, h2⟩
def wipeE (ρ : En) : List Nat → En
  | [] => ρ
  | v :: vs => (wipeE ρ vs).set v none
theorem EnD.wipe (h : EnD K mg c σ ρ) : ∀ vs : List Nat, EnD K mg c (L2.wipe σ vs) (wipeE ρ vs)
  | [] => h
  | _ :: vs => (EnD.wipe h vs).clear
end
end M

namespace M
open PySem PySem.Spec L2 W2

abbrev EvF := En → Sto → Option (D × Sto)
abbrev EtF := En → Sto → Option (Bool × Sto)
abbrev EaF := En → Sto → Option (List D × Sto)
inductive Out where
  | nx (ρ : En) | rt (d : D) | bk (ρ : En) | ct (ρ : En)
abbrev StF := En → Sto → Option (Out × Sto)

section
variable (K : PySem.W.Frag) (mg : Str → Option Value)
/-- what is wanted behind a value that was reckoned -/
def Post (c : Cfg) (S' : Sto) (d : D) (Q : VK) : Prop := ∀ v c', Le c c' → Ok K mg c' → c'.S = S' → Den K mg c' v d → Q v c'.H
structure At (c : Cfg) (ρ : En) (σ : L2.St) (H : Hp) : Prop where
  h : c.H = H
  ok : Ok K mg c
  en : EnD K mg c σ ρ
def tM (f : EvF) : TE := fun σ H Q => ∃ c ρ d S', At K mg c ρ σ H ∧ f ρ c.S = some (d, S') ∧ Post K mg c S' d Q
def tT (f : EtF) : TT := fun σ H Q => ∃ c ρ d S', At K mg c ρ σ H ∧ f ρ c.S = some (d, S') ∧ ∀ c', Le c c' → Ok K mg c' → c'.S = S' → Q d c'.H
def tAs (f : EaF) : TA := fun σ H Q => ∃ c ρ ds S', At K mg c ρ σ H ∧ f ρ c.S = some (ds, S') ∧ ∀ vs c', Le c c' → Ok K mg c' → c'.S = S' → DenA K mg c' vs ds → Q vs c'.H
def OutTo (Dd : Ends) (c' : Cfg) : Out → Prop
  | .nx ρ' => ∀ σ', EnD K mg c' σ' ρ' → Dd.nx σ' c'.H
  | .rt d => ∀ v, Den K mg c' v d → Dd.rt v c'.H
  | .bk ρ' => ∀ σ', EnD K mg c' σ' ρ' → Dd.bk σ' c'.H
  | .ct ρ' => ∀ σ', EnD K mg c' σ' ρ' → Dd.ct σ' c'.H
def tS (g : StF) : TS := fun Dd σ H => ∃ c ρ o S', At K mg c ρ σ H ∧ g ρ c.S = some (o, S') ∧ ∀ c', Le c c' → Ok K mg c' → c'.S = S' → OutTo K mg Dd c' o
/-- an operation on values -/
def r2 (op : D → D → Option D) : R2 := fun x y H Q => ∃ c a b z, c.H = H ∧ Ok K mg c ∧ Den K mg c x a ∧ Den K mg c y b ∧ op a b = some z ∧ Post K mg c c.S z Q
end
section
variable {K : PySem.W.Frag} {mg : Str → Option Value} {c c' : Cfg} {ρ : En} {σ : L2.St} {H : Hp} {S' : Sto} {d : D} {Q : VK}
theorem At.of (k : Ok K mg c) (e : EnD K mg c σ ρ) : At K mg c ρ σ c.H := ⟨rfl, k, e⟩
theorem Post.mono (p : Post K mg c S' d Q) (l : Le c c') : Post K mg c' S' d Q := fun v c2 l2 k e q => p v c2 (l.trans l2) k e q
theorem Post.here {v : V} (p : Post K mg c c.S d Q) (k : Ok K mg c) (q : Den K mg c v d) : Q v c.H := p v c (Le.refl c) k rfl q
end

section
variable {X : Cx}
theorem pe_imp {e : Expr} {t t' : TE} (h : PE X e t) (w : ∀ σ H Q, t' σ H Q → t σ H Q) : PE X e t' :=
  ⟨fun pins s σ H Q I q => h.run pins s σ H Q I (w σ H Q q)⟩
theorem pt_imp {e : Expr} {t t' : TT} (h : PT X e t) (w : ∀ σ H Q, t' σ H Q → t σ H Q) : PT X e t' :=
  ⟨fun pins s σ H Q I q => h.run pins s σ H Q I (w σ H Q q)⟩
theorem pw_imp {e : Expr} {t t' : TT} (h : PW X e t) (w : ∀ σ H Q, t' σ H Q → t σ H Q) : PW X e t' :=
  ⟨fun wh pins s σ H Q I q => h.run wh pins s σ H Q I (w σ H Q q)⟩
theorem pa_imp {es : List Expr} {t t' : TA} (h : PA X es t) (w : ∀ σ H Q, t' σ H Q → t σ H Q) : PA X es t' :=
  ⟨fun pos pins s σ H Q I q => h.run pos pins s σ H Q I (w σ H Q q)⟩
theorem ps_imp {st : Stmt} {t t' : TS} (h : PS X st t) (w : ∀ D σ H, t' D σ H → t D σ H) : PS X st t' :=
  ⟨fun pins s σ H D I q => h.run pins s σ H D I (w D σ H q)⟩
theorem pss_imp {st : List Stmt} {t t' : TS} (h : PSs X st t) (w : ∀ D σ H, t' D σ H → t D σ H) : PSs X st t' :=
  ⟨fun pins s σ H D I q => h.run pins s σ H D I (w D σ H q)⟩
end

/-! ### expressions -/
def mVar (i : Nat) : EvF := fun ρ S => (ρ[i]?).bind fun o => o.map fun d => (d, S)
def mC (d : D) : EvF := fun _ S => some (d, S)
def mBin (op : D → D → Option D) (f g : EvF) : EvF := fun ρ S => (f ρ S).bind fun x => (g ρ x.2).bind fun y => (op x.1 y.1).map fun z => (z, y.2)
def mChain (op op' : D → D → Option D) (f g h : EvF) : EvF := fun ρ S => (f ρ S).bind fun x => (g ρ x.2).bind fun y => (op x.1 y.1).bind fun z =>
  match z with
  | .bl true => (h ρ y.2).bind fun w => (op' y.1 w.1).map fun z => (z, w.2)
  | .bl false => some (.bl false, y.2)
  | _ => none
def mAnd (f g : EvF) : EvF := fun ρ S => (f ρ S).bind fun x => match x.1 with
  | .bl true => g ρ x.2
  | .bl false => some (.bl false, x.2)
  | _ => none
def mOr (f g : EvF) : EvF := fun ρ S => (f ρ S).bind fun x => match x.1 with
  | .bl true => some (.bl true, x.2)
  | .bl false => g ρ x.2
  | _ => none
def mNot (f : EvF) : EvF := fun ρ S => (f ρ S).bind fun x => match x.1 with
  | .bl b => some (.bl (!b), x.2)
  | _ => none
def mIf (t : EtF) (f g : EvF) : EvF := fun ρ S => (t ρ S).bind fun b => if b.1 = true then f ρ b.2 else g ρ b.2
def mNil : EaF := fun _ S => some ([], S)
def mCons (f : EvF) (g : EaF) : EaF := fun ρ S => (f ρ S).bind fun x => (g ρ x.2).map fun y => (x.1 :: y.1, y.2)
def mTup (g : EaF) : EvF := fun ρ S => (g ρ S).bind fun x => if x.1.length ≤ 100000 then some (.tup x.1, x.2) else none
def mLst (g : EaF) : EvF := fun ρ S => (g ρ S).bind fun x => if x.1.length ≤ 100000 then some (.lst x.1, x.2) else none
/-- a list that will change -/
def mNew (g : EaF) : EvF := fun ρ S => (g ρ S).bind fun x => if x.1.length ≤ 100000 then some (.ref x.2.length, x.2 ++ [.lst x.1]) else none
/-- tests -/
def mTv (f : EvF) : EtF := fun ρ S => (f ρ S).bind fun x => match x.1 with
  | .bl b => some (b, x.2)
  | _ => none
def mTand (f g : EtF) : EtF := fun ρ S => (f ρ S).bind fun x => if x.1 = true then g ρ x.2 else some (false, x.2)
def mTor (f g : EtF) : EtF := fun ρ S => (f ρ S).bind fun x => if x.1 = true then some (true, x.2) else g ρ x.2
def mTnot (f : EtF) : EtF := fun ρ S => (f ρ S).map fun x => (!x.1, x.2)

theorem bd {α β : Type} {o : Option α} {f : α → Option β} {b : β} (h : o.bind f = some b) : ∃ a, o = some a ∧ f a = some b := Option.bind_eq_some_iff.mp h
theorem mp {α β : Type} {o : Option α} {f : α → β} {b : β} (h : o.map f = some b) : ∃ a, o = some a ∧ f a = b := Option.map_eq_some_iff.mp h
theorem sz5 {n : Nat} (h : n ≤ 100000) : n ≤ sizeLine := Nat.le_trans h (by decide)

section
variable {X : Cx} {pos : Pos} {a b e : Expr} {f g h : EvF} {t u : EtF} {fa : EaF}
abbrev ME (X : Cx) (e : Expr) (f : EvF) : Prop := PE X e (tM X.K X.mg f)
abbrev MT (X : Cx) (e : Expr) (f : EtF) : Prop := PT X e (tT X.K X.mg f)
abbrev MA (X : Cx) (es : List Expr) (f : EaF) : Prop := PA X es (tAs X.K X.mg f)
abbrev OpD (X : Cx) (fn : Value → Value → Sem Value) (op : D → D → Option D) : Prop := OpR X fn (r2 X.K X.mg op)

theorem me_var (i : Nat) {x : Str} {pos : Pos} (hN : X.N[i]? = some x := by rfl)
    (hv : Vis X.env.scope x := by first | exact Or.inl rfl | exact Or.inr (Or.inl rfl) | exact Or.inr (Or.inr rfl))
    (hd : (x == ("__debug__" : Str)) = false := by decide) (hcd : (x == ("__classdict__" : Str)) = false := by decide) : ME X (.Name x pos) (mVar i) :=
  pe_imp (pe_var hN hv hd hcd) <| by
    rintro σ H Q ⟨c, ρ, d, S', ⟨rfl, k, en⟩, q, p⟩
    obtain ⟨o, h1, h2⟩ := bd q
    obtain ⟨d', rfl, h3⟩ := mp h2
    cases h3
    obtain ⟨v, e1, e2⟩ := en.get i _ h1
    exact ⟨v, e1, p.here k e2⟩
theorem me_c {v : V} {d : D} (h : PE X e (tC v)) (r : ∀ c, Den X.K X.mg c v d) : ME X e (mC d) :=
  pe_imp h <| by
    rintro σ H Q ⟨c, ρ, d, S', ⟨rfl, k, en⟩, q, p⟩
    cases q
    exact p.here k (r c)
theorem me_int {i : Int} {j : Nat} : ME X (.Constant (.int i) j pos) (mC (.int i)) := me_c pe_int fun _ => .int i
theorem me_bl {i : Bool} {j : Nat} : ME X (.Constant (.bool i) j pos) (mC (.bl i)) := me_c pe_bl fun _ => .bl i
theorem me_non {j : Nat} : ME X (.Constant .none j pos) (mC .non) := me_c pe_non fun _ => .non
theorem me_str {x : Str} {j : Nat} : ME X (.Constant (.str x) j pos) (mC (.str x)) := me_c pe_str fun _ => .str x
theorem me_glob {x : Str} {v : V} {u : Value} {d : D} (hg : Gl X x) (hm : X.mg x = some u) (r : RelV v u) (q : ∀ c, Den X.K X.mg c v d) (hd : (x == ("__debug__" : Str)) = false := by decide) : ME X (.Name x pos) (mC d) :=
  me_c (pe_glob hg hm r hd) q
theorem op_go {op : D → D → Option D} {σ : L2.St} {H : Hp} {Q : VK} (q : tM X.K X.mg (mBin op f g) σ H Q) : tOp (r2 X.K X.mg op) (tM X.K X.mg f) (tM X.K X.mg g) σ H Q := by
  obtain ⟨c, ρ, d, S', ⟨rfl, k, en⟩, q, p⟩ := q
  obtain ⟨x, h1, q⟩ := bd q
  obtain ⟨y, h2, q⟩ := bd q
  obtain ⟨z, h3, q⟩ := mp q
  cases q
  refine ⟨c, ρ, x.1, x.2, .of k en, h1, fun v c1 l1 k1 e1 D1 => ?_⟩
  refine ⟨c1, ρ, y.1, y.2, .of k1 (en.mono l1), by rw [e1]; exact h2, fun w c2 l2 k2 e2 D2 => ?_⟩
  exact ⟨c2, x.1, y.1, d, rfl, k2, D1.mono l2, D2, h3, by rw [e2]; exact p.mono (l1.trans l2)⟩
theorem me_bin {o : Operator} {op : D → D → Option D} (ho : OpD X (binaryOp o) op) (ha : ME X a f) (hb : ME X b g) : ME X (.BinOp a o b pos) (mBin op f g) :=
  pe_imp (pe_op ho ha hb) fun _ _ _ => op_go
theorem me_cmp {o : CmpOp} {op : D → D → Option D} (ho : OpD X (compareOp o) op) (ha : ME X a f) (hb : ME X b g) (hm : behindInMarks o b = false) : ME X (.Compare a [o] [b] pos) (mBin op f g) :=
  pe_imp (pe_cmpR ho ha hb hm) fun _ _ _ => op_go
theorem mt_of {te : TE} {e : Expr} (h : PT X e (tTest te)) (w : ∀ σ H Q, tM X.K X.mg f σ H Q → te σ H Q) : MT X e (mTv f) :=
  pt_imp h <| by
    rintro σ H Q ⟨c, ρ, d, S', ⟨rfl, k, en⟩, q, p⟩
    obtain ⟨x, h1, q⟩ := bd q
    obtain ⟨x, S1⟩ := x
    cases x <;> try (cases q)
    exact w _ _ _ ⟨c, ρ, _, _, .of k en, h1, fun v c1 l1 k1 e1 D1 => by
      cases D1
      exact ⟨_, rfl, p c1 l1 k1 e1⟩⟩
theorem mt_cmp {o : CmpOp} {op : D → D → Option D} (ho : OpD X (compareOp o) op) (ha : ME X a f) (hb : ME X b g) (hm : behindInMarks o b = false) : MT X (.Compare a [o] [b] pos) (mTv (mBin op f g)) :=
  mt_of (pt_cmpR ho ha hb hm) fun _ _ _ => op_go
theorem mt_val (h : ME X e f) (he : ∀ whole, isTrue e X.env whole = (do let v ← whole; standAt e.pos; holding [v] (truthy v)) := by intro _; rfl) : MT X e (mTv f) :=
  mt_of (pt_val h he) fun _ _ _ q => q
theorem me_chain {o o' : CmpOp} {op op' : D → D → Option D} {b' : Expr} {g' : EvF} (ho : OpD X (compareOp o) op) (ho' : OpD X (compareOp o') op') (ha : ME X a f) (hb : ME X b g) (hc : ME X b' g')
    (hm : lastMarks [o, o'] [b, b'] = false := by with_unfolding_all rfl) : ME X (.Compare a [o, o'] [b, b'] pos) (mChain op op' f g g') :=
  pe_imp (pe_chain ho ho' ha hb hc hm) <| by
    rintro σ H Q ⟨c, ρ, d, S', ⟨rfl, k, en⟩, q, p⟩
    obtain ⟨x, h1, q⟩ := bd q
    obtain ⟨y, h2, q⟩ := bd q
    obtain ⟨z, h3, q⟩ := bd q
    refine ⟨c, ρ, x.1, x.2, .of k en, h1, fun v c1 l1 k1 e1 D1 => ?_⟩
    refine ⟨c1, ρ, y.1, y.2, .of k1 (en.mono l1), by rw [e1]; exact h2, fun w c2 l2 k2 e2 D2 => ?_⟩
    refine ⟨c2, x.1, y.1, z, rfl, k2, D1.mono l2, D2, h3, fun vz c3 l3 k3 e3 D3 => ?_⟩
    cases z <;> try (cases q)
    cases D3
    rename_i bz
    refine ⟨bz, rfl, ?_⟩
    cases bz with
    | false =>
      cases q
      exact p _ c3 ((l1.trans l2).trans l3) k3 (e3.trans e2) (.bl false)
    | true =>
      obtain ⟨w', h4, q⟩ := bd q
      obtain ⟨z', h5, q⟩ := mp q
      cases q
      refine ⟨c3, ρ, w'.1, w'.2, .of k3 (en.mono ((l1.trans l2).trans l3)), by rw [e3, e2]; exact h4, fun vw c4 l4 k4 e4 D4 => ?_⟩
      exact ⟨c4, y.1, w'.1, d, rfl, k4, D2.mono (l3.trans l4), D4, h5, by rw [e4]; exact p.mono (((l1.trans l2).trans l3).trans l4)⟩
theorem me_one {op : BoolOp} (h : ME X a f) : ME X (.BoolOp op [a] pos) f := pe_one h
theorem me_and {rest : List Expr} (ha : ME X a f) (hb : ME X (.BoolOp .And (b :: rest) pos) g) : ME X (.BoolOp .And (a :: b :: rest) pos) (mAnd f g) :=
  pe_imp (pe_and ha hb) <| by
    rintro σ H Q ⟨c, ρ, d, S', ⟨rfl, k, en⟩, q, p⟩
    obtain ⟨⟨x, S1⟩, h1, q⟩ := bd q
    refine ⟨c, ρ, x, S1, .of k en, h1, fun v c1 l1 k1 e1 D1 => ?_⟩
    cases x <;> try (cases q)
    rename_i bx
    cases D1
    refine ⟨bx, rfl, ?_⟩
    cases bx with
    | true => exact ⟨c1, ρ, d, S', .of k1 (en.mono l1), by rw [e1]; exact q, p.mono l1⟩
    | false =>
      cases q
      exact p _ c1 l1 k1 e1 (.bl false)
theorem me_or {rest : List Expr} (ha : ME X a f) (hb : ME X (.BoolOp .Or (b :: rest) pos) g) : ME X (.BoolOp .Or (a :: b :: rest) pos) (mOr f g) :=
  pe_imp (pe_or ha hb) <| by
    rintro σ H Q ⟨c, ρ, d, S', ⟨rfl, k, en⟩, q, p⟩
    obtain ⟨⟨x, S1⟩, h1, q⟩ := bd q
    refine ⟨c, ρ, x, S1, .of k en, h1, fun v c1 l1 k1 e1 D1 => ?_⟩
    cases x <;> try (cases q)
    rename_i bx
    cases D1
    refine ⟨bx, rfl, ?_⟩
    cases bx with
    | false => exact ⟨c1, ρ, d, S', .of k1 (en.mono l1), by rw [e1]; exact q, p.mono l1⟩
    | true =>
      cases q
      exact p _ c1 l1 k1 e1 (.bl true)
theorem me_not (ha : ME X a f) : ME X (.UnaryOp .Not a pos) (mNot f) :=
  pe_imp (pe_not ha) <| by
    rintro σ H Q ⟨c, ρ, d, S', ⟨rfl, k, en⟩, q, p⟩
    obtain ⟨⟨x, S1⟩, h1, q⟩ := bd q
    refine ⟨c, ρ, x, S1, .of k en, h1, fun v c1 l1 k1 e1 D1 => ?_⟩
    cases x <;> try (cases q)
    rename_i bx
    cases D1
    exact ⟨bx, rfl, p _ c1 l1 k1 e1 (.bl _)⟩
theorem me_if {w : Expr} (ht : MT X w t) (ha : ME X a f) (hb : ME X b g) : ME X (.IfExp w a b pos) (mIf t f g) :=
  pe_imp (pe_ifExp ht ha hb) <| by
    rintro σ H Q ⟨c, ρ, d, S', ⟨rfl, k, en⟩, q, p⟩
    obtain ⟨⟨x, S1⟩, h1, q⟩ := bd q
    refine ⟨c, ρ, x, S1, .of k en, h1, fun c1 l1 k1 e1 => ?_⟩
    cases x with
    | true => exact ⟨c1, ρ, d, S', .of k1 (en.mono l1), by rw [e1]; exact q, p.mono l1⟩
    | false => exact ⟨c1, ρ, d, S', .of k1 (en.mono l1), by rw [e1]; exact q, p.mono l1⟩
theorem mt_not (h : MT X a t) : MT X (.UnaryOp .Not a pos) (mTnot t) :=
  pt_imp (pt_not h) <| by
    rintro σ H Q ⟨c, ρ, d, S', ⟨rfl, k, en⟩, q, p⟩
    obtain ⟨x, h1, q⟩ := mp q
    cases q
    exact ⟨c, ρ, x.1, x.2, .of k en, h1, p⟩
abbrev MW (X : Cx) (e : Expr) (f : EtF) : Prop := PW X e (tT X.K X.mg f)
theorem mw_and1 (h : MT X a t) : MW X (.BoolOp .And [a] pos) t := pw_and1 h
theorem mw_or1 (h : MT X a t) : MW X (.BoolOp .Or [a] pos) t := pw_or1 h
theorem mw_and {rest : List Expr} (ha : MT X a t) (hb : MW X (.BoolOp .And (b :: rest) pos) u) : MW X (.BoolOp .And (a :: b :: rest) pos) (mTand t u) :=
  pw_imp (pw_and ha hb) <| by
    rintro σ H Q ⟨c, ρ, d, S', ⟨rfl, k, en⟩, q, p⟩
    obtain ⟨⟨x, S1⟩, h1, q⟩ := bd q
    refine ⟨c, ρ, x, S1, .of k en, h1, fun c1 l1 k1 e1 => ?_⟩
    cases x with
    | true => exact ⟨c1, ρ, d, S', .of k1 (en.mono l1), by rw [e1]; exact q, fun c2 l2 => p c2 (l1.trans l2)⟩
    | false =>
      cases q
      exact p c1 l1 k1 e1
theorem mw_or {rest : List Expr} (ha : MT X a t) (hb : MW X (.BoolOp .Or (b :: rest) pos) u) : MW X (.BoolOp .Or (a :: b :: rest) pos) (mTor t u) :=
  pw_imp (pw_or ha hb) <| by
    rintro σ H Q ⟨c, ρ, d, S', ⟨rfl, k, en⟩, q, p⟩
    obtain ⟨⟨x, S1⟩, h1, q⟩ := bd q
    refine ⟨c, ρ, x, S1, .of k en, h1, fun c1 l1 k1 e1 => ?_⟩
    cases x with
    | false => exact ⟨c1, ρ, d, S', .of k1 (en.mono l1), by rw [e1]; exact q, fun c2 l2 => p c2 (l1.trans l2)⟩
    | true =>
      cases q
      exact p c1 l1 k1 e1
theorem mt_w (h : MW X e t) : MT X e t := h.pt
theorem ma_nil : MA X [] mNil :=
  pa_imp pa_nil <| by
    rintro σ H Q ⟨c, ρ, d, S', ⟨rfl, k, en⟩, q, p⟩
    cases q
    exact p [] c (.refl c) k rfl .nil
theorem ma_cons {es : List Expr} (ha : ME X e f) (hr : MA X es fa) (hs : starEach (e :: es) X.env = (false, eval e X.env) :: starEach es X.env := by rfl) : MA X (e :: es) (mCons f fa) :=
  pa_imp (pa_cons ha hr hs) <| by
    rintro σ H Q ⟨c, ρ, d, S', ⟨rfl, k, en⟩, q, p⟩
    obtain ⟨⟨x, S1⟩, h1, q⟩ := bd q
    obtain ⟨y, h2, q⟩ := mp q
    cases q
    refine ⟨c, ρ, x, S1, .of k en, h1, fun v c1 l1 k1 e1 D1 => ?_⟩
    refine ⟨c1, ρ, y.1, y.2, .of k1 (en.mono l1), by rw [e1]; exact h2, fun vs c2 l2 k2 e2 D2 => ?_⟩
    exact p _ c2 (l1.trans l2) k2 e2 (.cons (D1.mono l2) D2)
theorem den_tup {c : Cfg} {K : PySem.W.Frag} {mg : Str → Option Value} {p : Addr} {vs : List V} {ds : List D} (k : Ok K mg c) (h : c.H p = none) (q : DenA K mg c vs ds) : Den K mg (c.lay p (.tup vs)) (.ref p) (.tup ds) :=
  .tup (.inl ⟨k.nB h, .inl upd_same⟩) (q.mono (lay_le h))
theorem den_lst {c : Cfg} {K : PySem.W.Frag} {mg : Str → Option Value} {p : Addr} {vs : List V} {ds : List D} (k : Ok K mg c) (h : c.H p = none) (q : DenA K mg c vs ds) : Den K mg (c.lay p (.lst vs)) (.ref p) (.lst ds) :=
  .lst ⟨k.nB h, .inl upd_same⟩ (q.mono (lay_le h))
theorem post_tup {K : PySem.W.Frag} {mg : Str → Option Value} {c : Cfg} {ds : List D} {vs : List V} {Q : VK} (P : Post K mg c c.S (.tup ds) Q) (k : Ok K mg c) (q : DenA K mg c vs ds) : ∀ p, c.H p = none → Q (.ref p) (upd c.H p (.tup vs)) :=
  fun p h => P _ (c.lay p (.tup vs)) (lay_le h) (lay_ok k h) rfl (den_tup k h q)
theorem post_lst {K : PySem.W.Frag} {mg : Str → Option Value} {c : Cfg} {ds : List D} {vs : List V} {Q : VK} (P : Post K mg c c.S (.lst ds) Q) (k : Ok K mg c) (q : DenA K mg c vs ds) : ∀ p, c.H p = none → Q (.ref p) (upd c.H p (.lst vs)) :=
  fun p h => P _ (c.lay p (.lst vs)) (lay_le h) (lay_ok k h) rfl (den_lst k h q)
theorem me_tup {es : List Expr} (h : MA X es fa) : ME X (.Tuple es n pos) (mTup fa) :=
  pe_imp (pe_tup h) <| by
    rintro σ H Q ⟨c, ρ, d, S', ⟨rfl, k, en⟩, q, p⟩
    obtain ⟨⟨x, S1⟩, h1, q⟩ := bd q
    by_cases z : x.length ≤ 100000
    · rw [if_pos z] at q
      cases q
      refine ⟨c, ρ, x, S1, .of k en, h1, fun vs c1 l1 k1 e1 D1 => ⟨by rw [D1.length]; exact sz5 z, ?_⟩⟩
      exact post_tup (by rw [e1]; exact p.mono l1) k1 D1
    · rw [if_neg z] at q
      cases q
theorem me_lst {es : List Expr} (h : MA X es fa) : ME X (.List es pos) (mLst fa) :=
  pe_imp (pe_lst h) <| by
    rintro σ H Q ⟨c, ρ, d, S', ⟨rfl, k, en⟩, q, p⟩
    obtain ⟨⟨x, S1⟩, h1, q⟩ := bd q
    by_cases z : x.length ≤ 100000
    · rw [if_pos z] at q
      cases q
      refine ⟨c, ρ, x, S1, .of k en, h1, fun vs c1 l1 k1 e1 D1 => ⟨by rw [D1.length]; exact sz5 z, ?_⟩⟩
      exact post_lst (by rw [e1]; exact p.mono l1) k1 D1
    · rw [if_neg z] at q
      cases q
/-- a new thing of the store -/
theorem post_new {K : PySem.W.Frag} {mg : Str → Option Value} {c : Cfg} {ob : Ob} {p : Addr} {H' : Hp} {Q : VK} (P : Post K mg c (c.S ++ [ob]) (.ref c.S.length) Q) (k : Ok K mg c) (h : c.H p = none) (hH : ∀ a u, c.H a = some u → H' a = some u)
    (d : ObR K mg (c.new p ob H') p ob) : Q (.ref p) H' := by
  have e2 : (c.new p ob H').π c.S.length = p := if_pos rfl
  have w := Den.ref (K := K) (mg := mg) (c := c.new p ob H') (j := c.S.length) (by show _ < (c.S ++ [_]).length; simp)
  rw [e2] at w
  exact P (.ref p) (c.new p ob H') (new_le h hH) (new_ok k h hH d) rfl w
theorem upd_keep {H : Hp} {p : Addr} {o : HO} (h : H p = none) : ∀ a u, H a = some u → upd H p o a = some u := fun a u e => (upd_ne (ne_of_none e h)).trans e
theorem me_new {es : List Expr} (h : MA X es fa) : ME X (.List es pos) (mNew fa) :=
  pe_imp (pe_lst h) <| by
    rintro σ H Q ⟨c, ρ, d, S', ⟨rfl, k, en⟩, q, p⟩
    obtain ⟨⟨x, S1⟩, h1, q⟩ := bd q
    by_cases z : x.length ≤ 100000
    · rw [if_pos z] at q
      cases q
      refine ⟨c, ρ, x, S1, .of k en, h1, fun vs c1 l1 k1 e1 D1 => ⟨by rw [D1.length]; exact sz5 z, fun a ha => ?_⟩⟩
      subst e1
      exact post_new (ob := .lst x) (p.mono l1) k1 ha (upd_keep ha) ⟨vs, upd_same, D1.mono (new_le ha (upd_keep ha))⟩
    · rw [if_neg z] at q
      cases q
end
end M

namespace M
open PySem PySem.Spec L2 W2

/-! ### statements -/
def mRet (f : EvF) : StF := fun ρ S => (f ρ S).map fun x => (.rt x.1, x.2)
def mRetN : StF := fun _ S => some (.rt .non, S)
def mSkip : StF := fun ρ S => some (.nx ρ, S)
def mBrk : StF := fun ρ S => some (.bk ρ, S)
def mCnt : StF := fun ρ S => some (.ct ρ, S)
def mDrop (f : EvF) : StF := fun ρ S => (f ρ S).map fun x => (.nx ρ, x.2)
/-- a target: where a value goes -/
abbrev TgF := En → D → Option En
def gN (i : Nat) : TgF := fun ρ d => some (ρ.set i (some d))
def setAll : List Nat → List D → En → Option En
  | [], [], ρ => some ρ
  | i :: is, d :: ds, ρ => setAll is ds (ρ.set i (some d))
  | _, _, _ => none
def gT (is : List Nat) : TgF := fun ρ d => match d with
  | .tup ds => setAll is ds ρ
  | _ => none
def mAsg (f : EvF) (g : TgF) : StF := fun ρ S => (f ρ S).bind fun x => (g ρ x.1).map fun ρ' => (.nx ρ', x.2)
def mPar (is : List Nat) (f : EaF) : StF := fun ρ S => (f ρ S).bind fun x => (setAll is x.1 ρ).map fun ρ' => (.nx ρ', x.2)
def mIfS (t : EtF) (g h : StF) : StF := fun ρ S => (t ρ S).bind fun b => if b.1 = true then g ρ b.2 else h ρ b.2
def mSeq (g h : StF) : StF := fun ρ S => (g ρ S).bind fun x => match x.1 with
  | .nx ρ' => h ρ' x.2
  | o => some (o, x.2)
def stSet (S : Sto) (j : Nat) (i : Int) (d : D) : Option Sto := match S[j]? with
  | some (.lst xs) => (ixN xs.length i).map fun n => S.set j (.lst (xs.set n d))
  | _ => none
/-- o[i] = e, o a thing of the store -/
def mSetI (f o i : EvF) : StF := fun ρ S => (f ρ S).bind fun x => (o ρ x.2).bind fun y => (i ρ y.2).bind fun z => match y.1, z.1 with
  | .ref j, .int n => (stSet z.2 j n x.1).map fun S' => (.nx ρ, S')
  | _, _ => none

abbrev MS (X : Cx) (st : Stmt) (g : StF) : Prop := PS X st (tS X.K X.mg g)
abbrev MSs (X : Cx) (st : List Stmt) (g : StF) : Prop := PSs X st (tS X.K X.mg g)
def tG (K : PySem.W.Frag) (mg : Str → Option Value) (g : TgF) : TG := fun v σ H Q => ∃ c ρ d ρ', At K mg c ρ σ H ∧ Den K mg c v d ∧ g ρ d = some ρ' ∧ ∀ σ', EnD K mg c σ' ρ' → Q σ' H
abbrev MG (X : Cx) (e : Expr) (g : TgF) : Prop := PG X e (tG X.K X.mg g)
theorem pg_imp {X : Cx} {e : Expr} {t t' : TG} (h : PG X e t) (w : ∀ v σ H Q, t' v σ H Q → t v σ H Q) : PG X e t' :=
  ⟨fun pins s σ H v u Q I r q => h.run pins s σ H v u Q I r (w v σ H Q q)⟩
def gsA (is : List Nat) : TGs := fun vs σ H Q => vs.length = is.length ∧ Q ((is.zip vs).foldl (fun σ p => σ.set p.1 (some p.2)) σ) H
theorem pgs_imp {X : Cx} {e : List Expr} {t t' : TGs} (h : PGs X e t) (w : ∀ v σ H Q, t' v σ H Q → t v σ H Q) : PGs X e t' :=
  ⟨fun pins s σ H v u Q I r q => h.run pins s σ H v u Q I r (w v σ H Q q)⟩
theorem gs_nil {X : Cx} : PGs X [] (gsA []) := pgs_imp pgs_nil <| by
  rintro v σ H Q ⟨h, q⟩
  cases v with
  | nil => exact ⟨rfl, q⟩
  | cons a b => cases h
theorem gs_cons {X : Cx} {es : List Expr} {i : Nat} {is : List Nat} (hs : PGs X es (gCons (gName i) (gsA is))) : PGs X es (gsA (i :: is)) := pgs_imp hs <| by
  rintro v σ H Q ⟨h, q⟩
  cases v with
  | nil => cases h
  | cons a b => exact ⟨a, b, rfl, Nat.succ.inj h, q⟩
theorem setAll_en {K : PySem.W.Frag} {mg : Str → Option Value} {c : Cfg} : ∀ {is : List Nat} {ds : List D} {vs : List V} {ρ ρ' : En} {σ : L2.St}, EnD K mg c σ ρ → DenA K mg c vs ds → setAll is ds ρ = some ρ' →
    EnD K mg c ((is.zip vs).foldl (fun σ p => σ.set p.1 (some p.2)) σ) ρ'
  | [], [], _, _, _, _, en, d, h => by cases d; cases h; exact en
  | i :: is, x :: ds, _, _, _, _, en, d, h => by
    cases d with
    | cons a b => exact setAll_en (is := is) (ds := ds) (en.set (i := i) a) b h
  | [], _ :: _, _, _, _, _, _, _, h => by cases h
  | _ :: _, [], _, _, _, _, _, _, h => by cases h
theorem setAll_len : ∀ {is : List Nat} {ds : List D} {ρ ρ' : En}, setAll is ds ρ = some ρ' → ds.length = is.length
  | [], [], _, _, h => rfl
  | i :: is, x :: ds, _, _, h => by simp [setAll_len (is := is) (ds := ds) h]
  | [], _ :: _, _, _, h => by cases h
  | _ :: _, [], _, _, h => by cases h

section
variable {X : Cx} {pos : Pos} {a b e : Expr} {f : EvF} {t : EtF} {fa : EaF} {g h : StF} {tg : TgF} {st : Stmt} {rest sts : List Stmt}
theorem ms_ret (he : ME X e f) : MS X (.Return (some e) pos) (mRet f) := ps_imp (ps_ret he) <| by
  rintro Dd σ H ⟨c, ρ, o, S', ⟨rfl, k, en⟩, q, p⟩
  obtain ⟨x, h1, q⟩ := mp q
  cases q
  exact ⟨c, ρ, x.1, x.2, .of k en, h1, fun v c1 l1 k1 e1 D1 => p c1 l1 k1 e1 v D1⟩
theorem ms_retN : MS X (.Return none pos) mRetN := ps_imp ps_retN <| by
  rintro Dd σ H ⟨c, ρ, o, S', ⟨rfl, k, en⟩, q, p⟩
  cases q
  exact p c (.refl c) k rfl _ .non
theorem ms_pass : MS X (.Pass pos) mSkip := ps_imp ps_pass <| by
  rintro Dd σ H ⟨c, ρ, o, S', ⟨rfl, k, en⟩, q, p⟩
  cases q
  exact p c (.refl c) k rfl _ en
theorem ms_brk : MS X (.Break pos) mBrk := ps_imp ps_break <| by
  rintro Dd σ H ⟨c, ρ, o, S', ⟨rfl, k, en⟩, q, p⟩
  cases q
  exact p c (.refl c) k rfl _ en
theorem ms_cnt : MS X (.Continue pos) mCnt := ps_imp ps_continue <| by
  rintro Dd σ H ⟨c, ρ, o, S', ⟨rfl, k, en⟩, q, p⟩
  cases q
  exact p c (.refl c) k rfl _ en
theorem ms_drop (hs : PS X st (tDrop (tM X.K X.mg f))) : MS X st (mDrop f) := ps_imp hs <| by
  rintro Dd σ H ⟨c, ρ, o, S', ⟨rfl, k, en⟩, q, p⟩
  obtain ⟨x, h1, q⟩ := mp q
  cases q
  exact ⟨c, ρ, x.1, x.2, .of k en, h1, fun v c1 l1 k1 e1 D1 => p c1 l1 k1 e1 _ (en.mono l1)⟩
theorem mg_name {i : Nat} {x : Str} (hN : X.N.Nodup) (hi : X.N[i]? = some x) (hx : Loc X.env.scope x) (hf : X.fn x = true ∨ X.env.scope.names.lookup x = some .local := by first | exact .inl rfl | exact .inr rfl | assumption) :
    MG X (.Name x pos) (gN i) := pg_imp (pg_name hN hi hx hf) <| by
  rintro v σ H Q ⟨c, ρ, d, ρ', ⟨rfl, k, en⟩, D1, q, p⟩
  cases q
  exact p _ (en.set D1)
theorem mg_tup {es : List Expr} {n : Nat} {is : List Nat} (hc : X.calm = true) (hs : PGs X es (gsA is)) (hl : PG X (.Tuple es n pos) (gTup X.K is.length (gsA is))) : MG X (.Tuple es n pos) (gT is) := pg_imp hl <| by
  rintro v σ H Q ⟨c, ρ, d, ρ', ⟨rfl, k, en⟩, D1, q, p⟩
  cases d <;> try (cases q)
  cases D1 with
  | tup s t =>
    have q' : setAll is _ ρ = some ρ' := q
    have l := setAll_len q'
    exact ⟨_, _, rfl, s.get, t.length.trans l, t.length.trans l, p _ (setAll_en en t q')⟩
theorem ms_asg (hs : PS X st (tAsg (tM X.K X.mg f) (tG X.K X.mg tg))) : MS X st (mAsg f tg) := ps_imp hs <| by
  rintro Dd σ H ⟨c, ρ, o, S', ⟨rfl, k, en⟩, q, p⟩
  obtain ⟨x, h1, q⟩ := bd q
  obtain ⟨ρ', h2, q⟩ := mp q
  cases q
  refine ⟨c, ρ, x.1, x.2, .of k en, h1, fun v c1 l1 k1 e1 D1 => ?_⟩
  exact ⟨c1, ρ, x.1, ρ', .of k1 (en.mono l1), D1, h2, fun σ' en' => p c1 l1 k1 e1 σ' en'⟩
theorem ms_if {c : Expr} (ht : MT X c t) (h1 : MSs X rest g) (h2 : MSs X sts h) : MS X (.If c rest sts pos) (mIfS t g h) := ps_imp (ps_if ht h1 h2) <| by
  rintro Dd σ H ⟨c, ρ, o, S', ⟨rfl, k, en⟩, q, p⟩
  obtain ⟨⟨x, S1⟩, h1, q⟩ := bd q
  refine ⟨c, ρ, x, S1, .of k en, h1, fun c1 l1 k1 e1 => ?_⟩
  cases x with
  | true => exact ⟨c1, ρ, o, S', .of k1 (en.mono l1), by rw [e1]; exact q, fun c2 l2 => p c2 (l1.trans l2)⟩
  | false => exact ⟨c1, ρ, o, S', .of k1 (en.mono l1), by rw [e1]; exact q, fun c2 l2 => p c2 (l1.trans l2)⟩
theorem mss_nil : MSs X [] mSkip := pss_imp pss_nil <| by
  rintro Dd σ H ⟨c, ρ, o, S', ⟨rfl, k, en⟩, q, p⟩
  cases q
  exact p c (.refl c) k rfl _ en
theorem mss_one (h : MS X st g) : MSs X [st] g := pss_one h
theorem mss_cons (h1 : MS X st g) (h2 : MSs X rest h) : MSs X (st :: rest) (mSeq g h) := pss_imp (pss_cons h1 h2) <| by
  rintro Dd σ H ⟨c, ρ, o, S', ⟨rfl, k, en⟩, q, p⟩
  obtain ⟨⟨x, S1⟩, h1, q⟩ := bd q
  refine ⟨c, ρ, x, S1, .of k en, h1, fun c1 l1 k1 e1 => ?_⟩
  cases x with
  | nx ρ' =>
    intro σ' en'
    exact ⟨c1, ρ', o, S', .of k1 en', by rw [e1]; exact q, fun c2 l2 => p c2 (l1.trans l2)⟩
  | rt d => cases q; exact p c1 l1 k1 e1
  | bk ρ' => cases q; exact p c1 l1 k1 e1
  | ct ρ' => cases q; exact p c1 l1 k1 e1
theorem ms_par {i j : Nat} (hs : PS X st (tPar i j (tAs X.K X.mg fa))) : MS X st (mPar [i, j] fa) := ps_imp hs <| by
  rintro Dd σ H ⟨c, ρ, o, S', ⟨rfl, k, en⟩, q, p⟩
  obtain ⟨x, h1, q⟩ := bd q
  obtain ⟨ρ', h2, q⟩ := mp q
  cases q
  refine ⟨c, ρ, x.1, x.2, .of k en, h1, fun vs c1 l1 k1 e1 D1 => ?_⟩
  have l := D1.length.trans (setAll_len h2)
  match vs, l, D1 with
  | [u, v], _, D1 => exact ⟨u, v, rfl, p c1 l1 k1 e1 _ (setAll_en (en.mono l1) D1 h2)⟩
theorem ms_par3 {i j l : Nat} (hs : PS X st (tPar3 i j l (tAs X.K X.mg fa))) : MS X st (mPar [i, j, l] fa) := ps_imp hs <| by
  rintro Dd σ H ⟨c, ρ, o, S', ⟨rfl, k, en⟩, q, p⟩
  obtain ⟨x, h1, q⟩ := bd q
  obtain ⟨ρ', h2, q⟩ := mp q
  cases q
  refine ⟨c, ρ, x.1, x.2, .of k en, h1, fun vs c1 l1 k1 e1 D1 => ?_⟩
  have l := D1.length.trans (setAll_len h2)
  match vs, l, D1 with
  | [u, v, w], _, D1 => exact ⟨u, v, w, rfl, p c1 l1 k1 e1 _ (setAll_en (en.mono l1) D1 h2)⟩
theorem ms_setI {fo fi : EvF} (hs : PS X st (tAsg (tM X.K X.mg f) (gSub (tM X.K X.mg fo) (tM X.K X.mg fi) rSetL))) : MS X st (mSetI f fo fi) := ps_imp hs <| by
  rintro Dd σ H ⟨c, ρ, o, S', ⟨rfl, k, en⟩, q, p⟩
  obtain ⟨⟨x, S1⟩, h1, q⟩ := bd q
  obtain ⟨⟨y, S2⟩, h2, q⟩ := bd q
  obtain ⟨⟨z, S3⟩, h3, q⟩ := bd q
  refine ⟨c, ρ, x, S1, .of k en, h1, fun v c1 l1 k1 e1 D1 => ?_⟩
  refine ⟨c1, ρ, y, S2, .of k1 (en.mono l1), by rw [e1]; exact h2, fun w c2 l2 k2 e2 D2 => ?_⟩
  refine ⟨c2, ρ, z, S3, .of k2 (en.mono (l1.trans l2)), by rw [e2]; exact h3, fun u c3 l3 k3 e3 D3 => ?_⟩
  obtain ⟨j, rfl⟩ : ∃ j, y = .ref j := by
    cases y with
    | ref j => exact ⟨j, rfl⟩
    | _ => cases q
  obtain ⟨n, rfl⟩ : ∃ n, z = .int n := by
    cases z with
    | int n => exact ⟨n, rfl⟩
    | _ => cases q
  have q' : (stSet S3 j n x).map (fun S' => (Out.nx ρ, S')) = some (o, S') := q
  obtain ⟨S4, h4, q'⟩ := mp q'
  cases q'
  unfold stSet at h4
  cases hS : S3[j]? with
  | none => rw [hS] at h4; cases h4
  | some ob =>
    cases ob with
    | dct _ => rw [hS] at h4; cases h4
    | ins _ _ => rw [hS] at h4; cases h4
    | lst xs =>
      rw [hS] at h4
      obtain ⟨m, h5, h6⟩ := mp h4
      have hS' : c3.S[j]? = some (.lst xs) := by rw [e3]; exact hS
      obtain ⟨vs, hv, dv⟩ := k3.at_ j _ hS'
      have D2' := D2.mono l3
      cases D2' with
      | ref hj =>
        cases D3
        refine ⟨c3.π j, vs, n, m, rfl, rfl, hv, by rw [dv.length]; exact h5, ?_⟩
        have dx := dv.set (D1.mono (l2.trans l3)) m
        refine p (c3.put j (.lst (vs.set m v)) (.lst (xs.set m x))) (((l1.trans l2).trans l3).trans (put_le hj)) (put_ok k3 hj ⟨_, upd_same, dx.mono (put_le hj)⟩) ?_ σ (en.mono (((l1.trans l2).trans l3).trans (put_le hj)))
        show c3.S.set j _ = _
        rw [e3]; exact h6
end
end M

namespace M
open PySem PySem.Spec L2 W2 RZ

/-! ### defs -/
abbrev Fn := List D → Sto → Option (D × Sto)
/-- a def with n names whose body is g -/
def mDef (n : Nat) (g : StF) : Fn := fun ds S => (g (ds.map some ++ List.replicate (n - ds.length) none) S).bind fun x => match x.1 with
  | .rt d => some (d, x.2)
  | .nx _ => some (.non, x.2)
  | _ => none
def spM (K : PySem.W.Frag) (mg : Str → Option Value) (np : Nat) (F : Fn) : Sp := fun vs H Q _ => vs.length = np ∧ ∃ c ds d S', c.H = H ∧ Ok K mg c ∧ DenA K mg c vs ds ∧ F ds c.S = some (d, S') ∧ Post K mg c S' d Q
theorem start_en {K : PySem.W.Frag} {mg : Str → Option Value} {c : Cfg} {N : List Str} {vs : List V} {ds : List D} (h : DenA K mg c vs ds) : EnD K mg c (L2.start N vs) (ds.map some ++ List.replicate (N.length - ds.length) none) := by
  have l := h.length
  refine ⟨by unfold L2.start; simp [l], fun i d q => ?_⟩
  unfold L2.start
  by_cases z : i < ds.length
  · rw [List.getElem?_append_left (by simpa using z), List.getElem?_map] at q
    cases e : ds[i]? with
    | none => rw [e] at q; cases q
    | some u =>
      rw [e] at q
      cases q
      obtain ⟨v, h1, h2⟩ := h.get e
      refine ⟨v, ?_, h2⟩
      rw [List.getElem?_append_left (by simpa [l] using z), List.getElem?_map, h1]
      rfl
  · rw [List.getElem?_append_right (by simpa using z), List.getElem?_replicate] at q
    split at q <;> cases q
structure Cal (P : Program) (w : World) (K : PySem.W.Frag) (mg : Str → Option Value) (base : Heap) (k : Nat) (x : Str) (np : Nat) (F : Fn) : Prop where
  ex : ∃ (f : Addr) (fd : FuncData) (ps : List Str), mg x = some (.ref f) ∧ PySem.W.keepIn K (.ref f) = true ∧ Binds K fd ps [] ∧ FnG P w K mg base k f fd ps (spM K mg np F) ∧ ps.length = np
theorem Cal.mono {P : Program} {w : World} {K : PySem.W.Frag} {mg : Str → Option Value} {base : Heap} {k j : Nat} {x : Str} {np : Nat} {F : Fn} (h : Cal P w K mg base k x np F) (l : k ≤ j) : Cal P w K mg base j x np F := by
  obtain ⟨f, fd, ps, a, b, c, d, e⟩ := h.ex
  exact ⟨f, fd, ps, a, b, c, ⟨d.len, fun A o s H ar us vs Q E hr => d.run A o s H ar us vs Q E (hr.mono l)⟩, e⟩
theorem def_ok {P : Program} {w : World} {K : PySem.W.Frag} {mg : Str → Option Value} {base : Heap} {x qual : Str} {st : Stmt} {f : Addr} {fd : FuncData} {N ps : List Str} {k : Nat} {g : StF} (F : Fun K x qual st f fd) (S : FnScope N ps (defScope st))
    (body : ∀ (c : Value) (A : Around) (o : List Env) (s : Shared) (H : Hp) (E : XK), Rm k (A.deeper (PyProof.Rows.envOfC qual (defScope st) s.heap.objs.size f c)) → MSs (cxOf (L2.CX P w) P w K mg base N qual (defScope st) f c A o s H E).nox (defBody st) g) :
    FnG P w K mg base (k + 1) f fd ps (spM K mg ps.length (mDef N.length g)) := by
  refine fnG_of F S (fun vs H Q E h => h.1) fun c A o s H vs Q E hr h => ⟨_, body c A o s H E hr, ?_⟩
  obtain ⟨hl, cf, ds, d, S', rfl, k, D1, q, p⟩ := h
  obtain ⟨⟨x, S1⟩, h1, q⟩ := bd q
  refine ⟨cf, _, x, S1, .of k (start_en D1), h1, fun c1 l1 k1 e1 => ?_⟩
  cases x with
  | nx ρ' =>
    cases q
    exact fun σ' en' => p _ c1 l1 k1 e1 .non
  | rt d' =>
    cases q
    exact fun v D2 => p v c1 l1 k1 e1 D2
  | bk ρ' => cases q
  | ct ρ' => cases q
def mCall (F : Fn) (fa : EaF) : EvF := fun ρ S => (fa ρ S).bind fun x => F x.1 x.2
section
variable {X : Cx} {pos p : Pos} {e : Expr} {es : List Expr} {f : EvF} {fa : EaF} {k np : Nat} {x : Str} {F : Fn}
theorem arg_len {K : PySem.W.Frag} {mg : Str → Option Value} {c : Cfg} : ∀ {ds : List D} {vs : List V}, DenA K mg c vs ds → vs.length = ds.length := fun h => h.length
theorem me_call (C : Cal X.prog X.w X.K X.mg X.base k x np F) (hr : Rm k X.A) (hg : Gl X x) (ha : MA X (e :: es) fa) (hn : ∀ ρ S ds S', fa ρ S = some (ds, S') → ds.length = np)
    (hdb : (x == ("__debug__" : Str)) = false := by decide) (he : starEach (e :: es) X.env = (false, eval e X.env) :: starEach es X.env := by rfl) (hpl : (backTo pos (starEach es X.env)).any (·.1) = false := by rfl) :
    ME X (.Call (.Name x p) (e :: es) [] pos) (mCall F fa) := by
  obtain ⟨f, fd, ps, hm, hk, hb, G, hl⟩ := C.ex
  refine pe_imp (pe_G G hr hg hm hk hb ha hdb he hpl) ?_
  rintro σ H Q ⟨c, ρ, d, S', ⟨rfl, k, en⟩, q, p⟩
  obtain ⟨⟨ds, S1⟩, h1, q⟩ := bd q
  refine ⟨c, ρ, ds, S1, .of k en, h1, fun vs c1 l1 k1 e1 D1 => ?_⟩
  exact ⟨by rw [D1.length]; exact hn _ _ _ _ h1, c1, ds, d, S', rfl, k1, D1, by rw [e1]; exact q, p.mono l1⟩
end
theorem mcons_len {f : EvF} {g : EaF} {n : Nat} (h : ∀ ρ S ds S', g ρ S = some (ds, S') → ds.length = n) : ∀ ρ S ds S', mCons f g ρ S = some (ds, S') → ds.length = n + 1 := by
  intro ρ S ds S' q
  obtain ⟨x, h1, q⟩ := bd q
  obtain ⟨y, h2, q⟩ := mp q
  cases q
  simp [h _ _ _ _ h2]
theorem mnil_len : ∀ ρ S ds S', mNil ρ S = some (ds, S') → ds.length = 0 := by
  intro ρ S ds S' q
  cases q
  rfl

/-! ### what is walked -/
/-- the iterator gives the things ds, wherever one stands behind c -/
def Enum (K : PySem.W.Frag) (mg : Str → Option Value) (c : Cfg) (J : It) (ds : List D) : Prop := ∀ i c1, Lw c c1 → Ok K mg c1 →
  (∀ d, ds[i]? = some d → J.go i c1.H ∧ ∀ x H', J.yld i c1.H x H' → ∃ c2, c2.H = H' ∧ Le c1 c2 ∧ Ok K mg c2 ∧ c2.S = c1.S ∧ Den K mg c2 x d) ∧ (ds.length ≤ i → J.stop i c1.H)
abbrev SrF := En → Sto → Option (List D × Sto)
def tI (K : PySem.W.Frag) (mg : Str → Option Value) (f : SrF) : TI := fun σ H R => ∃ c ρ ds S', At K mg c ρ σ H ∧ f ρ c.S = some (ds, S') ∧ ∀ J c1, Le c c1 → Ok K mg c1 → c1.S = S' → Enum K mg c1 J ds → R J c1.H
abbrev MI (X : Cx) (tg it : Expr) (f : SrF) : Prop := PI X tg it (tI X.K X.mg f)
theorem pi_imp {X : Cx} {a e : Expr} {t t' : TI} (h : PI X a e t) (w : ∀ σ H R, t' σ H R → t σ H R) : PI X a e t' :=
  ⟨fun pins s σ H R I q => h.run pins s σ H R I (w σ H R q)⟩
/-- a list that stays, a tuple -/
def sL (f : EvF) : SrF := fun ρ S => (f ρ S).bind fun x => match x.1 with
  | .lst ds => some (ds, x.2)
  | _ => none
def sT (f : EvF) : SrF := fun ρ S => (f ρ S).bind fun x => match x.1 with
  | .tup ds => some (ds, x.2)
  | _ => none
def upto (n : Nat) : List D := (List.range n).map fun (i : Nat) => D.int (i : Int)
def sR (f : EaF) : SrF := fun ρ S => (f ρ S).bind fun x => match x.1 with
  | [.int n] => if n ≤ 1000000 ∧ -1000000 ≤ n then some (upto n.toNat, x.2) else none
  | _ => none
def sS (f : EvF) : SrF := fun ρ S => (f ρ S).bind fun x => match x.1 with
  | .str z => some (z.cps.toList.map fun c => .str ⟨#[c]⟩, x.2)
  | _ => none
def sZ (f : EaF) : SrF := fun ρ S => (f ρ S).bind fun x => match x.1 with
  | [.tup as, .tup bs] => some (List.zipWith (fun a b => .tup [a, b]) as bs, x.2)
  | _ => none
theorem one_int {α : Type} {g : Int → Option α} {d : α} (x : List D) (k : Unit) (q : (match x with | [.int n] => g n | _ => none) = some d) : ∃ n, x = [.int n] := by
  split at q
  · exact ⟨_, rfl⟩
  · cases q
theorem two_tup {α : Type} {g : List D → List D → Option α} {d : α} (x : List D) (k : Unit) (q : (match x with | [.tup as, .tup bs] => g as bs | _ => none) = some d) : ∃ as bs, x = [.tup as, .tup bs] := by
  split at q
  · exact ⟨_, _, rfl⟩
  · cases q
section
variable {X : Cx} {tg it : Expr} {f : EvF} {fa : EaF}
theorem DenA.getd {K : PySem.W.Frag} {mg : Str → Option Value} {c : Cfg} : ∀ {ds : List D} {vs : List V} {i : Nat} {v : V}, DenA K mg c vs ds → vs[i]? = some v → ∃ d, ds[i]? = some d ∧ Den K mg c v d
  | [], _, _, _, h, e => by cases h; simp at e
  | d :: ds, _, 0, _, h, e => by
    cases h with
    | cons a b => simp at e; subst e; exact ⟨_, rfl, a⟩
  | d :: ds, _, i + 1, _, h, e => by
    cases h with
    | cons a b =>
      obtain ⟨x, h1, h2⟩ := DenA.getd (i := i) b (by simpa using e)
      exact ⟨x, by simpa using h1, h2⟩
theorem enum_l {K : PySem.W.Frag} {mg : Str → Option Value} {c : Cfg} {a : Addr} {vs : List V} {ds : List D} (s : Sl K c a vs) (t : DenA K mg c vs ds) : Enum K mg c (Itl K a) ds := by
  intro i c1 l k
  have s1 := (s.mw l).get
  refine ⟨fun d e => ?_, fun h => ⟨vs, s1, by rw [t.length]; exact h⟩⟩
  obtain ⟨v, h1, h2⟩ := t.get e
  refine ⟨⟨vs, v, s1, h1⟩, ?_⟩
  rintro x H' ⟨rfl, q⟩
  have := q vs s1
  rw [h1] at this
  cases this
  exact ⟨c1, rfl, .refl _, k, rfl, h2.mw l⟩
theorem enum_t {K : PySem.W.Frag} {mg : Str → Option Value} {c : Cfg} {a : Addr} {vs : List V} {ds : List D} (s : Tl K c a vs) (t : DenA K mg c vs ds) : Enum K mg c (Itt K a) ds := by
  intro i c1 l k
  have s1 := (s.mw l).get
  refine ⟨fun d e => ?_, fun h => ⟨vs, s1, by rw [t.length]; exact h⟩⟩
  obtain ⟨v, h1, h2⟩ := t.get e
  refine ⟨⟨vs, v, s1, h1⟩, ?_⟩
  rintro x H' ⟨rfl, q⟩
  have := q vs s1
  rw [h1] at this
  cases this
  exact ⟨c1, rfl, .refl _, k, rfl, h2.mw l⟩
theorem mi_list (h : PI X tg it (iList X.K (tM X.K X.mg f))) : MI X tg it (sL f) := pi_imp h <| by
  rintro σ H R ⟨c, ρ, ds, S', ⟨rfl, k, en⟩, q, p⟩
  obtain ⟨⟨x, S1⟩, h1, q⟩ := bd q
  cases x <;> try (cases q)
  refine ⟨c, ρ, _, _, .of k en, h1, fun v c1 l1 k1 e1 D1 => ?_⟩
  cases D1 with
  | lst s t => exact ⟨_, rfl, ⟨_, s.get⟩, p _ c1 l1 k1 e1 (enum_l (.inl s) t)⟩
theorem mi_tup (h : PI X tg it (iTup X.K (tM X.K X.mg f))) : MI X tg it (sT f) := pi_imp h <| by
  rintro σ H R ⟨c, ρ, ds, S', ⟨rfl, k, en⟩, q, p⟩
  obtain ⟨⟨x, S1⟩, h1, q⟩ := bd q
  cases x <;> try (cases q)
  refine ⟨c, ρ, _, _, .of k en, h1, fun v c1 l1 k1 e1 D1 => ?_⟩
  cases D1 with
  | tup s t => exact ⟨_, rfl, ⟨_, s.get⟩, p _ c1 l1 k1 e1 (enum_t s t)⟩
theorem mi_range (h : PI X tg it (iRng1 (tAs X.K X.mg fa))) : MI X tg it (sR fa) := pi_imp h <| by
  rintro σ H R ⟨c, ρ, ds, S', ⟨rfl, k, en⟩, q, p⟩
  obtain ⟨⟨x, S1⟩, h1, q⟩ := bd q
  obtain ⟨n, rfl⟩ : ∃ n, x = [.int n] := one_int x () q
  have q' : (if n ≤ 1000000 ∧ -1000000 ≤ n then some (upto n.toNat, S1) else none) = some (ds, S') := q
  by_cases z : n ≤ 1000000 ∧ -1000000 ≤ n
  · rw [if_pos z] at q'
    cases q'
    refine ⟨c, ρ, _, _, .of k en, h1, fun vs c1 l1 k1 e1 D1 => ?_⟩
    cases D1 with
    | cons a b =>
      cases b
      cases a
      refine ⟨n, rfl, by omega, by omega, p _ c1 l1 k1 e1 fun i c2 l2 k2 => ⟨fun d e => ?_, fun hl => ?_⟩⟩
      · unfold upto at e
        rw [List.getElem?_map] at e
        obtain ⟨j, e1, e2⟩ := Option.map_eq_some_iff.mp e
        have l := lt_of_get e1
        rw [List.getElem?_range (by simpa using l)] at e1
        cases e1
        subst e2
        refine ⟨by show i < n.toNat; simpa using l, ?_⟩
        rintro x H' ⟨rfl, rfl⟩
        exact ⟨c2, rfl, .refl _, k2, rfl, by rw [Int.zero_add]; exact .int _⟩
      · show n.toNat ≤ i
        have : (upto n.toNat).length = n.toNat := by simp [upto]
        omega
  · rw [if_neg z] at q'
    cases q'
theorem mi_str (h : PI X tg it (iStr (tM X.K X.mg f))) : MI X tg it (sS f) := pi_imp h <| by
  rintro σ H R ⟨c, ρ, ds, S', ⟨rfl, k, en⟩, q, p⟩
  obtain ⟨⟨x, S1⟩, h1, q⟩ := bd q
  cases x <;> try (cases q)
  rename_i z
  refine ⟨c, ρ, _, _, .of k en, h1, fun v c1 l1 k1 e1 D1 => ?_⟩
  cases D1
  refine ⟨z, rfl, p _ c1 l1 k1 e1 fun i c2 l2 k2 => ⟨fun d e => ?_, fun hl => ?_⟩⟩
  · rw [List.getElem?_map] at e
    obtain ⟨j, e1, e2⟩ := Option.map_eq_some_iff.mp e
    subst e2
    rw [Array.getElem?_toList] at e1
    refine ⟨(Array.getElem?_eq_some_iff.mp e1).1, ?_⟩
    rintro x H' ⟨rfl, y, e3, rfl⟩
    rw [e1] at e3
    cases e3
    exact ⟨c2, rfl, .refl _, k2, rfl, .str _⟩
  · show z.cps.size ≤ i
    simpa using hl
theorem zip_get {α β γ : Type} {g : α → β → γ} {as : List α} {bs : List β} {i : Nat} {d : γ} (h : (List.zipWith g as bs)[i]? = some d) : ∃ a b, as[i]? = some a ∧ bs[i]? = some b ∧ d = g a b := by
  rw [List.getElem?_zipWith] at h
  cases e1 : as[i]? with
  | none => rw [e1] at h; cases h
  | some a =>
    cases e2 : bs[i]? with
    | none => rw [e1, e2] at h; cases h
    | some b => rw [e1, e2] at h; cases h; exact ⟨a, b, rfl, rfl, rfl⟩
theorem mi_zip (h : PI X tg it (iZipA X.K (tAs X.K X.mg fa))) : MI X tg it (sZ fa) := pi_imp h <| by
  rintro σ H R ⟨c, ρ, ds, S', ⟨rfl, k, en⟩, q, p⟩
  obtain ⟨⟨x, S1⟩, h1, q⟩ := bd q
  obtain ⟨as, bs, rfl⟩ : ∃ as bs, x = [.tup as, .tup bs] := two_tup x () q
  have q' : some (List.zipWith (fun a b => D.tup [a, b]) as bs, S1) = some (ds, S') := q
  cases q'
  refine ⟨c, ρ, _, _, .of k en, h1, fun vs c1 l1 k1 e1 D1 => ?_⟩
  cases D1 with
  | cons da D1 =>
    cases D1 with
    | cons db D1 =>
      cases D1
      cases da with
      | tup sa ta =>
        cases db with
        | tup sb tb =>
          refine ⟨_, _, _, _, rfl, .inr ⟨sa.get, sb.get, p _ c1 l1 k1 e1 fun i c2 l2 k2 => ?_⟩⟩
          have sa2 := (sa.mw l2).get
          have sb2 := (sb.mw l2).get
          refine ⟨fun d e => ?_, fun hl => ⟨_, _, sa2, sb2, ?_⟩⟩
          · obtain ⟨a, b, g1, g2, rfl⟩ := zip_get e
            obtain ⟨va, h1, ha⟩ := ta.get g1
            obtain ⟨vb, h2, hb⟩ := tb.get g2
            refine ⟨⟨_, _, va, vb, sa2, sb2, h1, h2⟩, ?_⟩
            rintro x H' ⟨T, x, y, rfl, hT, rfl, q1, q2⟩
            have r1 := q1 _ sa2
            have r2 := q2 _ sb2
            rw [h1] at r1
            rw [h2] at r2
            cases r1
            cases r2
            exact ⟨c2.lay T (.tup [va, vb]), rfl, lay_le hT, lay_ok k2 hT, rfl, den_tup k2 hT (.cons (ha.mw l2) (.cons (hb.mw l2) .nil))⟩
          · rw [ta.length, tb.length]
            have := List.length_zipWith (f := fun a b : D => D.tup [a, b]) (l₁ := as) (l₂ := bs)
            rw [this] at hl
            omega
end

/-! ### for -/
def loop (tg : TgF) (g : StF) : List D → StF
  | [], ρ, S => some (.nx ρ, S)
  | d :: ds, ρ, S => (tg ρ d).bind fun ρ1 => (g ρ1 S).bind fun x => match x.1 with
    | .nx ρ' => loop tg g ds ρ' x.2
    | .ct ρ' => loop tg g ds ρ' x.2
    | .bk ρ' => some (.nx ρ', x.2)
    | .rt d => some (.rt d, x.2)
def mFor (sr : SrF) (tg : TgF) (g : StF) : StF := fun ρ S => (sr ρ S).bind fun x => loop tg g x.1 ρ x.2
section
variable {X : Cx} {st : Stmt} {sr : SrF} {tg : TgF} {g : StF}
theorem ms_for (h : PS X st (tFor (tI X.K X.mg sr) (tG X.K X.mg tg) (tS X.K X.mg g))) : MS X st (mFor sr tg g) := ps_imp h <| by
  rintro Dd σ H ⟨c, ρ, o, S', ⟨rfl, k, en⟩, q, p⟩
  obtain ⟨⟨ds, S1⟩, h1, q⟩ := bd q
  refine ⟨c, ρ, ds, S1, .of k en, h1, fun J c1 l1 k1 e1 En => ?_⟩
  let W : Nat → L2.St → Hp → Prop := fun i σ H => ∃ c2 ρ2, At X.K X.mg c2 ρ2 σ H ∧ Le c1 c2 ∧ i ≤ ds.length ∧ loop tg g (ds.drop i) ρ2 c2.S = some (o, S')
  refine ⟨fun i m σ H => m = ds.length - i ∧ W i σ H, ⟨_, rfl, c1, ρ, .of k1 (en.mono l1), .refl _, Nat.zero_le _, by rw [e1]; exact q⟩, ?_⟩
  rintro i m σ' H' ⟨rfl, c2, ρ2, ⟨rfl, k2, en2⟩, l2, hi, q2⟩
  obtain ⟨Eg, Es⟩ := En i c2 l2.lw k2
  by_cases z : i < ds.length
  · right
    have e : ds[i]? = some ds[i] := List.getElem?_eq_getElem z
    obtain ⟨hg, hy⟩ := Eg _ e
    rw [List.drop_eq_getElem_cons z] at q2
    obtain ⟨ρ3, g1, q2⟩ := bd q2
    obtain ⟨⟨x, S3⟩, g2, q2⟩ := bd q2
    refine ⟨hg, W (i + 1), fun σ3 H3 w => ⟨ds.length - (i + 1), by omega, rfl, w⟩, fun v H3 y => ?_⟩
    obtain ⟨c3, rfl, l3, k3, e3, D3⟩ := hy v H3 y
    refine ⟨c3, ρ2, _, ρ3, .of k3 (en2.mono l3), D3, g1, fun σ4 en4 => ?_⟩
    refine ⟨c3, ρ3, x, S3, .of k3 en4, by rw [e3]; exact g2, fun c4 l4 k4 e4 => ?_⟩
    cases x with
    | nx ρ' => exact fun σ5 en5 => ⟨c4, ρ', .of k4 en5, l2.trans (l3.trans l4), z, by rw [e4]; exact q2⟩
    | ct ρ' => exact fun σ5 en5 => ⟨c4, ρ', .of k4 en5, l2.trans (l3.trans l4), z, by rw [e4]; exact q2⟩
    | bk ρ' =>
      cases q2
      exact p c4 (l1.trans (l2.trans (l3.trans l4))) k4 e4
    | rt d =>
      cases q2
      exact p c4 (l1.trans (l2.trans (l3.trans l4))) k4 e4
  · left
    have hl : ds.length ≤ i := by omega
    refine ⟨Es hl, ?_⟩
    rw [List.drop_eq_nil_of_le hl] at q2
    cases q2
    exact p c2 (l1.trans l2) k2 rfl σ' en2
end

/-! ### list comprehensions, one name -/
theorem ob_mw {K : PySem.W.Frag} {mg : Str → Option Value} {c c' : Cfg} (k : Ok K mg c) (e : Lw c c') {p : Addr} {o : Ob} (h : c'.H p = c.H p) (q : ObR K mg c p o) : ObR K mg c' p o := by
  cases o with
  | lst xs =>
    obtain ⟨vs, h1, h2⟩ := q
    exact ⟨vs, h.trans h1, h2.mw e⟩
  | dct xs =>
    obtain ⟨vs, h1, h2⟩ := q
    exact ⟨vs, h.trans h1, h2.mw e⟩
  | ins cn fs =>
    obtain ⟨C, dx, vs, h0, h1, h3, h2⟩ := q
    exact ⟨C, dx, vs, h0, h.trans h1, (e.nB dx _ (k.nBo h3 rfl) h3).1, h2.mw e⟩

def mapL (te : EvF) (tt : EtF) (j : Nat) (ρ : En) : List D → Sto → Option (List D × Sto)
  | [], S => some ([], S)
  | d :: ds, S => (tt (ρ.set j (some d)) S).bind fun b => if b.1 = true then
      (te (ρ.set j (some d)) b.2).bind fun y => (mapL te tt j ρ ds y.2).map fun r => (y.1 :: r.1, r.2)
    else mapL te tt j ρ ds b.2
def mLc (sr : SrF) (j : Nat) (tt : EtF) (te : EvF) : EvF := fun ρ S => (sr ρ S).bind fun x => (mapL te tt j (ρ.set j none) x.1 x.2).bind fun r => if r.1.length ≤ 100000 then some (.lst r.1, r.2) else none
def mYes : EtF := fun _ S => some (true, S)
theorem yes_go {K : PySem.W.Frag} {mg : Str → Option Value} {σ : L2.St} {H : Hp} {Q : Bool → Hp → Prop} (h : tT K mg mYes σ H Q) : tYes σ H Q := by
  obtain ⟨c, ρ, d, S', ⟨rfl, k, en⟩, q, p⟩ := h
  cases q
  exact p c (.refl c) k rfl
section
variable {X : Cx} {e : Expr} {sr : SrF} {tt : EtF} {te : EvF} {j : Nat}
theorem wipe_one (σ : L2.St) (j : Nat) (x : V) : wipe ((wipe σ [j]).set j (some x)) [j] = wipe σ [j] := by
  show (((σ.set j none).set j (some x)).set j none) = σ.set j none
  rw [List.set_set, List.set_set]
theorem lc_go {σ : L2.St} {H : Hp} {Q : VK} (h : tM X.K X.mg (mLc sr j tt te) σ H Q) : tLc (tI X.K X.mg sr) (gName j) (tT X.K X.mg tt) (tM X.K X.mg te) [j] σ H Q := by
  obtain ⟨c, ρ, d, S', ⟨rfl, k, en⟩, q, p⟩ := h
  obtain ⟨⟨ds, S1⟩, h1, q⟩ := bd q
  obtain ⟨⟨rs, S2⟩, h2, q⟩ := bd q
  have hz : rs.length ≤ 100000 := by
    by_cases z : rs.length ≤ 100000
    · exact z
    · rw [if_neg z] at q; cases q
  rw [if_pos hz] at q
  cases q
  refine ⟨c, ρ, ds, S1, .of k en, h1, fun J c1 l1 k1 e1 En Dl hD => ?_⟩
  let ρ0 := ρ.set j none
  -- the configuration while the list grows: Dl is shut out
  let W : Nat → Hp → Prop := fun i H => ∃ (c2 : Cfg) (acc : List V) (as bs : List D), c2.H = H ∧ Ok X.K X.mg c2 ∧ Lw c1 c2 ∧ (∀ a o, ¬ c1.Rg a → c1.H a = some o → c2.H a = some o ∧ ¬ c2.Rg a) ∧ c2.T = (fun a => c1.T a ∨ a = Dl) ∧
    c2.H Dl = some (.lst acc) ∧ DenA X.K X.mg c2 acc as ∧ i ≤ ds.length ∧ mapL te tt j ρ0 (ds.drop i) c2.S = some (bs, S2) ∧ as ++ bs = rs
  have c1n : ¬ c1.Rg Dl := fun q => ok_some k1 q hD
  refine ⟨fun i m H => m = ds.length - i ∧ W i H, ⟨_, rfl, { c1 with H := upd c1.H Dl (.lst []), T := fun a => c1.T a ∨ a = Dl }, [], [], rs, rfl, ?_, ?_, ?_, rfl, upd_same, .nil, Nat.zero_le _, by rw [← e1] at h2; exact h2, rfl⟩, ?_⟩
  · have lw : Lw c1 { c1 with H := upd c1.H Dl (.lst []), T := fun a => c1.T a ∨ a = Dl } := ⟨Nat.le_refl _, fun _ _ => rfl, fun a o n e => ⟨by show upd c1.H Dl _ a = _; rw [upd_ne (ne_of_none e hD)]; exact e, fun q => q.elim (fun q => n (.inl q)) fun q => q.elim (fun q => n (.inr q)) fun q => ne_of_none e hD q⟩⟩
    refine ⟨fun i xs q => ?_, k1.inj, fun a t => ?_⟩
    · obtain ⟨u, q1, _⟩ := rg_mu k1 ⟨i, lt_of_get q, rfl⟩
      exact ob_mw k1 lw (upd_ne (ne_of_none q1 hD)) (k1.at_ i xs q)
    · rcases t with t | t
      · obtain ⟨n, xs, e⟩ := k1.nT a t
        exact ⟨n, xs, (upd_ne (ne_of_none e hD)).trans e⟩
      · rw [t]
        exact ⟨c1n, [], upd_same⟩
  · exact ⟨Nat.le_refl _, fun _ _ => rfl, fun a o n e => ⟨by show upd c1.H Dl _ a = _; rw [upd_ne (ne_of_none e hD)]; exact e, fun q => q.elim (fun q => n (.inl q)) fun q => q.elim (fun q => n (.inr q)) fun q => ne_of_none e hD q⟩⟩
  · exact fun a o n e => ⟨by show upd c1.H Dl _ a = _; rw [upd_ne (ne_of_none e hD)]; exact e, n⟩
  rintro i m H' ⟨rfl, c2, acc, as, bs, rfl, k2, lw, kp, hT, hDl, Da, hi, q2, hr⟩
  have nD : ¬ c2.Rg Dl := (k2.nT Dl (by rw [hT]; exact .inr rfl)).1
  obtain ⟨Eg, Es⟩ := En i c2 lw k2
  by_cases z : i < ds.length
  · right
    have e : ds[i]? = some ds[i] := List.getElem?_eq_getElem z
    obtain ⟨hg, hy⟩ := Eg _ e
    rw [List.drop_eq_getElem_cons z] at q2
    obtain ⟨⟨b, S3⟩, g1, q2⟩ := bd q2
    refine ⟨hg, W (i + 1), fun H3 w => ⟨ds.length - (i + 1), by omega, rfl, w⟩, fun v H3 y => ?_⟩
    obtain ⟨c3, rfl, l3, k3, e3, D3⟩ := hy v H3 y
    refine ⟨wipe_one σ j v, ?_⟩
    have en0 : EnD X.K X.mg c2 (wipe σ [j]) ρ0 := (EnD.mw ((l1.lw).trans lw) en).wipe [j]
    have en3 : EnD X.K X.mg c3 ((wipe σ [j]).set j (some v)) (ρ0.set j (some ds[i])) := (en0.mono l3).set D3
    refine ⟨c3, _, b, S3, .of k3 en3, by rw [e3]; exact g1, fun c4 l4 k4 e4 => ?_⟩
    have l24 : Le c2 c4 := l3.trans l4
    cases b with
    | false =>
      have q2 : mapL te tt j ρ0 (ds.drop (i + 1)) S3 = some (bs, S2) := q2
      refine ⟨c4, acc, as, bs, rfl, k4, lw.trans l24.lw, fun a o n e => ?_, l24.T.trans hT, (l24.keep Dl _ nD hDl).1, Da.mono l24, z, by rw [e4]; exact q2, hr⟩
      obtain ⟨a1, a2⟩ := kp a o n e
      exact l24.keep a o a2 a1
    | true =>
      obtain ⟨⟨y, S4⟩, g2, q2⟩ := bd q2
      obtain ⟨⟨ys, S5⟩, g3, q2⟩ := mp q2
      cases q2
      refine ⟨c4, _, y, S4, .of k4 (en3.mono l4), by rw [e4]; exact g2, fun u c5 l5 k5 e5 D5 => ?_⟩
      have l25 : Le c2 c5 := l24.trans l5
      obtain ⟨hDl5, nD5⟩ := l25.keep Dl _ nD hDl
      have hlen : acc.length < sizeLine := by
        have : as.length ≤ rs.length := by rw [← hr]; simp
        rw [Da.length]
        exact Nat.lt_of_le_of_lt (Nat.le_trans this hz) (by decide)
      refine ⟨acc, hDl5, hlen, ?_⟩
      have lw6 : Lw c5 { c5 with H := upd c5.H Dl (.lst (acc ++ [u])) } := ⟨Nat.le_refl _, fun _ _ => rfl, fun a o n e => ⟨(upd_ne (fun q => n (.inr (by rw [l25.T, hT]; exact .inr q)))).trans e, n⟩⟩
      refine ⟨{ c5 with H := upd c5.H Dl (.lst (acc ++ [u])) }, acc ++ [u], as ++ [y], ys, rfl, ?_, (lw.trans l25.lw).trans lw6, fun a o n e => ?_, l25.T.trans hT, upd_same, ((Da.mono l25).mw lw6).app (.cons (D5.mw lw6) .nil), z, by show mapL te tt j ρ0 _ c5.S = _; rw [e5]; exact g3, by rw [List.append_assoc]; exact hr⟩
      · refine ⟨fun i xs q => ?_, k5.inj, fun a t => ⟨(k5.nT a t).1, ?_⟩⟩
        · exact ob_mw k5 lw6 (upd_ne (fun q' => nD5 ⟨i, lt_of_get q, q'⟩)) (k5.at_ i xs q)
        · by_cases z : a = Dl
          · rw [z]; exact ⟨_, upd_same⟩
          · obtain ⟨_, xs, e⟩ := k5.nT a t
            exact ⟨xs, (upd_ne z).trans e⟩
      · have ne : a ≠ Dl := fun q => by rw [q, hD] at e; cases e
        obtain ⟨a1, a2⟩ := kp a o n e
        obtain ⟨b1, b2⟩ := l25.keep a o a2 a1
        exact ⟨(upd_ne ne).trans b1, b2⟩
  · left
    have hl : ds.length ≤ i := by omega
    refine ⟨Es hl, ?_⟩
    rw [List.drop_eq_nil_of_le hl] at q2
    cases q2
    rw [List.append_nil] at hr
    subst hr
    -- Dl is let in again
    have lw7 : Lw c2 { c2 with T := c1.T } := ⟨Nat.le_refl _, fun _ _ => rfl, fun a o n e => ⟨e, fun q => q.elim (fun q => n (.inl q)) fun q => n (.inr (by rw [hT]; exact .inl q))⟩⟩
    have nT1 : ¬ c1.T Dl := fun t => by
      obtain ⟨_, xs, e⟩ := k1.nT Dl t
      rw [hD] at e; cases e
    refine p _ { c2 with T := c1.T } ?_ ?_ rfl (.lst ⟨fun q => q.elim nD nT1, .inl hDl⟩ (Da.mw lw7))
    · exact ⟨Nat.le_trans l1.len lw.len, fun j h => (lw.pi j (Nat.lt_of_lt_of_le h l1.len)).trans (l1.pi j h), fun a o n e => let ⟨x1, x2⟩ := l1.keep a o n e; kp a o x2 x1, l1.T⟩
    · refine ⟨fun i xs q => ob_mw k2 lw7 rfl (k2.at_ i xs q), k2.inj, fun a t => k2.nT a (by rw [hT]; exact .inl t)⟩
theorem me_lc (h : PE X e (tLc (tI X.K X.mg sr) (gName j) (tT X.K X.mg tt) (tM X.K X.mg te) [j])) : ME X e (mLc sr j tt te) := pe_imp h fun _ _ _ => lc_go
theorem ms_setLc {st : Stmt} {i : Nat} (h : PS X st (tAsg (tLc (tI X.K X.mg sr) (gName j) (tT X.K X.mg tt) (tM X.K X.mg te) [j]) (gName i))) : MS X st (mAsg (mLc sr j tt te) (gN i)) := ps_imp h <| by
  rintro Dd σ H ⟨c, ρ, o, S', ⟨rfl, k, en⟩, q, p⟩
  obtain ⟨x, h1, q1⟩ := bd q
  obtain ⟨ρ', h2, q2⟩ := mp q1
  cases q2
  cases h2
  exact lc_go ⟨c, ρ, x.1, x.2, .of k en, h1, fun v c1 l1 k1 e1 D1 => p c1 l1 k1 e1 _ ((en.mono l1).set D1)⟩
theorem mts_nil : PTs X [] (tT X.K X.mg mYes) := ⟨fun pins s σ H Q I h => (pts_nil (X := X)).run pins s σ H Q I (yes_go h)⟩
end
end M

namespace M
open PySem PySem.Spec L2 W2 RZ

/-! ### operations -/
def addD : D → D → Option D
  | .int a, .int b => some (.int (a + b))
  | .str a, .str b => if a.length + b.length ≤ 1000000 then some (.str (a ++ b)) else none
  | .tup a, .tup b => if a.length + b.length ≤ 100000 then some (.tup (a ++ b)) else none
  | .lst a, .lst b => if a.length + b.length ≤ 100000 then some (.lst (a ++ b)) else none
  | _, _ => none
def subD : D → D → Option D
  | .int a, .int b => some (.int (a - b))
  | _, _ => none
def smul (x : Str) (n : Nat) : Str := ⟨(List.replicate n x.cps).foldl (· ++ ·) #[]⟩
theorem foldl_app_size (x : Array Nat) : ∀ (l : List (Array Nat)) (a : Array Nat), (∀ y ∈ l, y = x) → (l.foldl (· ++ ·) a).size = a.size + l.length * x.size
  | [], a, _ => by simp
  | y :: l, a, h => by
    have e : y = x := h y List.mem_cons_self
    have ih := foldl_app_size x l (a ++ y) fun z hz => h z (List.mem_cons_of_mem _ hz)
    rw [List.foldl_cons, ih, Array.size_append, e, List.length_cons, Nat.add_mul]
    omega
theorem smul_len (x : Str) (n : Nat) : (smul x n).length = n * x.length := by
  show ((List.replicate n x.cps).foldl (· ++ ·) #[]).size = _
  rw [foldl_app_size x.cps _ _ fun y hy => (List.mem_replicate.mp hy).2]
  simp [Str.length]
def mulD : D → D → Option D
  | .int a, .int b => if a.natAbs < 2 ^ 63 ∨ b.natAbs < 2 ^ 63 then some (.int (a * b)) else none
  | .str a, .int b => if 1 ≤ b ∧ b ≤ 1000000 ∧ a.length * b.toNat ≤ 1000000 then some (.str (if b = 1 ∨ a.length = 0 then a else smul a b.toNat)) else if b ≤ 0 ∧ -1000000 ≤ b then some (.str Str.empty) else none
  | _, _ => none
def modD : D → D → Option D
  | .int a, .int b => if 0 < b then some (.int (a % b)) else none
  | _, _ => none
def fdvD : D → D → Option D
  | .int a, .int b => if 0 < b ∧ b < 1073741824 then some (.int (a / b)) else none
  | _, _ => none
def powD : D → D → Option D
  | .int a, .int b => if 0 ≤ b ∧ b ≤ 1000000 ∧ a.natAbs < 2 ^ 64 then some (.int (a ^ b.toNat)) else none
  | _, _ => none
def ltD : D → D → Option D
  | .int a, .int b => some (.bl (decide (a < b)))
  | .str a, .str b => some (.bl (decide (a.cps.toList < b.cps.toList)))
  | _, _ => none
def leD : D → D → Option D
  | .int a, .int b => some (.bl (decide (a ≤ b)))
  | _, _ => none
def gtD : D → D → Option D
  | .int a, .int b => some (.bl (decide (b < a)))
  | .str a, .str b => some (.bl (decide (b.cps.toList < a.cps.toList)))
  | _, _ => none
def geD : D → D → Option D
  | .int a, .int b => some (.bl (decide (b ≤ a)))
  | _, _ => none
def isD : D → D → Option D
  | .bl a, .bl b => some (.bl (decide (a = b)))
  | .non, .non => some (.bl true)
  | .ref _, .non => some (.bl false)
  | .fn _, .non => some (.bl false)
  | .ty _, .non => some (.bl false)
  | .bl _, .non => some (.bl false)
  | .int _, .non => some (.bl false)
  | .str _, .non => some (.bl false)
  | .lst _, .non => some (.bl false)
  | .tup _, .non => some (.bl false)
  | .dct _, .non => some (.bl false)
  | .seq _, .non => some (.bl false)
  | .cls _, .non => some (.bl false)
  | .err _ _, .non => some (.bl false)
  | _, _ => none
def isntD (a b : D) : Option D := match isD a b with
  | some (.bl x) => some (.bl (!x))
  | _ => none
/-- one sign in a text -/
def inD : D → D → Option D
  | .str a, .str b => if a.cps.size = 1 then some (.bl (decide (a.cps.getD 0 0 ∈ b.cps.toList))) else none
  | _, _ => none
def ninD (a b : D) : Option D := match inD a b with
  | some (.bl x) => some (.bl (!x))
  | _ => none
/-! to the library's data, without dicts -/
mutual
def toP : D → Option PyData
  | .non => some .none
  | .bl b => some (.bool b)
  | .int i => some (.int i)
  | .str x => some (.str x)
  | .lst ds => (toPA ds).map .list
  | .tup ds => (toPA ds).map .tuple
  | .dct _ => none
  | .ref _ => none
  | .fn _ => none
  | .ty _ => none
  | .seq _ => none
  | .cls _ => none
  | .err _ _ => none
def toPA : List D → Option (List PyData)
  | [] => some []
  | d :: ds => (toP d).bind fun x => (toPA ds).map fun r => x :: r
end
def eqD0 (a b : D) : Option D := match toP a, toP b with
  | some x, some y => if SeqAt.shaped x = true ∧ SeqAt.shaped y = true then some (.bl (PyData.eqv x y)) else none
  | _, _ => none
def eqD (a b : D) : Option D := match a, b with
  | .str x, .str y => some (.bl (decide (x = y)))
  | .int x, .int y => some (.bl (decide (x = y)))
  | a, b => eqD0 a b
def neD (a b : D) : Option D := match eqD a b with
  | some (.bl x) => some (.bl (!x))
  | _ => none

section
variable {X : Cx}
mutual
theorem den_dp {K : PySem.W.Frag} {mg : Str → Option Value} {c : Cfg} : ∀ {d : D} {v : V} {x : PyData}, Den K mg c v d → toP d = some x → Dp K c.H v x
  | .non, _, _, h, e => by cases h; cases e; exact .non
  | .bl b, _, _, h, e => by cases h; cases e; exact .bl b
  | .int b, _, _, h, e => by cases h; cases e; exact .int b
  | .str b, _, _, h, e => by cases h; cases e; exact .str b
  | .lst ds, _, _, h, e => by
    cases h with
    | lst s t =>
      rw [toP] at e
      obtain ⟨xs, e1, rfl⟩ := mp e
      exact .lst s.get (den_dpA t e1)
  | .tup ds, _, _, h, e => by
    cases h with
    | tup s t =>
      rw [toP] at e
      obtain ⟨xs, e1, rfl⟩ := mp e
      exact .tup s.get (den_dpA t e1)
  | .dct _, _, _, _, e => by rw [toP] at e; cases e
  | .ref _, _, _, _, e => by rw [toP] at e; cases e
  | .fn _, _, _, _, e => by rw [toP] at e; cases e
  | .ty _, _, _, _, e => by rw [toP] at e; cases e
  | .seq _, _, _, _, e => by rw [toP] at e; cases e
  | .cls _, _, _, _, e => by rw [toP] at e; cases e
  | .err _ _, _, _, _, e => by rw [toP] at e; cases e
theorem den_dpA {K : PySem.W.Frag} {mg : Str → Option Value} {c : Cfg} : ∀ {ds : List D} {vs : List V} {xs : List PyData}, DenA K mg c vs ds → toPA ds = some xs → DpAll K c.H vs xs
  | [], _, _, h, e => by cases h; rw [toPA] at e; cases e; exact .nil
  | d :: ds, _, _, h, e => by
    cases h with
    | cons a b =>
      rw [toPA] at e
      obtain ⟨x, e1, e⟩ := bd e
      obtain ⟨xs, e2, rfl⟩ := mp e
      exact .cons (den_dp a e1) (den_dpA b e2)
end
theorem od_add : OpD X (binaryOp .Add) addD := by
  rintro pins s σ H x y v u Q I rx ry ⟨c, a, b, z, rfl, k, Da, Db, e, P⟩
  cases a <;> cases b <;> try (cases e)
  · cases Da; cases Db
    exact op_add pins s σ _ _ _ v u Q I rx ry ⟨_, _, rfl, rfl, P.here k (.int _)⟩
  · rename_i i j
    cases Da; cases Db
    have e' : (if i.length + j.length ≤ 1000000 then some (D.str (i ++ j)) else none) = some z := e
    by_cases l : i.length + j.length ≤ 1000000
    · rw [if_pos l] at e'; cases e'
      exact op_add_str pins s σ _ _ _ v u Q I rx ry ⟨_, _, rfl, rfl, Nat.le_trans l (by decide), P.here k (.str _)⟩
    · rw [if_neg l] at e'; cases e'
  · rename_i i j
    have e' : (if i.length + j.length ≤ 100000 then some (D.lst (i ++ j)) else none) = some z := e
    by_cases l : i.length + j.length ≤ 100000
    · rw [if_pos l] at e'; cases e'
      cases Da with
      | lst s1 t1 =>
        cases Db with
        | lst s2 t2 =>
          obtain ⟨z1, its, n, r, g⟩ := s1.2.ok I.hok
          obtain ⟨z2, its2, n2, r2, g2⟩ := s2.2.ok I.hok
          cases rx
          cases ry
          have q1 := r.length
          have q2 := r2.length
          have q3 := t1.length
          have q4 := t2.length
          refine PySem.P.add_list g g2 ?_ (by rw [List.size_toArray, List.size_toArray, sizeLine_eq]; omega)
          rw [show its.toArray ++ its2.toArray = (its ++ its2).toArray by simp]
          exact ⟨.ref _, _, I.lnew (t' := s.toks) (r.append r2) (by rw [List.length_append, sizeLine_eq]; omega), rfl, post_lst P k (t1.app t2) _ I.fresh⟩
    · rw [if_neg l] at e'; cases e'
  · rename_i i j
    have e' : (if i.length + j.length ≤ 100000 then some (D.tup (i ++ j)) else none) = some z := e
    by_cases l : i.length + j.length ≤ 100000
    · rw [if_pos l] at e'; cases e'
      cases Da with
      | tup s1 t1 =>
        cases Db with
        | tup s2 t2 =>
          refine op_catA pins s σ _ _ _ v u Q I rx ry ⟨_, _, _, _, rfl, rfl, s1.get, s2.get, by rw [t1.length, t2.length]; exact sz5 l, fun q => ?_, fun q1 q2 => ?_, fun q1 q2 => ?_⟩
          · have : i = [] := by have := t1.length; rw [q] at this; exact List.length_eq_zero_iff.mp this.symm
            subst this
            exact P.here k (.tup s2 t2)
          · have : j = [] := by have := t2.length; rw [q2] at this; exact List.length_eq_zero_iff.mp this.symm
            subst this
            rw [List.append_nil] at P
            exact P.here k (.tup s1 t1)
          · exact post_tup P k (t1.app t2)
    · rw [if_neg l] at e'; cases e'
theorem od_sub : OpD X (binaryOp .Sub) subD := by
  rintro pins s σ H x y v u Q I rx ry ⟨c, a, b, z, rfl, k, Da, Db, e, P⟩
  cases a <;> cases b <;> try (cases e)
  cases Da; cases Db
  exact op_sub pins s σ _ _ _ v u Q I rx ry ⟨_, _, rfl, rfl, P.here k (.int _)⟩
theorem od_mod : OpD X (binaryOp .Mod) modD := by
  rintro pins s σ H x y v u Q I rx ry ⟨c, a, b, z, rfl, k, Da, Db, e, P⟩
  cases a <;> cases b <;> try (cases e)
  rename_i i j
  cases Da; cases Db
  have e' : (if 0 < j then some (D.int (i % j)) else none) = some z := e
  by_cases l : 0 < j
  · rw [if_pos l] at e'; cases e'
    exact op_mod pins s σ _ _ _ v u Q I rx ry ⟨_, _, rfl, rfl, l, P.here k (.int _)⟩
  · rw [if_neg l] at e'; cases e'
theorem od_fdv : OpD X (binaryOp .FloorDiv) fdvD := by
  rintro pins s σ H x y v u Q I rx ry ⟨c, a, b, z, rfl, k, Da, Db, e, P⟩
  cases a <;> cases b <;> try (cases e)
  rename_i i j
  cases Da; cases Db
  have e' : (if 0 < j ∧ j < 1073741824 then some (D.int (i / j)) else none) = some z := e
  by_cases l : 0 < j ∧ j < 1073741824
  · rw [if_pos l] at e'; cases e'
    exact op_fdiv pins s σ _ _ _ v u Q I rx ry ⟨_, _, rfl, rfl, l, P.here k (.int _)⟩
  · rw [if_neg l] at e'; cases e'
theorem od_pow : OpD X (binaryOp .Pow) powD := by
  rintro pins s σ H x y v u Q I rx ry ⟨c, a, b, z, rfl, k, Da, Db, e, P⟩
  cases a <;> cases b <;> try (cases e)
  rename_i i j
  cases Da; cases Db
  have e' : (if 0 ≤ j ∧ j ≤ 1000000 ∧ i.natAbs < 2 ^ 64 then some (D.int (i ^ j.toNat)) else none) = some z := e
  by_cases l : 0 ≤ j ∧ j ≤ 1000000 ∧ i.natAbs < 2 ^ 64
  · rw [if_pos l] at e'; cases e'
    exact op_pow pins s σ _ _ _ v u Q I rx ry ⟨_, _, rfl, rfl, l, P.here k (.int _)⟩
  · rw [if_neg l] at e'; cases e'
theorem od_mul : OpD X (binaryOp .Mult) mulD := by
  rintro pins s σ H x y v u Q I rx ry ⟨c, a, b, z, rfl, k, Da, Db, e, P⟩
  cases a <;> cases b <;> try (cases e)
  · rename_i i j
    cases Da; cases Db
    have e' : (if i.natAbs < 2 ^ 63 ∨ j.natAbs < 2 ^ 63 then some (D.int (i * j)) else none) = some z := e
    by_cases l : i.natAbs < 2 ^ 63 ∨ j.natAbs < 2 ^ 63
    · rw [if_pos l] at e'; cases e'
      refine op_mul pins s σ _ _ _ v u Q I rx ry ⟨_, _, rfl, rfl, ?_, P.here k (.int _)⟩
      unfold CMul
      omega
    · rw [if_neg l] at e'; cases e'
  · rename_i a b
    cases Da; cases Db
    obtain ⟨t, rfl⟩ := (show ∃ t, v = Value.str a t from rx)
    obtain ⟨t', rfl⟩ := (show ∃ t, u = Value.int b t from ry)
    have e' : (if 1 ≤ b ∧ b ≤ 1000000 ∧ a.length * b.toNat ≤ 1000000 then some (D.str (if b = 1 ∨ a.length = 0 then a else smul a b.toNat)) else if b ≤ 0 ∧ -1000000 ≤ b then some (D.str Str.empty) else none) = some z := e
    by_cases l : 1 ≤ b ∧ b ≤ 1000000 ∧ a.length * b.toNat ≤ 1000000
    · rw [if_pos l] at e'; cases e'
      have h1 : (decide (b < -(2 ^ 63 : Int)) || decide (b ≥ 2 ^ 63)) = false := by
        rw [decide_eq_false (by omega), decide_eq_false (by omega)]; rfl
      have hb0 : ¬ b < 1 := by omega
      have hbn : ((b.toNat : Nat) : Int) = b := by omega
      refine PySem.P.mul_str h1 (fun _ q => ?_) (fun _ q => ?_) ?_
      · have : (a.length : Int) ≤ (2 ^ 63 - 1) / b := by
          rw [Int.le_ediv_iff_mul_le (by omega)]
          have h2 : ((a.length * b.toNat : Nat) : Int) ≤ 1000000 := by omega
          rw [Int.natCast_mul, hbn] at h2
          omega
        omega
      · have : ¬ a.length * b.toNat > sizeLine := by rw [sizeLine_eq]; omega
        exact decide_eq_false this
      · rw [if_neg hb0]
        by_cases q : b = 1 ∨ a.length = 0
        · have q' : (b == 1 || a.length == 0) = true := by simpa using q
          rw [if_pos q']
          rw [if_pos q] at P
          exact ⟨.str a, c.H, I, ⟨_, rfl⟩, P.here k (.str _)⟩
        · have q' : ¬ (b == 1 || a.length == 0) = true := by simpa using q
          rw [if_neg q']
          rw [if_neg q] at P
          refine ⟨?_, .str _, c.H, I.tok _, ⟨_, rfl⟩, P.here k (.str _)⟩
          show (smul a b.toNat).length ≤ sizeLine
          rw [smul_len, sizeLine_eq]
          have := l.2.2
          rw [Nat.mul_comm] at this
          omega
    · rw [if_neg l] at e'
      by_cases l2 : b ≤ 0 ∧ -1000000 ≤ b
      · rw [if_pos l2] at e'; cases e'
        exact PySem.P.mul_str_none (by omega) (by omega) ⟨.str _, c.H, I.tok _, ⟨_, rfl⟩, P.here k (.str _)⟩
      · rw [if_neg l2] at e'; cases e'
end
end M

namespace M
open PySem PySem.Spec L2 W2 RZ

section
variable {X : Cx}
theorem od_lt : OpD X (compareOp .Lt) ltD := by
  rintro pins s σ H x y v u Q I rx ry ⟨c, a, b, z, rfl, k, Da, Db, e, P⟩
  cases a <;> cases b <;> try (cases e)
  · cases Da; cases Db
    exact op_lt pins s σ _ _ _ v u Q I rx ry ⟨_, _, rfl, rfl, P.here k (.bl _)⟩
  · cases Da; cases Db
    exact op_lt_str pins s σ _ _ _ v u Q I rx ry ⟨_, _, rfl, rfl, P.here k (.bl _)⟩
theorem od_le : OpD X (compareOp .LtE) leD := by
  rintro pins s σ H x y v u Q I rx ry ⟨c, a, b, z, rfl, k, Da, Db, e, P⟩
  cases a <;> cases b <;> try (cases e)
  cases Da; cases Db
  exact op_le pins s σ _ _ _ v u Q I rx ry ⟨_, _, rfl, rfl, P.here k (.bl _)⟩
theorem od_gt : OpD X (compareOp .Gt) gtD := by
  rintro pins s σ H x y v u Q I rx ry ⟨c, a, b, z, rfl, k, Da, Db, e, P⟩
  cases a <;> cases b <;> try (cases e)
  · cases Da; cases Db
    exact op_gt pins s σ _ _ _ v u Q I rx ry ⟨_, _, rfl, rfl, P.here k (.bl _)⟩
  · cases Da; cases Db
    exact op_gt_str pins s σ _ _ _ v u Q I rx ry ⟨_, _, rfl, rfl, P.here k (.bl _)⟩
theorem od_ge : OpD X (compareOp .GtE) geD := by
  rintro pins s σ H x y v u Q I rx ry ⟨c, a, b, z, rfl, k, Da, Db, e, P⟩
  cases a <;> cases b <;> try (cases e)
  cases Da; cases Db
  exact op_ge pins s σ _ _ _ v u Q I rx ry ⟨_, _, rfl, rfl, P.here k (.bl _)⟩
theorem od_is : OpD X (compareOp .Is) isD := by
  rintro pins s σ H x y v u Q I rx ry ⟨c, a, b, z, rfl, k, Da, Db, e, P⟩
  cases a <;> cases b <;> first | (cases e; done) | skip
  all_goals cases Db
  all_goals cases e
  all_goals cases Da
  all_goals first
    | exact op_isBl pins s σ _ _ _ v u Q I rx ry ⟨_, _, rfl, rfl, P.here k (.bl _)⟩
    | exact op_isN pins s σ _ _ _ v u Q I rx ry ⟨rfl, P.here k (.bl _)⟩
theorem od_isnt : OpD X (compareOp .IsNot) isntD := by
  rintro pins s σ H x y v u Q I rx ry ⟨c, a, b, z, rfl, k, Da, Db, e, P⟩
  cases a <;> cases b <;> first | (cases e; done) | skip
  all_goals cases Db
  all_goals cases e
  all_goals cases Da
  all_goals first
    | exact op_notBl pins s σ _ _ _ v u Q I rx ry ⟨_, _, rfl, rfl, P.here k (.bl _)⟩
    | exact op_notN pins s σ _ _ _ v u Q I rx ry ⟨rfl, P.here k (.bl _)⟩
theorem one_sign {a : Str} (h : a.cps.size = 1) : a = ⟨#[a.cps.getD 0 0]⟩ := by
  obtain ⟨⟨l⟩⟩ := a
  match l, h with
  | [x], _ => rfl
theorem od_in : OpD X (compareOp .In) inD := by
  rintro pins s σ H x y v u Q I rx ry ⟨c, a, b, z, rfl, k, Da, Db, e, P⟩
  cases a <;> cases b <;> try (cases e)
  rename_i a b
  cases Da; cases Db
  have e' : (if a.cps.size = 1 then some (D.bl (decide (a.cps.getD 0 0 ∈ b.cps.toList))) else none) = some z := e
  by_cases l : a.cps.size = 1
  · rw [if_pos l] at e'; cases e'
    exact op_in_sign pins s σ _ _ _ v u Q I rx ry ⟨a.cps.getD 0 0, b, by rw [← one_sign l], rfl, P.here k (.bl _)⟩
  · rw [if_neg l] at e'; cases e'
theorem od_nin : OpD X (compareOp .NotIn) ninD := by
  rintro pins s σ H x y v u Q I rx ry ⟨c, a, b, z, rfl, k, Da, Db, e, P⟩
  unfold ninD at e
  cases a <;> cases b <;> try (cases e)
  rename_i a b
  cases Da; cases Db
  have e0 : inD (.str a) (.str b) = if a.cps.size = 1 then some (D.bl (decide (a.cps.getD 0 0 ∈ b.cps.toList))) else none := rfl
  rw [e0] at e
  by_cases l : a.cps.size = 1
  · rw [if_pos l] at e; cases e
    exact op_notIn_sign pins s σ _ _ _ v u Q I rx ry ⟨a.cps.getD 0 0, b, by rw [← one_sign l], rfl, P.here k (.bl _)⟩
  · rw [if_neg l] at e; cases e
theorem od_eq (hr : Rg X.A) : OpD X (compareOp .Eq) eqD := by
  rintro pins s σ H x y v u Q I rx ry ⟨c, a, b, z, rfl, k, Da, Db, e, P⟩
  unfold eqD at e
  split at e
  · cases Da; cases Db; cases e
    rename_i p q
    exact op_eq pins s σ _ _ _ v u Q I rx ry ⟨rfl, by rw [show decide (V.str p = V.str q) = decide (p = q) from decide_eq_decide.mpr ⟨fun h => V.str.inj h, fun h => by rw [h]⟩]; exact P.here k (.bl _)⟩
  · cases Da; cases Db; cases e
    rename_i p q
    exact op_eq pins s σ _ _ _ v u Q I rx ry ⟨rfl, by rw [show decide (V.int p = V.int q) = decide (p = q) from decide_eq_decide.mpr ⟨fun h => V.int.inj h, fun h => by rw [h]⟩]; exact P.here k (.bl _)⟩
  · unfold eqD0 at e
    split at e
    · rename_i p q h1 h2
      by_cases l : SeqAt.shaped p = true ∧ SeqAt.shaped q = true
      · rw [if_pos l] at e; cases e
        exact op_eqD hr.units pins s σ _ _ _ v u Q I rx ry ⟨_, _, den_dp Da h1, den_dp Db h2, l.1, l.2, P.here k (.bl _)⟩
      · rw [if_neg l] at e; cases e
    · cases e
theorem od_ne (hr : Rg X.A) : OpD X (compareOp .NotEq) neD := by
  rintro pins s σ H x y v u Q I rx ry ⟨c, a, b, z, rfl, k, Da, Db, e, P⟩
  unfold neD eqD at e
  split at e
  · rename_i t h0
    split at h0
    · cases Da; cases Db; cases h0; cases e
      rename_i p q
      exact op_ne pins s σ _ _ _ v u Q I rx ry ⟨rfl, by rw [show decide (V.str p = V.str q) = decide (p = q) from decide_eq_decide.mpr ⟨fun h => V.str.inj h, fun h => by rw [h]⟩]; exact P.here k (.bl _)⟩
    · cases Da; cases Db; cases h0; cases e
      rename_i p q
      exact op_ne pins s σ _ _ _ v u Q I rx ry ⟨rfl, by rw [show decide (V.int p = V.int q) = decide (p = q) from decide_eq_decide.mpr ⟨fun h => V.int.inj h, fun h => by rw [h]⟩]; exact P.here k (.bl _)⟩
    · unfold eqD0 at h0
      split at h0
      · rename_i p q h1 h2
        by_cases l : SeqAt.shaped p = true ∧ SeqAt.shaped q = true
        · rw [if_pos l] at h0; cases h0; cases e
          exact op_neD hr.units pins s σ _ _ _ v u Q I rx ry ⟨_, _, den_dp Da h1, den_dp Db h2, l.1, l.2, P.here k (.bl _)⟩
        · rw [if_neg l] at h0; cases h0
      · cases h0
  · cases e
end

/-! ### subscripts, slices -/
def ixD (S : Sto) : D → D → Option D
  | .lst xs, .int i => atI xs i
  | .tup xs, .int i => atI xs i
  | .seq xs, .int i => atI xs i
  | .str x, .int i => if x.length ≤ 1000000 then (atI x.cps.toList i).map fun c => .str ⟨#[c]⟩ else none
  | .ref j, .int i => match S[j]? with
    | some (.lst xs) => atI xs i
    | _ => none
  | _, _ => none
def mIx (f g : EvF) : EvF := fun ρ S => (f ρ S).bind fun x => (g ρ x.2).bind fun y => (ixD y.2 x.1 y.1).map fun z => (z, y.2)
def optI : Option D → Option (Option Int)
  | none => some none
  | some (.int i) => some (some i)
  | _ => none
abbrev EoF := En → Sto → Option (Option Int × Sto)
def mNoP : EoF := fun _ S => some (none, S)
def mP (f : EvF) : EoF := fun ρ S => (f ρ S).bind fun x => match x.1 with
  | .int i => some (some i, x.2)
  | _ => none
def cut {α : Type} (xs : List α) (lo hi : Option Int) : List α := (xs.drop (HT.sIx xs.length 0 lo)).take (HT.sIx xs.length xs.length hi - HT.sIx xs.length 0 lo)
def slD (S : Sto) (d : D) (lo hi : Option Int) : Option D := match d with
  | .lst xs => some (.lst (cut xs lo hi))
  | .seq xs => some (.lst (cut xs lo hi))
  | .tup xs => some (.tup (cut xs lo hi))
  | .str x => if x.length ≤ 1000000 then some (.str (cutS x lo hi)) else none
  | _ => none
def mSl (f : EvF) (l h : EoF) : EvF := fun ρ S => (f ρ S).bind fun x => (l ρ x.2).bind fun y => (h ρ y.2).bind fun z => (slD z.2 x.1 y.1 z.1).map fun w => (w, z.2)
section
variable {X : Cx} {e : Expr} {f g : EvF} {l h : EoF}
theorem atI_len {α β : Type} {xs : List α} {ys : List β} {i : Int} (hl : xs.length = ys.length) {d : β} (e : atI ys i = some d) : ∃ j, ixN ys.length i = some j ∧ ys[j]? = some d ∧ ∀ v, xs[j]? = some v → atI xs i = some v := by
  unfold atI at e
  obtain ⟨j, h1, h2⟩ := bd e
  refine ⟨j, h1, h2, fun v q => ?_⟩
  unfold atI
  rw [hl, h1]
  exact q
theorem den_at {K : PySem.W.Frag} {mg : Str → Option Value} {c : Cfg} {vs : List V} {ds : List D} {i : Int} {d : D} (t : DenA K mg c vs ds) (e : atI ds i = some d) : ∃ v, atI vs i = some v ∧ Den K mg c v d := by
  obtain ⟨j, h1, h2, h3⟩ := atI_len t.length e
  obtain ⟨v, q1, q2⟩ := t.get h2
  exact ⟨v, h3 v q1, q2⟩
theorem me_ix (hx : PE X e (tOp (rIx X.K) (tM X.K X.mg f) (tM X.K X.mg g))) : ME X e (mIx f g) := pe_imp hx <| by
  rintro σ H Q ⟨c, ρ, d, S', ⟨rfl, k, en⟩, q, p⟩
  obtain ⟨x, h1, q1⟩ := bd q
  clear q
  obtain ⟨y, h2, q2⟩ := bd q1
  clear q1
  obtain ⟨z, h3, q3⟩ := mp q2
  clear q2
  cases q3
  refine ⟨c, ρ, x.1, x.2, .of k en, h1, fun v c1 l1 k1 e1 D1 => ?_⟩
  refine ⟨c1, ρ, y.1, y.2, .of k1 (en.mono l1), by rw [e1]; exact h2, fun w c2 l2 k2 e2 D2 => ?_⟩
  have D1' := D1.mono l2
  have P := p.mono (l1.trans l2)
  rw [← e2] at P h3
  obtain ⟨x, S1⟩ := x
  obtain ⟨y, S2⟩ := y
  cases x <;> cases y <;> try (cases h3)
  · rename_i z i
    have h3' : (if z.length ≤ 1000000 then (atI z.cps.toList i).map fun c => D.str ⟨#[c]⟩ else none) = some d := h3
    by_cases lz : z.length ≤ 1000000
    · rw [if_pos lz] at h3'
      obtain ⟨ch, q1, rfl⟩ := mp h3'
      cases D1'; cases D2
      exact .inr (.inr ⟨_, _, _, rfl, rfl, Nat.le_trans lz (by decide), q1, P.here k2 (.str _)⟩)
    · rw [if_neg lz] at h3'; cases h3'
  · cases D2
    cases D1' with
    | lst s t =>
      obtain ⟨v, q1, q2⟩ := den_at t h3
      exact .inl ⟨_, _, _, _, rfl, rfl, s.get, q1, P.here k2 q2⟩
  · cases D2
    cases D1' with
    | tup s t =>
      obtain ⟨v, q1, q2⟩ := den_at t h3
      exact .inr (.inl ⟨_, _, _, _, rfl, rfl, s.get, q1, P.here k2 q2⟩)
  · rename_i j i
    cases D2
    cases D1' with
    | ref hj =>
      have h3' : (match c2.S[j]? with | some (.lst xs) => atI xs i | _ => none) = some d := h3
      split at h3'
      · rename_i xs hS
        obtain ⟨vs, hv, t⟩ := k2.at_ _ _ hS
        obtain ⟨v, q1, q2⟩ := den_at t h3'
        exact .inl ⟨_, _, _, _, rfl, rfl, .inl (.inl hv), q1, P.here k2 q2⟩
      · cases h3'
  · cases D2
    cases D1' with
    | seq s t =>
      obtain ⟨v, q1, q2⟩ := den_at t h3
      exact .inl ⟨_, _, _, _, rfl, rfl, s.get, q1, P.here k2 q2⟩
def tO (K : PySem.W.Frag) (mg : Str → Option Value) (f : EoF) : TO := fun σ H Q => ∃ c ρ o S', At K mg c ρ σ H ∧ f ρ c.S = some (o, S') ∧ ∀ c', Le c c' → Ok K mg c' → c'.S = S' → Q o c'.H
theorem po_imp {X : Cx} {e : Option Expr} {t t' : TO} (h : PO X e t) (w : ∀ σ H Q, t' σ H Q → t σ H Q) : PO X e t' :=
  ⟨fun pins s σ H Q I q => h.run pins s σ H Q I (w σ H Q q)⟩
theorem mo_none : PO X none (tO X.K X.mg mNoP) := po_imp po_none <| by
  rintro σ H Q ⟨c, ρ, d, S', ⟨rfl, k, en⟩, q, p⟩
  cases q
  exact p c (.refl c) k rfl
theorem mo_some (he : ME X e f) : PO X (some e) (tO X.K X.mg (mP f)) := po_imp (po_some he) <| by
  rintro σ H Q ⟨c, ρ, d, S', ⟨rfl, k, en⟩, q, p⟩
  obtain ⟨⟨x, S1⟩, h1, q⟩ := bd q
  refine ⟨c, ρ, x, S1, .of k en, h1, fun v c1 l1 k1 e1 D1 => ?_⟩
  cases x <;> try (cases q)
  cases D1
  exact ⟨_, rfl, p c1 l1 k1 e1⟩
theorem den_cut {K : PySem.W.Frag} {mg : Str → Option Value} {c : Cfg} {vs : List V} {ds : List D} {lo hi : Option Int} (t : DenA K mg c vs ds) : DenA K mg c (cutV vs lo hi) (cut ds lo hi) := by
  unfold cutV cut
  rw [t.length]
  exact (t.drop _).take _
def rSl3 (K : PySem.W.Frag) : V → Option Int → Option Int → Hp → VK → Prop := fun x lo hi H Q => (rSlL K x lo hi H Q ∨ rSlA K x lo hi H Q) ∨ rSlS x lo hi H Q
theorem sl3 : SlR X (rSl3 X.K) := (sl_list.or sl_tupA).or sl_str
theorem cut_all {α : Type} {xs : List α} {lo hi : Option Int} (h : HT.sIx xs.length 0 lo = 0 ∧ HT.sIx xs.length xs.length hi = xs.length) : cut xs lo hi = xs := by
  unfold cut
  rw [h.1, h.2, List.drop_zero, Nat.sub_zero, List.take_length]
theorem me_sl (hx : PE X e (tSl (rSl3 X.K) (tM X.K X.mg f) (tO X.K X.mg l) (tO X.K X.mg h))) : ME X e (mSl f l h) := pe_imp hx <| by
  rintro σ H Q ⟨c, ρ, d, S', ⟨rfl, k, en⟩, q, p⟩
  obtain ⟨⟨x, S1⟩, h1, q1⟩ := bd q
  clear q
  obtain ⟨⟨y, S2⟩, h2, q2⟩ := bd q1
  clear q1
  obtain ⟨⟨z, S3⟩, h3, q3⟩ := bd q2
  clear q2
  obtain ⟨w, h4, q4⟩ := mp q3
  clear q3
  cases q4
  refine ⟨c, ρ, x, S1, .of k en, h1, fun v c1 l1 k1 e1 D1 => ?_⟩
  refine ⟨c1, ρ, y, S2, .of k1 (en.mono l1), by rw [e1]; exact h2, fun c2 l2 k2 e2 => ?_⟩
  refine ⟨c2, ρ, z, S3, .of k2 (en.mono (l1.trans l2)), by rw [e2]; exact h3, fun c3 l3 k3 e3 => ?_⟩
  have DD := D1.mono (l2.trans l3)
  have P := p.mono ((l1.trans l2).trans l3)
  rw [← e3] at P
  cases x <;> try (cases h4)
  · rename_i s
    have h4' : (if s.length ≤ 1000000 then some (D.str (cutS s y z)) else none) = some d := h4
    by_cases ls : s.length ≤ 1000000
    · rw [if_pos ls] at h4'; cases h4'
      cases DD
      exact .inr ⟨_, rfl, Nat.le_trans ls (by decide), P.here k3 (.str _)⟩
    · rw [if_neg ls] at h4'; cases h4'
  · cases DD with
    | lst s t => exact .inl (.inl ⟨_, _, rfl, s.get, post_lst P k3 (den_cut t)⟩)
  · cases DD with
    | tup s t =>
      refine .inl (.inr ⟨_, _, rfl, s.get, fun q => ?_, fun q => post_tup P k3 (den_cut t)⟩)
      rw [t.length] at q
      rw [cut_all q] at P
      exact P.here k3 (.tup s t)
  · cases DD with
    | seq s t => exact .inl (.inl ⟨_, _, rfl, s.get, post_lst P k3 (den_cut t)⟩)
end

/-! ### calls of built-ins -/
abbrev CbF := Sto → List D → Option D
def rD (K : PySem.W.Frag) (mg : Str → Option Value) (op : CbF) : List V → Hp → VK → Prop := fun xs H Q => ∃ c ds z, c.H = H ∧ Ok K mg c ∧ DenA K mg c xs ds ∧ op c.S ds = some z ∧ Post K mg c c.S z Q
abbrev CallD (X : Cx) (f : Value) (op : CbF) : Prop := CallR X f (rD X.K X.mg op)
def mCb (op : CbF) (fa : EaF) : EvF := fun ρ S => (fa ρ S).bind fun x => (op x.2 x.1).map fun z => (z, x.2)
theorem me_cb {X : Cx} {e : Expr} {op : CbF} {fa : EaF} (h : PE X e (tCB (rD X.K X.mg op) (tAs X.K X.mg fa))) : ME X e (mCb op fa) := pe_imp h <| by
  rintro σ H Q ⟨c, ρ, d, S', ⟨rfl, k, en⟩, q, p⟩
  obtain ⟨⟨ds, S1⟩, h1, q⟩ := bd q
  obtain ⟨z, h2, q⟩ := mp q
  cases q
  refine ⟨c, ρ, ds, S1, .of k en, h1, fun vs c1 l1 k1 e1 D1 => ⟨c1, ds, d, rfl, k1, D1, by rw [e1]; exact h2, by rw [e1]; exact p.mono l1⟩⟩
def lenD : CbF := fun S ds => match ds with
  | [.str x] => if x.length ≤ 1000000 then some (.int x.length) else none
  | [.lst xs] => some (.int xs.length)
  | [.tup xs] => some (.int xs.length)
  | [.seq xs] => some (.int xs.length)
  | [.ref j] => match S[j]? with
    | some (.lst xs) => some (.int xs.length)
    | _ => none
  | _ => none
def absD : CbF := fun _ ds => match ds with
  | [.int i] => some (.int (if i < 0 then -i else i))
  | _ => none
def intD : CbF := fun _ ds => match ds with
  | [.int i] => some (.int i)
  | [.bl b] => some (.int (if b then 1 else 0))
  | _ => none
def intsOf : List D → Option (List Int)
  | [] => some []
  | .int i :: r => (intsOf r).map fun x => i :: x
  | _ => none
def sumD : CbF := fun _ ds => match ds with
  | [.lst xs] => (intsOf xs).map fun ns => .int ns.sum
  | _ => none
def max2D : CbF := fun _ ds => match ds with
  | [.int i, .int j] => some (.int (if j > i then j else i))
  | _ => none
def min2D : CbF := fun _ ds => match ds with
  | [.int i, .int j] => some (.int (if j < i then j else i))
  | _ => none
def listD : CbF := fun S ds => match ds with
  | [.lst xs] => some (.lst xs)
  | [.tup xs] => some (.lst xs)
  | [.seq xs] => some (.lst xs)
  | _ => none
def tupD : CbF := fun S ds => match ds with
  | [.lst xs] => some (.tup xs)
  | [.tup xs] => some (.tup xs)
  | _ => none
def isiD (d : D) (n : String) : Option Bool :=
  match d with
  | .fn _ => none
  | .ty _ => none
  | .seq _ => none
  | .cls _ => none
  | .ref _ => none
  | .err _ _ => none
  | d => if n = "int" then some (match d with | .int _ => true | .bl _ => true | _ => false)
    else if n = "bool" then some (match d with | .bl _ => true | _ => false)
    else if n = "str" then some (match d with | .str _ => true | _ => false)
    else if n = "tuple" then some (match d with | .tup _ => true | _ => false)
    else if n = "list" then some (match d with | .lst _ => true | _ => false)
    else if n = "dict" then some (match d with | .dct _ => true | _ => false)
    else none
def isD2 : CbF := fun _ ds => match ds with
  | [d, .ty n] => (isiD d n).map .bl
  | _ => none
/-- the same where a thing of the store may stand -/
def isR2 : CbF := fun S ds => match ds with
  | [.ref j, .ty n] => match S[j]? with
    | some (.lst _) => (isiD (.lst []) n).map .bl
    | some (.dct _) => (isiD (.dct []) n).map .bl
    | _ => none
  | [d, .ty n] => (isiD d n).map .bl
  | _ => none
section
variable {X : Cx}
theorem da1 {K : PySem.W.Frag} {mg : Str → Option Value} {c : Cfg} {xs : List V} {d : D} (h : DenA K mg c xs [d]) : ∃ x, xs = [x] ∧ Den K mg c x d := by
  cases h with
  | cons a b => cases b; exact ⟨_, rfl, a⟩
theorem da2 {K : PySem.W.Frag} {mg : Str → Option Value} {c : Cfg} {xs : List V} {d e : D} (h : DenA K mg c xs [d, e]) : ∃ x y, xs = [x, y] ∧ Den K mg c x d ∧ Den K mg c y e := by
  cases h with
  | cons a b =>
    obtain ⟨y, rfl, q⟩ := da1 b
    exact ⟨_, y, rfl, a, q⟩
theorem cd_len : CallD X (.builtin "len") lenD := by
  rintro pins s σ H xs us Q I r ⟨c, ds, z, rfl, k, D1, e, P⟩
  unfold lenD at e
  split at e
  · rename_i x
    obtain ⟨v, rfl, q⟩ := da1 D1
    cases q
    split at e
    · cases e
      rename_i l
      exact call_len_str pins s σ _ _ us Q I r ⟨_, rfl, Nat.le_trans l (by decide), P.here k (.int _)⟩
    · cases e
  · obtain ⟨v, rfl, q⟩ := da1 D1
    cases e
    cases q with
    | lst s1 t1 => exact call_len_seq pins s σ _ _ us Q I r ⟨_, _, rfl, .inl s1.get, by rw [t1.length]; exact P.here k (.int _)⟩
  · obtain ⟨v, rfl, q⟩ := da1 D1
    cases e
    cases q with
    | tup s1 t1 => exact call_len_seq pins s σ _ _ us Q I r ⟨_, _, rfl, .inr s1.get, by rw [t1.length]; exact P.here k (.int _)⟩
  · obtain ⟨v, rfl, q⟩ := da1 D1
    cases e
    cases q with
    | seq s1 t1 => exact call_len_seq pins s σ _ _ us Q I r ⟨_, _, rfl, .inl s1.get, by rw [t1.length]; exact P.here k (.int _)⟩
  · obtain ⟨v, rfl, q⟩ := da1 D1
    split at e
    · rename_i xs hS
      cases e
      cases q with
      | ref hj =>
        obtain ⟨vs, hv, t⟩ := k.at_ _ _ hS
        exact call_len_seq pins s σ _ _ us Q I r ⟨_, _, rfl, .inl (.inl (.inl hv)), by rw [t.length]; exact P.here k (.int _)⟩
    · cases e
  · cases e
theorem cd_abs : CallD X (.builtin "abs") absD := by
  rintro pins s σ H xs us Q I r ⟨c, ds, z, rfl, k, D1, e, P⟩
  unfold absD at e
  split at e
  · obtain ⟨v, rfl, q⟩ := da1 D1
    cases q
    cases e
    exact call_abs pins s σ _ _ us Q I r ⟨_, rfl, P.here k (.int _)⟩
  · cases e
theorem cd_int : CallD X (.type "int") intD := by
  rintro pins s σ H xs us Q I r ⟨c, ds, z, rfl, k, D1, e, P⟩
  unfold intD at e
  split at e
  · obtain ⟨v, rfl, q⟩ := da1 D1
    cases q
    cases e
    exact call_int1 pins s σ _ _ us Q I r (.inl ⟨_, rfl, P.here k (.int _)⟩)
  · obtain ⟨v, rfl, q⟩ := da1 D1
    cases q
    cases e
    exact call_int1 pins s σ _ _ us Q I r (.inr ⟨_, rfl, P.here k (.int _)⟩)
  · cases e
theorem den_ints {K : PySem.W.Frag} {mg : Str → Option Value} {c : Cfg} : ∀ {ds : List D} {vs : List V} {ns : List Int}, DenA K mg c vs ds → intsOf ds = some ns → vs = ns.map V.int
  | [], _, _, h, e => by cases h; cases e; rfl
  | d :: ds, _, _, h, e => by
    cases d <;> try (cases e)
    obtain ⟨x, h1, rfl⟩ := mp (show (intsOf ds).map _ = _ from e)
    cases h with
    | cons a b =>
      cases a
      rw [den_ints b h1]
      rfl
theorem cd_sum (hc : X.calm = true) : CallD X (.builtin "sum") sumD := by
  rintro pins s σ H xs us Q I r ⟨c, ds, z, rfl, k, D1, e, P⟩
  unfold sumD at e
  split at e
  · obtain ⟨v, rfl, q⟩ := da1 D1
    obtain ⟨ns, h1, rfl⟩ := mp e
    cases q with
    | lst s1 t1 =>
      have h2 := den_ints t1 h1
      subst h2
      exact cr_sum hc pins s σ _ _ us Q I r ⟨_, _, rfl, s1.get, P.here k (.int _)⟩
  · cases e
theorem cd_max2 (hc : X.calm = true) : CallD X (.builtin "max") max2D := by
  rintro pins s σ H xs us Q I r ⟨c, ds, z, rfl, k, D1, e, P⟩
  unfold max2D at e
  split at e
  · obtain ⟨v, w, rfl, q1, q2⟩ := da2 D1
    cases q1; cases q2
    cases e
    exact call_max2 hc pins s σ _ _ us Q I r ⟨_, _, rfl, P.here k (.int _)⟩
  · cases e
theorem cd_min2 (hc : X.calm = true) : CallD X (.builtin "min") min2D := by
  rintro pins s σ H xs us Q I r ⟨c, ds, z, rfl, k, D1, e, P⟩
  unfold min2D at e
  split at e
  · obtain ⟨v, w, rfl, q1, q2⟩ := da2 D1
    cases q1; cases q2
    cases e
    exact call_min2 hc pins s σ _ _ us Q I r ⟨_, _, rfl, P.here k (.int _)⟩
  · cases e
theorem cd_list : CallD X (.type "list") listD := by
  rintro pins s σ H xs us Q I r ⟨c, ds, z, rfl, k, D1, e, P⟩
  unfold listD at e
  split at e
  · obtain ⟨v, rfl, q⟩ := da1 D1
    cases e
    cases q with
    | lst s1 t1 => exact call_list_of pins s σ _ _ us Q I r ⟨_, _, rfl, .inl s1.get, post_lst P k t1⟩
  · obtain ⟨v, rfl, q⟩ := da1 D1
    cases e
    cases q with
    | tup s1 t1 => exact call_list_of pins s σ _ _ us Q I r ⟨_, _, rfl, .inr s1.get, post_lst P k t1⟩
  · obtain ⟨v, rfl, q⟩ := da1 D1
    cases e
    cases q with
    | seq s1 t1 => exact call_list_of pins s σ _ _ us Q I r ⟨_, _, rfl, .inl s1.get, post_lst P k t1⟩
  · cases e
theorem cd_tup : CallD X (.type "tuple") tupD := by
  rintro pins s σ H xs us Q I r ⟨c, ds, z, rfl, k, D1, e, P⟩
  unfold tupD at e
  split at e
  · obtain ⟨v, rfl, q⟩ := da1 D1
    cases e
    cases q with
    | lst s1 t1 => exact call_tuple_of pins s σ _ _ us Q I r ⟨_, _, rfl, .inl ⟨s1.get, post_tup P k t1⟩⟩
  · obtain ⟨v, rfl, q⟩ := da1 D1
    cases e
    cases q with
    | tup s1 t1 => exact call_tuple_of pins s σ _ _ us Q I r ⟨_, _, rfl, .inr ⟨s1.get, P.here k (.tup s1 t1)⟩⟩
  · cases e
theorem tyx_tup {K : PySem.W.Frag} {c : Cfg} {a : Addr} {xs : List V} (h : Tl K c a xs) : TyX K c.H (.ref a) (.type "tuple") := by
  rcases h with ⟨_, h | ⟨o, h⟩⟩ | h
  · exact .base (.tup h)
  · exact .fTuple h
  · rcases h with (h | ⟨o, h⟩) | ⟨o, its, n, h1, h2, _⟩
    · cases h
    · cases h
    · exact .kTuple h1 h2
theorem tyx_lst {K : PySem.W.Frag} {c : Cfg} {a : Addr} {xs : List V} (h : Ll c a xs) : TyX K c.H (.ref a) (.type "list") := by
  rcases h with ⟨_, h | ⟨o, h⟩⟩
  · exact .base (.lst h)
  · exact .base (.frz h)
theorem kit4 (t : String) (n : String) (ht : t = "NoneType" ∨ t = "bool" ∨ t = "int" ∨ t = "str" ∨ t = "list" ∨ t = "tuple" ∨ t = "dict") (hn : n = "int" ∨ n = "bool" ∨ n = "str" ∨ n = "tuple" ∨ n = "list" ∨ n = "dict") :
    kitB t n = some (t == n || (t == "bool" && n == "int")) := by
  rcases ht with rfl | rfl | rfl | rfl | rfl | rfl | rfl <;> rcases hn with rfl | rfl | rfl | rfl | rfl | rfl <;> decide +kernel
theorem den_ty {K : PySem.W.Frag} {mg : Str → Option Value} {c : Cfg} {v : V} {d : D} {n : String} {b : Bool} (k : Ok K mg c) (h : Den K mg c v d) (e : isiD d n = some b) : ∃ t, TyX K c.H v (.type t) ∧ kitB t n = some b := by
  have hn : n = "int" ∨ n = "bool" ∨ n = "str" ∨ n = "tuple" ∨ n = "list" ∨ n = "dict" := by
    unfold isiD at e
    split at e <;> try (cases e)
    repeat' (split at e)
    all_goals first | (cases e; done) | (simp_all; done)
  have go : ∀ t, (t = "NoneType" ∨ t = "bool" ∨ t = "int" ∨ t = "str" ∨ t = "list" ∨ t = "tuple" ∨ t = "dict") → TyX K c.H v (.type t) → b = (t == n || (t == "bool" && n == "int")) → ∃ t, TyX K c.H v (.type t) ∧ kitB t n = some b :=
    fun t ht ty hb => ⟨t, ty, by rw [kit4 t n ht hn, hb]⟩
  cases d with
  | non => cases h; exact go "NoneType" (by simp) (.base .non) (by rcases hn with rfl | rfl | rfl | rfl | rfl | rfl <;> simp [isiD] at e <;> (first | (rw [← e]; decide) | (rw [e]; decide)))
  | bl x => cases h; exact go "bool" (by simp) (.base (.bl x)) (by rcases hn with rfl | rfl | rfl | rfl | rfl | rfl <;> simp [isiD] at e <;> (first | (rw [← e]; decide) | (rw [e]; decide)))
  | int x => cases h; exact go "int" (by simp) (.base (.int x)) (by rcases hn with rfl | rfl | rfl | rfl | rfl | rfl <;> simp [isiD] at e <;> (first | (rw [← e]; decide) | (rw [e]; decide)))
  | str x => cases h; exact go "str" (by simp) (.base (.str x)) (by rcases hn with rfl | rfl | rfl | rfl | rfl | rfl <;> simp [isiD] at e <;> (first | (rw [← e]; decide) | (rw [e]; decide)))
  | lst x =>
    cases h with
    | lst s t => exact go "list" (by simp) (tyx_lst s) (by rcases hn with rfl | rfl | rfl | rfl | rfl | rfl <;> simp [isiD] at e <;> (first | (rw [← e]; decide) | (rw [e]; decide)))
  | tup x =>
    cases h with
    | tup s t => exact go "tuple" (by simp) (tyx_tup s) (by rcases hn with rfl | rfl | rfl | rfl | rfl | rfl <;> simp [isiD] at e <;> (first | (rw [← e]; decide) | (rw [e]; decide)))
  | dct x =>
    cases h with
    | dct n0 s t => exact go "dict" (by simp) (.base (.dK s)) (by rcases hn with rfl | rfl | rfl | rfl | rfl | rfl <;> simp [isiD] at e <;> (first | (rw [← e]; decide) | (rw [e]; decide)))
  | ref j => cases e
  | cls x => cases e
  | err x y => cases e
  | fn x => cases e
  | ty x => cases e
  | seq x => cases e
theorem isi_names {d : D} {n : String} {b : Bool} (e : isiD d n = some b) : n = "int" ∨ n = "bool" ∨ n = "str" ∨ n = "tuple" ∨ n = "list" ∨ n = "dict" := by
  unfold isiD at e
  split at e <;> try (cases e)
  repeat' (split at e)
  all_goals first | (cases e; done) | (simp_all; done)
theorem isi_lst {n : String} {b : Bool} (e : isiD (.lst []) n = some b) : kitB "list" n = some b := by
  have hn := isi_names e
  rw [kit4 "list" n (by simp) hn]
  rcases hn with rfl | rfl | rfl | rfl | rfl | rfl <;> simp [isiD] at e <;> (first | (rw [← e]; decide) | (rw [e]; decide))
theorem isi_dct {n : String} {b : Bool} (e : isiD (.dct []) n = some b) : kitB "dict" n = some b := by
  have hn := isi_names e
  rw [kit4 "dict" n (by simp) hn]
  rcases hn with rfl | rfl | rfl | rfl | rfl | rfl <;> simp [isiD] at e <;> (first | (rw [← e]; decide) | (rw [e]; decide))
theorem cd_isS : CallD X (.builtin "isinstance") isR2 := by
  rintro pins s σ H xs us Q I r ⟨c, ds, z, rfl, k, D1, e, P⟩
  unfold isR2 at e
  split at e
  · obtain ⟨v, w, rfl, q1, q2⟩ := da2 D1
    cases q2
    cases q1 with
    | ref hj =>
      split at e
      · rename_i xs hS
        obtain ⟨b, h1, rfl⟩ := mp e
        obtain ⟨vs, hv, _⟩ := k.at_ _ _ hS
        exact call_isi pins s σ _ _ us Q I r ⟨_, _, _, _, b, rfl, .ty _, .base (.lst hv), kit_ty (isi_lst h1), P.here k (.bl b)⟩
      · rename_i xs hS
        obtain ⟨b, h1, rfl⟩ := mp e
        obtain ⟨vs, hv, _⟩ := k.at_ _ _ hS
        exact call_isi pins s σ _ _ us Q I r ⟨_, _, _, _, b, rfl, .ty _, .base (.dK hv), kit_ty (isi_dct h1), P.here k (.bl b)⟩
      · cases e
  · obtain ⟨v, w, rfl, q1, q2⟩ := da2 D1
    obtain ⟨b, h1, rfl⟩ := mp e
    cases q2
    obtain ⟨t, ty, kb⟩ := den_ty k q1 h1
    exact call_isi pins s σ _ _ us Q I r ⟨_, _, _, _, b, rfl, .ty _, ty, kit_ty kb, P.here k (.bl b)⟩
  · cases e
theorem cd_isi : CallD X (.builtin "isinstance") isD2 := by
  rintro pins s σ H xs us Q I r ⟨c, ds, z, rfl, k, D1, e, P⟩
  unfold isD2 at e
  split at e
  · obtain ⟨v, w, rfl, q1, q2⟩ := da2 D1
    obtain ⟨b, h1, rfl⟩ := mp e
    cases q2
    obtain ⟨t, ty, kb⟩ := den_ty k q1 h1
    exact call_isi pins s σ _ _ us Q I r ⟨_, _, _, _, b, rfl, .ty _, ty, kit_ty kb, P.here k (.bl b)⟩
  · cases e
end
end M

namespace M
open PySem PySem.Spec L2 W2 RZ

def mNeg (f : EvF) : EvF := fun ρ S => (f ρ S).bind fun x => match x.1 with
  | .int i => some (.int (-i), x.2)
  | _ => none
/-- a text's method that judges it -/
def mMs (g : Str → Bool) (f : EvF) : EvF := fun ρ S => (f ρ S).bind fun x => match x.1 with
  | .str a => some (.bl (g a), x.2)
  | _ => none
def strsOf : List D → Option (List Str)
  | [] => some []
  | .str x :: r => (strsOf r).map fun y => x :: y
  | _ => none
def joinD (S : Sto) : D → D → Option D
  | .str a, .lst xs => (strsOf xs).bind fun ys => if (ys.map (·.length)).sum + ys.length * a.length ≤ 1000000 then some (.str (Txt.join a ys)) else none
  | _, _ => none
def mM1 (op : Sto → D → D → Option D) (f g : EvF) : EvF := fun ρ S => (f ρ S).bind fun x => (g ρ x.2).bind fun y => (op y.2 x.1 y.1).map fun z => (z, y.2)
section
variable {X : Cx} {e : Expr} {f g : EvF}
theorem me_neg (h : PE X e (tUn (rU fun i => .int (-i)) (tM X.K X.mg f))) : ME X e (mNeg f) := pe_imp h <| by
  rintro σ H Q ⟨c, ρ, d, S', ⟨rfl, k, en⟩, q, p⟩
  obtain ⟨⟨x, S1⟩, h1, q1⟩ := bd q
  refine ⟨c, ρ, x, S1, .of k en, h1, fun v c1 l1 k1 e1 D1 => ?_⟩
  cases x <;> try (cases q1)
  cases D1
  exact ⟨_, rfl, p _ c1 l1 k1 e1 (.int _)⟩
abbrev rMs (g : Str → Bool) : V → List V → Hp → VK → Prop := fun x xs H Q => ∃ a, x = .str a ∧ xs = [] ∧ True ∧ Q (.bl (g a)) H
theorem me_ms {g : Str → Bool} (h : PE X e (tBM0 X.K "str" (rMs g) (tM X.K X.mg f))) : ME X e (mMs g f) := pe_imp h <| by
  rintro σ H Q ⟨c, ρ, d, S', ⟨rfl, k, en⟩, q, p⟩
  obtain ⟨⟨x, S1⟩, h1, q1⟩ := bd q
  refine ⟨c, ρ, x, S1, .of k en, h1, fun v c1 l1 k1 e1 D1 => ?_⟩
  cases x <;> try (cases q1)
  cases D1
  exact ⟨rfl, _, rfl, rfl, trivial, p _ c1 l1 k1 e1 (.bl _)⟩
abbrev rJoin (K : PySem.W.Frag) : V → List V → Hp → VK → Prop := fun x xs H Q => ∃ a p, ∃ ys : List Str, x = .str a ∧ xs = [.ref p] ∧ (SqL K H p (ys.map V.str) ∨ SqT K H p (ys.map V.str)) ∧
      (ys.map (·.length)).sum + ys.length * a.length ≤ 16777216 ∧ Q (.str (Txt.join a ys)) H
theorem den_strs {K : PySem.W.Frag} {mg : Str → Option Value} {c : Cfg} : ∀ {ds : List D} {vs : List V} {ys : List Str}, DenA K mg c vs ds → strsOf ds = some ys → vs = ys.map V.str
  | [], _, _, h, e => by cases h; cases e; rfl
  | d :: ds, _, _, h, e => by
    cases d <;> try (cases e)
    obtain ⟨x, h1, rfl⟩ := mp (show (strsOf ds).map _ = _ from e)
    cases h with
    | cons a b =>
      cases a
      rw [den_strs b h1]
      rfl
theorem me_join (h : PE X e (tM1 (rJoin X.K) (tM X.K X.mg f) (tM X.K X.mg g))) : ME X e (mM1 joinD f g) := pe_imp h <| by
  rintro σ H Q ⟨c, ρ, d, S', ⟨rfl, k, en⟩, q, p⟩
  obtain ⟨⟨x, S1⟩, h1, q1⟩ := bd q
  obtain ⟨⟨y, S2⟩, h2, q2⟩ := bd q1
  obtain ⟨z, h3, q3⟩ := mp q2
  cases q3
  clear q q1 q2
  refine ⟨c, ρ, x, S1, .of k en, h1, fun v c1 l1 k1 e1 D1 => ?_⟩
  cases x <;> try (cases h3)
  cases y <;> try (cases h3)
  rename_i a xs
  obtain ⟨ys, h4, h5⟩ := bd (show (strsOf xs).bind _ = some d from h3)
  by_cases l : (ys.map (·.length)).sum + ys.length * a.length ≤ 1000000
  · rw [if_pos l] at h5
    cases h5
    cases D1
    refine ⟨⟨_, rfl⟩, c1, ρ, _, S2, .of k1 (en.mono l1), by rw [e1]; exact h2, fun w c2 l2 k2 e2 D2 => ?_⟩
    cases D2 with
    | lst s t =>
      have e3 := den_strs t h4
      subst e3
      exact ⟨_, _, ys, rfl, rfl, .inl s.get, Nat.le_trans l (by decide), p _ c2 (l1.trans l2) k2 e2 (.str _)⟩
  · rw [if_neg l] at h5; cases h5
end

/-! ### dicts -/
def dictD : CbF := fun _ ds => match ds with
  | [.lst []] => some (.dct [])
  | [.lst [.tup [.str k, d]]] => some (.dct [(.inr k, d)])
  | _ => none
def mD0 : EvF := fun _ S => some (.dct [], S)
section
variable {X : Cx} {e : Expr}
theorem post_dct {K : PySem.W.Frag} {mg : Str → Option Value} {c : Cfg} {ds : List (Key × D)} {vs : List (Key × V)} {Q : VK} (P : Post K mg c c.S (.dct ds) Q) (k : Ok K mg c) (q : DenK K mg c vs ds) : ∀ p, c.H p = none → Q (.ref p) (upd c.H p (.dK vs)) :=
  fun p h => P _ (c.lay p (.dK vs)) (lay_le h) (lay_ok k h) rfl (.dct (k.nB h) upd_same (q.mono (lay_le h)))
theorem me_d0 {pos : Pos} : ME X (.Dict [] [] pos) mD0 := pe_imp pe_dnewK <| by
  rintro σ H Q ⟨c, ρ, d, S', ⟨rfl, k, en⟩, q, p⟩
  cases q
  exact post_dct p k .nil
theorem cd_dict (hc : X.calm = true) : CallD X (.type "dict") dictD := by
  rintro pins s σ H xs us Q I r ⟨c, ds, z, rfl, k, D1, e, P⟩
  unfold dictD at e
  split at e
  · obtain ⟨v, rfl, q⟩ := da1 D1
    cases e
    cases q with
    | lst s1 t1 =>
      cases t1
      exact call_dictP hc pins s σ _ _ us Q I r ⟨_, [], [], rfl, s1.get, .nil, post_dct P k .nil⟩
  · obtain ⟨v, rfl, q⟩ := da1 D1
    cases e
    rename_i kk d
    cases q with
    | lst s1 t1 =>
      cases t1 with
      | cons a b =>
        cases b
        cases a with
        | @tup aT _ _ s2 t2 =>
          obtain ⟨x, y, rfl, q1, q2⟩ := da2 t2
          cases q1
          exact call_dictP hc pins s σ _ _ us Q I r ⟨_, [aT], [(.inr kk, y)], rfl, s1.get, .cons s2.get .nil, post_dct P k (.cons q2 .nil)⟩
  · cases e
end

/-! ### repr -/
def keyQ : Key → PyData
  | .inl i => .int i
  | .inr s => .str s
mutual
def toQ : D → Option PyData
  | .non => some .none
  | .bl b => some (.bool b)
  | .int i => some (.int i)
  | .str x => some (.str x)
  | .lst ds => (toQA ds).map .list
  | .tup ds => (toQA ds).map .tuple
  | .dct kvs => (toQK kvs).map .dict
  | .ref _ => none
  | .fn _ => none
  | .ty _ => none
  | .seq _ => none
  | .cls _ => none
  | .err _ _ => none
def toQA : List D → Option (List PyData)
  | [] => some []
  | d :: ds => (toQ d).bind fun x => (toQA ds).map fun r => x :: r
def toQK : List (Key × D) → Option (List (PyData × PyData))
  | [] => some []
  | (k, d) :: ds => (toQ d).bind fun x => (toQK ds).map fun r => (keyQ k, x) :: r
end
def fitB (d : PyData) : Bool := d.showable && d.leavesShort 50 && decide (d.depth ≤ 60) && decide (d.bulk ≤ 100000)
def reprD : CbF := fun _ ds => match ds with
  | [d] => (toQ d).bind fun p => if fitB p = true then some (.str p.shown) else none
  | _ => none
theorem pairs_reads {P : Program} {w : World} {h : Heap} : ∀ {es : List DictEntry} {vs : List (Key × Value)}, Pairs (mixKind P w) es vs →
    ReadsAll h (es.map (·.key)) (vs.map fun p => keyQ p.1) [] ∧ es.map (·.val) = vs.map (·.2)
  | _, _, .nil => ⟨.nil, rfl⟩
  | _, _, .cons (kv := kv) hk hv t => by
    obtain ⟨r, e⟩ := pairs_reads (h := h) t
    refine ⟨?_, by simp only [List.map_cons, hv, e]⟩
    rcases keyIs_shape hk with ⟨i, t, e1, e2⟩ | ⟨i, t, e1, e2⟩
    · rw [List.map_cons, List.map_cons, e2, e1]
      exact ReadsAll.cons (as := []) (Reads.int i t) r
    · rw [List.map_cons, List.map_cons, e2, e1]
      exact ReadsAll.cons (as := []) (Reads.str i t) r
section
variable {X : Cx} {pins : List (Addr × Obj)} {σ : L2.St} {s : Shared} {c : Cfg} {mg : Str → Option Value}
theorem keys_q : ∀ {kvs : List (Key × V)} {ds : List (Key × D)} {vs : List (Key × Value)} {ps : List (PyData × PyData)}, DenK X.K mg c kvs ds → KV kvs vs → toQK ds = some ps →
    vs.map (fun p => keyQ p.1) = ps.map (·.1)
  | [], _, _, _, h, r, e => by cases h; cases r; rw [toQK] at e; cases e; rfl
  | p :: kvs, _, _, _, h, r, e => by
    cases h with
    | cons h1 h2 =>
      cases r with
      | cons r1 r2 =>
        obtain ⟨r1, _⟩ := r1
        rw [toQK] at e
        obtain ⟨x, e1, e⟩ := bd e
        obtain ⟨xs, e2, rfl⟩ := mp e
        rw [List.map_cons, List.map_cons, keys_q h2 r2 e2, ← r1]
theorem sys_no {a : Addr} (I : Inv X pins σ c.H s) (hs : ∃ mm, X.base.Ns sysModules mm) {u : HO} (h : c.H a = some u) {as : List Addr} (k : sysModules ∉ as) : sysModules ∉ a :: as := fun q => by
  rcases List.mem_cons.mp q with e | e
  · obtain ⟨mm, o, es, ep, g, _⟩ := hs
    have := (I.bs _ _ g).2
    rw [e, h] at this
    cases this
  · exact k e
mutual
theorem den_reads (I : Inv X pins σ c.H s) (hs : ∃ mm, X.base.Ns sysModules mm) : ∀ {d : D} {v : V} {u : Value} {p : PyData}, Den X.K mg c v d → RelV v u → toQ d = some p → ∃ as, Reads s.heap u p as ∧ sysModules ∉ as
  | .non, _, _, _, h, r, e => by cases h; cases r; cases e; exact ⟨[], .none, List.not_mem_nil⟩
  | .bl b, _, _, _, h, r, e => by cases h; cases r; cases e; exact ⟨[], .bool b, List.not_mem_nil⟩
  | .int b, _, _, _, h, r, e => by cases h; obtain ⟨t, rfl⟩ := r; cases e; exact ⟨[], .int b t, List.not_mem_nil⟩
  | .str b, _, _, _, h, r, e => by cases h; obtain ⟨t, rfl⟩ := r; cases e; exact ⟨[], .str b t, List.not_mem_nil⟩
  | .lst ds, _, _, _, h, r, e => by
    rw [toQ] at e
    obtain ⟨xs, e1, rfl⟩ := mp e
    cases h with
    | lst s1 t1 =>
      cases r
      obtain ⟨its, rv, ⟨o, z, ho, hc, _, hd⟩, _⟩ := I.list s1.get
      obtain ⟨as, hr, k⟩ := den_readsA I hs t1 rv e1
      refine ⟨_, Reads.list ho hc hd hr, ?_⟩
      rcases s1.2 with s2 | ⟨ob, s2⟩
      · exact sys_no I hs s2 k
      · exact sys_no I hs s2 k
  | .tup ds, _, _, _, h, r, e => by
    rw [toQ] at e
    obtain ⟨xs, e1, rfl⟩ := mp e
    cases h with
    | tup s1 t1 =>
      cases r
      obtain ⟨its, rv, ⟨o, ho, hc, z, hd⟩, _⟩ := I.tuple s1.get
      obtain ⟨as, hr, k⟩ := den_readsA I hs t1 rv e1
      exact ⟨_, Reads.tuple ho hc hd hr, k⟩
  | .dct ds, _, _, _, h, r, e => by
    rw [toQ] at e
    obtain ⟨xs, e1, rfl⟩ := mp e
    cases h with
    | dct n s1 t1 =>
      cases r
      obtain ⟨_, hm, vs, kv, o, es, ep, ho, hx, hd, hes⟩ := dk_of I.hok s1
      obtain ⟨as, hr, k⟩ := den_readsK I hs t1 kv e1
      obtain ⟨_, hp, _⟩ := hes
      obtain ⟨r1, e2⟩ := pairs_reads (h := s.heap) hp
      rw [← e2] at hr
      rw [keys_q t1 kv e1] at r1
      exact ⟨_, Reads.dict ho hx.1 hd r1 hr, sys_no I hs s1 (by simpa using k)⟩
  | .ref _, _, _, _, _, _, e => by rw [toQ] at e; cases e
  | .fn _, _, _, _, _, _, e => by rw [toQ] at e; cases e
  | .ty _, _, _, _, _, _, e => by rw [toQ] at e; cases e
  | .seq _, _, _, _, _, _, e => by rw [toQ] at e; cases e
  | .cls _, _, _, _, _, _, e => by rw [toQ] at e; cases e
  | .err _ _, _, _, _, _, _, e => by rw [toQ] at e; cases e
theorem den_readsA (I : Inv X pins σ c.H s) (hs : ∃ mm, X.base.Ns sysModules mm) : ∀ {ds : List D} {vs : List V} {us : List Value} {ps : List PyData}, DenA X.K mg c vs ds → Vals vs us → toQA ds = some ps → ∃ as, ReadsAll s.heap us ps as ∧ sysModules ∉ as
  | [], _, _, _, h, r, e => by cases h; cases r; rw [toQA] at e; cases e; exact ⟨[], .nil, List.not_mem_nil⟩
  | d :: ds, _, _, _, h, r, e => by
    rw [toQA] at e
    obtain ⟨x, e1, e⟩ := bd e
    obtain ⟨xs, e2, rfl⟩ := mp e
    cases h with
    | cons h1 h2 =>
      cases r with
      | cons r1 r2 =>
        obtain ⟨as, q1, k1⟩ := den_reads I hs h1 r1 e1
        obtain ⟨bs, q2, k2⟩ := den_readsA I hs h2 r2 e2
        exact ⟨_, ReadsAll.cons q1 q2, fun q => (List.mem_append.mp q).elim k1 k2⟩
theorem den_readsK (I : Inv X pins σ c.H s) (hs : ∃ mm, X.base.Ns sysModules mm) : ∀ {ds : List (Key × D)} {vs : List (Key × V)} {us : List (Key × Value)} {ps : List (PyData × PyData)}, DenK X.K mg c vs ds → KV vs us → toQK ds = some ps →
    ∃ as, ReadsAll s.heap (us.map (·.2)) (ps.map (·.2)) as ∧ sysModules ∉ as
  | [], _, _, _, h, r, e => by cases h; cases r; rw [toQK] at e; cases e; exact ⟨[], .nil, List.not_mem_nil⟩
  | (_, d) :: ds, _, _, _, h, r, e => by
    rw [toQK] at e
    obtain ⟨x, e1, e⟩ := bd e
    obtain ⟨xs, e2, rfl⟩ := mp e
    cases h with
    | cons h1 h2 =>
      cases r with
      | cons r1 r2 =>
        obtain ⟨as, q1, k1⟩ := den_reads I hs h1 r1.2 e1
        obtain ⟨bs, q2, k2⟩ := den_readsK I hs h2 r2 e2
        exact ⟨_, ReadsAll.cons q1 q2, fun q => (List.mem_append.mp q).elim k1 k2⟩
end
end
theorem fit_len {d : PyData} (h1 : d.leavesShort 50 = true) (h2 : d.bulk ≤ 100000) : d.shown.length ≤ sizeLine := by
  have a := PyData.shown_le_bulk 50 (by decide) d h1
  have b : (50 + 2) * d.bulk ≤ 52 * 100000 := Nat.mul_le_mul (by decide) h2
  rw [sizeLine_eq]
  omega
theorem cd_repr {X : Cx} (hr : Rg X.A) (hs : ∃ mm, X.base.Ns sysModules mm) : CallD X (.builtin "repr") reprD := by
  rintro pins s σ H xs us Q I r ⟨c, ds, z, rfl, k, D1, e, P⟩
  unfold reprD at e
  split at e
  · obtain ⟨v, rfl, q⟩ := da1 D1
    obtain ⟨p, h1, e⟩ := bd e
    by_cases F : fitB p = true
    · rw [if_pos F] at e
      cases e
      unfold fitB at F
      simp only [Bool.and_eq_true, decide_eq_true_eq] at F
      obtain ⟨⟨⟨f1, f2⟩, f3⟩, f4⟩ := F
      have hz := fit_len f2 f4
      obtain ⟨u, rfl, r1⟩ := vals1 r
      obtain ⟨as, R, ns⟩ := den_reads I hs q r1 h1
      have P' := P.here k (.str _)
      have hu := hr.un
      cases R with
      | none => exact PySem.P.repr_of_none ⟨.str _, c.H, I.tok _, ⟨_, rfl⟩, P'⟩
      | bool b =>
        refine PySem.P.repr_of_bool ⟨.str _, c.H, I.tok _, ⟨_, rfl⟩, ?_⟩
        cases b <;> exact P'
      | int i t => exact PySem.P.repr_of_int (by simpa [PyData.showable] using f1) ⟨.str _, c.H, I.tok _, ⟨_, rfl⟩, P'⟩
      | str x t => exact PySem.P.repr_of_str ⟨.str _, c.H, I.tok _, ⟨_, rfl⟩, P'⟩ hz
      | list g1 g2 g3 g4 => exact repr_of_reads' (Reads.list g1 g2 g3 g4) f1 (fun _ => ns) hr.g (by omega) (fun _ _ e => e) (fun h' t tk k => ⟨.str _, c.H, I.kept k, ⟨_, rfl⟩, P'⟩) hz
      | tuple g1 g2 g3 g4 => exact repr_of_reads' (Reads.tuple g1 g2 g3 g4) f1 (fun _ => ns) hr.g (by omega) (fun _ _ e => e) (fun h' t tk k => ⟨.str _, c.H, I.kept k, ⟨_, rfl⟩, P'⟩) hz
      | dict g1 g2 g3 g4 g5 => exact repr_of_reads' (Reads.dict g1 g2 g3 g4 g5) f1 (fun _ => ns) hr.g (by omega) (fun _ _ e => e) (fun h' t tk k => ⟨.str _, c.H, I.kept k, ⟨_, rfl⟩, P'⟩) hz
    · rw [if_neg F] at e; cases e
  · cases e
end M

namespace W2
open PySem PySem.Spec PyProof.Rows L2

/-! ### the law's own call -/
section
variable {P : Program} {w : World} {K : PySem.W.Frag} {mg mb : Str → Option Value} {k : Nat} {fa a : Addr}
  {fd : FuncData} {x : Str} {sp : Sp} {s₁ : Shared} {vs : List Value} {ns : List Int}
def LawEnd (s₁ : Shared) : Result → Shared → Prop := fun r s' =>
  r = .ok (.ret (.bool true)) ∧ OldK s₁.heap s'.heap ∧ s'.os = s₁.os ∧ AllBare s'.gens
theorem law_core (H : Hp) (hO : Only H) (hS : SqL K H a (ns.map V.int)) (hok : HOk P w H s₁.heap)
    (hA : ∀ b, H b ≠ none → b = a) (hK : H a ≠ none → K.lookup a = none)
    (KX : K.In s₁.heap) (hns : s₁.heap.Ns mainGlobals mg) (hb : s₁.heap.Ns builtinsNs mb)
    (hbb : ∀ x : Str, x ≠ "__name__" → mb x = bootBuiltins x) (hlim : s₁.heap.NoLimit) (hg : s₁.gens = #[])
    (ha : s₁.heap.get? a = some { cls := .type "list", data := .seq vs.toArray })
    (hr : Room k callerA)
    (hsy : ∃ mm, s₁.heap.Ns sysModules mm)
    (F : ∀ base : Heap, K.In base → base.Ns mainGlobals mg → (∃ mm, base.Ns sysModules mm) → FnG P w K mg base k fa fd [x] sp)
    (hbind : ∀ (s : Shared) (u : Value), BindsTo s fd ⟨[u], []⟩ [(x, u)])
    (hsp : ∀ H : Hp, Only H → SqL K H a (ns.map V.int) → sp [.ref a] H (fun v _ => v = .bl true) E0) :
    codeAny (model P w) callerA (.call (.ref fa) ⟨[.ref a], []⟩) (LawEnd s₁) s₁ := by
  have none_of : ∀ {b : Addr} {o : Obj}, s₁.heap.get? b = some o → (b = a → False) → H b = none := by
    intro b o _ n
    cases q : H b with
    | none => rfl
    | some u => exact (n (hA b (by rw [q]; exact fun z => nomatch z))).elim
  have nsK : ∀ {b : Addr} {m : Str → Option Value}, s₁.heap.Ns b m → (hidT s₁.heap H).Ns b m := by
    rintro b m ⟨o, es, ep, e, d, r⟩
    refine ⟨o, es, ep, hidT_get e (none_of e fun q => ?_), d, r⟩
    rw [q, ha] at e
    cases e
    cases d
  have hKb : K.In (hidT s₁.heap H) := by
    intro b o e
    refine hidT_get (KX b o e) ?_
    cases q : H b with
    | none => rfl
    | some u =>
      have z := hA b (by rw [q]; exact fun z => nomatch z)
      rw [z] at e q
      rw [hK (by rw [q]; exact fun z => nomatch z)] at e
      cases e
  have hM : Mod K mg (hidT s₁.heap H) := by
    obtain ⟨mc, h1, h2⟩ := hlim
    exact ⟨hKb, nsK hns, ⟨mb, nsK hb, hbb⟩, ⟨mc, nsK h1, h2⟩⟩
  have e0 : Env0 P w K mg (hidT s₁.heap H) callerA [] s₁ H := by
    refine ⟨rfl, hM, fun b o e => of_hidT e, Nat.le_of_eq (hidT_size _ _), trivial, ?_, hok, .of_eq hg⟩
    intro b hb
    cases hb
  have run := (F _ hKb (nsK hns) (hsy.elim fun mm h => ⟨mm, nsK h⟩)).run callerA [] s₁ H ⟨[.ref a], []⟩ [.ref a] [.ref a] _ _ ⟨hr, rfl⟩ e0
    (hbind s₁ (.ref a)) (.cons rfl .nil) (hsp H hO hS)
  refine codeAny_mono run fun r s' h => ?_
  match r, h with
  | .error e, h =>
    obtain ⟨_, _, _, _, _, _, _, _, _, _, _, _, z⟩ := h
    exact (show False from z).elim
  | .ok (.ret u), h =>
    obtain ⟨v, H', os, bare, un, hok', r', q⟩ := h
    cases (show v = .bl true from q)
    cases (show u = Value.bool true from r')
    refine ⟨rfl, OldK.of_keep fun b o e => ?_, os, bare⟩
    rcases hO b with z | ⟨ob, xs, z⟩
    · exact un.keep b o e z (fun z => nomatch z) (fun z => nomatch z)
    · obtain ⟨e1, _⟩ := hok b _ z
      obtain ⟨e2, _⟩ := hok' b _ (un.frzs b ob _ z)
      rw [e1] at e
      cases e
      exact e2
theorem law_G (KX : K.In s₁.heap) (hns : s₁.heap.Ns mainGlobals mg) (hb : s₁.heap.Ns builtinsNs mb)
    (hbb : ∀ x : Str, x ≠ "__name__" → mb x = bootBuiltins x) (hlim : s₁.heap.NoLimit) (hg : s₁.gens = #[])
    (ha : s₁.heap.get? a = some { cls := .type "list", data := .seq vs.toArray }) (hi : IntsAre vs ns)
    (hl : ns.length ≤ sizeLine) (hr : Room k callerA)
    (hsy : ∃ mm, s₁.heap.Ns sysModules mm)
    (F : ∀ base : Heap, K.In base → base.Ns mainGlobals mg → (∃ mm, base.Ns sysModules mm) → FnG P w K mg base k fa fd [x] sp)
    (hbind : ∀ (s : Shared) (u : Value), BindsTo s fd ⟨[u], []⟩ [(x, u)])
    (hsp : ∀ H : Hp, Only H → SqL K H a (ns.map V.int) → sp [.ref a] H (fun v _ => v = .bl true) E0) :
    codeAny (model P w) callerA (.call (.ref fa) ⟨[.ref a], []⟩) (LawEnd s₁) s₁ := by
  have rv := vals_ints hi
  have lenV := hi.length
  cases hk : K.lookup a with
  | some o =>
    have e := KX a o hk
    rw [ha] at e
    cases e
    refine law_core (ns := ns) (mb := mb) (vs := vs) (fun _ => none) (fun _ => .inl rfl) ?_ (fun b u z => nomatch z) (fun b z => (z rfl).elim)
      (fun z => (z rfl).elim) KX hns hb hbb hlim hg ha hr hsy F hbind hsp
    exact .inr ⟨_, vs.toArray, _, hk, rfl, rfl, rfl, by rw [List.size_toArray, lenV]; exact hl, by simpa using rv⟩
  | none =>
    let u : HO := .frz { cls := .type "list", data := .seq vs.toArray } (.lst (ns.map V.int))
    have at_a : (fun b => if b = a then some u else none : Hp) a = some u := if_pos rfl
    have off : ∀ b, b ≠ a → (fun b => if b = a then some u else none : Hp) b = none := fun b n => if_neg n
    refine law_core (ns := ns) (mb := mb) (vs := vs) (fun b => if b = a then some u else none) (fun b => ?_) (.inl (.inr ⟨_, at_a⟩)) (fun b z q => ?_)
      (fun b z => ?_) (fun _ => hk) KX hns hb hbb hlim hg ha hr hsy F hbind hsp
    · by_cases n : b = a
      · exact .inr ⟨_, _, if_pos n⟩
      · exact .inl (off b n)
    · by_cases n : b = a
      · cases n
        rw [at_a] at q
        cases q
        exact ⟨ha, by rw [List.length_map]; exact hl, vs, _, rv, ha⟩
      · rw [off b n] at q
        cases q
    · by_cases n : b = a
      · exact n
      · exact (z (off b n)).elim
end
theorem walk_G {l : PySem.W.OpenLaw} {n k : Nat} {q : Program} {loose : List Str}
    {XP : (Str → Option Value) → Heap → Prop} {YP : World → Heap → Prop} {d : DefRec}
    {K : Params → PySem.W.Frag} {sp : World → Sp} {x : Str}
    (hn : l.most = some n) (hq : importsNone q = true) (hn2 : n ≤ sizeLine) (hdf : d.params.defaults = []) (hr : Room k callerA)
    (hY : ∀ (w : World) (h : Heap), YP w h → (K w.params).In h)
    (F : ∀ (w : World) (mg : Str → Option Value) (fa : Addr) (h : Heap), (K w.params).In h →
      h.Ns mainGlobals mg → mg d.name = some (.ref fa) →
      ∃ fd : FuncData, (∀ (s : Shared) (u : Value), BindsTo s fd ⟨[u], []⟩ [(x, u)]) ∧
        ∀ base : Heap, (K w.params).In base → base.Ns mainGlobals mg → (∃ mm, base.Ns sysModules mm) →
          FnG l.prog w (K w.params) mg base k fa fd [x] (sp w))
    (hsp : ∀ (w : World) (H : Hp) (a : Addr) (ns : List Int), ns.length ≤ n → Only H →
      SqL (K w.params) H a (ns.map V.int) → sp w [.ref a] H (fun v _ => v = .bl true) E0) :
    PySem.W.WalkO q loose XP YP l.row.toRowW d [] (fun f vs => PySem.call f vs) := by
  apply Att.attach_call hn hdf
  intro w s₀ s₁ mg mb fa o pm cd doc a vs ns G Y ho hd hcd hmg hobj hints hlen hg
  obtain ⟨fd, hb, hF⟩ := F w mg fa _ (hY w _ Y) G.T.g hmg
  exact law_G (hY w _ Y) G.T.g G.T.b G.T.builtins G.T.nolimit hg hobj hints (Nat.le_trans hlen hn2) hr (let ⟨mm, h, _⟩ := (G.T.seer hq).mods; ⟨mm, h⟩) hF hb
    fun H hO hS => hsp w H a ns hlen hO hS
end W2

namespace M
open PySem PySem.Spec L2 W2 RZ

/-! ### a def called by its one parameter's name -/
structure CalK (P : Program) (w : World) (K : PySem.W.Frag) (mg : Str → Option Value) (base : Heap) (k : Nat) (x p : Str) (F : Fn) : Prop where
  ex : ∃ (f : Addr) (fd : FuncData), mg x = some (.ref f) ∧ PySem.W.keepIn K (.ref f) = true ∧ (∀ (s : Shared) (u : Value), BindsTo s fd ⟨[], [(p, u)]⟩ [(p, u)]) ∧ FnG P w K mg base k f fd [p] (spM K mg 1 F)
def mKw (F : Fn) (f : EvF) : EvF := fun ρ S => (f ρ S).bind fun x => F [x.1] x.2
section
variable {X : Cx} {pos p kpos : Pos} {e : Expr} {es : List Expr} {f : EvF} {fa : EaF} {k np i : Nat} {x y : Str} {F : Fn}
theorem me_kw (C : CalK X.prog X.w X.K X.mg X.base k x y F) (hr : Rm k X.A) (hg : Gl X x) (he : ME X e f)
    (hall : (backToKw pos (keywordEach [⟨some y, e, kpos⟩] X.env)).all (·.1.isSome) = true := by rfl) (hks : (backToKw pos (keywordEach [⟨some y, e, kpos⟩] X.env)).filterMap (·.1) = [y] := by rfl)
    (hdb : (x == ("__debug__" : Str)) = false := by decide) (hpl : ((backTo pos (starEach [] X.env)).any (·.1) || (backToKw pos (keywordEach [⟨some y, e, kpos⟩] X.env)).any (·.1.isNone)) = false := by rfl) :
    ME X (.Call (.Name x p) [] [⟨some y, e, kpos⟩] pos) (mKw F f) := by
  obtain ⟨fa, fd, hm, hk, hb, G⟩ := C.ex
  constructor
  rintro pins s σ H Q I ⟨c, ρ, d, S', ⟨rfl, k, en⟩, q, P⟩
  obtain ⟨z, h1, q1⟩ := bd q
  refine wpAny_Call_Name_kw (ld_glob I hg hm ?_ hdb)
  refine PySem.W.callWith_KW0 (h₀ := X.base) I.ok.mod.kin hk hall ?_ hpl
  refine thn ((pk_cons he pk_nil).run pos pins s σ c.H (fun vs H' => spM X.K X.mg 1 F vs H' Q E0) I ?_) ?_
  · refine ⟨c, ρ, z.1, z.2, .of k en, h1, fun v c1 l1 k1 e1 D1 => ⟨rfl, c1, [z.1], d, S', rfl, k1, .cons D1 .nil, by rw [e1]; exact q1, P.mono l1⟩⟩
  · rintro ws s2 ⟨zs, H2, I2, rz, hsp⟩
    refine ⟨I2.kIn, ?_⟩
    rw [hks]
    have hl := hsp.1
    match zs, rz, hl with
    | [zv], rz, _ =>
      obtain ⟨u, rfl, r1⟩ := vals1 rz
      refine wpAny_call (codeAny_mono (run_X (us := [u]) (vs := [zv]) (ar := ⟨[], [(y, u)]⟩) G hr takes_none5 (hb s2 u) I2 rz hsp) fun r s' hq => ?_)
      match r, hq with
      | .error _, hq => exact hq
      | .ok (.ret u), hq => exact hq
/-- a local name that holds a def of one parameter -/
def mHeld (i : Nat) (tbl : Str → Option Fn) (fa : EaF) : EvF := fun ρ S => match ρ[i]? with
  | some (some (.fn x)) => match tbl x with
    | some F => (fa ρ S).bind fun a => F a.1 a.2
    | none => none
  | _ => none
theorem me_held {tbl : Str → Option Fn} (C : ∀ z F, tbl z = some F → Cal X.prog X.w X.K X.mg X.base k z np F) (hr : Rm k X.A) (hN : X.N[i]? = some x) (hv : Vis X.env.scope x) (ha : MA X (e :: es) fa) (hn : ∀ ρ S ds S', fa ρ S = some (ds, S') → ds.length = np)
    (hdb : (x == ("__debug__" : Str)) = false := by decide) (hcd : (x == ("__classdict__" : Str)) = false := by decide)
    (he : starEach (e :: es) X.env = (false, eval e X.env) :: starEach es X.env := by rfl) (hpl : (backTo pos (starEach es X.env)).any (·.1) = false := by rfl) :
    ME X (.Call (.Name x p) (e :: es) [] pos) (mHeld i tbl fa) := by
  constructor
  rintro pins s σ H Q I ⟨c, ρ, d, S', ⟨rfl, k, en⟩, q, P⟩
  unfold mHeld at q
  split at q
  · rename_i z hz
    split at q
    · rename_i F hF
      obtain ⟨⟨ds, S1⟩, h1, q1⟩ := bd q
      obtain ⟨f, fd, ps, hm, hk, hb, G, hl⟩ := (C z F hF).ex
      obtain ⟨v, h2, h3⟩ := en.get i _ hz
      cases h3 with
      | fn hm2 =>
        rw [hm] at hm2
        cases hm2
        refine wpAny_Call_Name_kw (thn ((pe_var (pos := p) hN hv hdb hcd).run pins s σ c.H (fun v H1 => v = .ref f ∧ H1 = c.H) I ⟨.ref f, h2, rfl, rfl⟩) ?_)
        rintro u s1 ⟨v, H1, I1, r1, rfl, rfl⟩
        cases r1
        refine PySem.W.callWith_K (h₀ := X.base) I.ok.mod.kin hk ?_ he hpl
        refine thn (ha.run pos pins s1 σ c.H (fun vs H2 => spM X.K X.mg np F vs H2 Q E0) I1 ⟨c, ρ, ds, S1, .of k en, h1, fun vs c1 l1 k1 e1 D1 => ?_⟩) ?_
        · exact ⟨by rw [D1.length]; exact hn _ _ _ _ h1, c1, ds, d, S', rfl, k1, D1, by rw [e1]; exact q1, P.mono l1⟩
        · rintro us s2 ⟨vs, H2, I2, r, q⟩
          exact ⟨I2.kIn, run_G G hr hb I2 r q⟩
    · cases q
  · cases q
end

section
variable {X : Cx} {pos : Pos} {x : Str}
theorem me_ty (n : String) (hg : Gl X x) (hm : X.mg x = none) (hv : bootBuiltins x = some (.type n)) (hn : x ≠ "__name__" := by decide) (hd : (x == ("__debug__" : Str)) = false := by decide) : ME X (.Name x pos) (mC (.ty n)) :=
  me_c (pe_bltn (v := .ty n) (u := .type n) hg hm hv rfl hn hd) fun _ => .ty n
theorem me_gint {i : Int} {t : Tok} (hg : Gl X x) (hm : X.mg x = some (.int i t)) (hd : (x == ("__debug__" : Str)) = false := by decide) : ME X (.Name x pos) (mC (.int i)) := me_c (pe_glob (v := .int i) hg hm ⟨t, rfl⟩ hd) fun _ => .int i
theorem me_gref {a : Addr} {d : D} (hg : Gl X x) (hm : X.mg x = some (.ref a)) (q : ∀ c, Den X.K X.mg c (.ref a) d) (hd : (x == ("__debug__" : Str)) = false := by decide) : ME X (.Name x pos) (mC d) := me_c (pe_glob (v := .ref a) hg hm rfl hd) q
end

/-! ### from the text's facts -/
theorem cal_mk {P : Program} {w : World} {K : PySem.W.Frag} {mg : Str → Option Value} {base : Heap} {x : Str} {st : Stmt} {f : Addr} {fd : FuncData} {ps : List Str} {k np : Nat} {F : Fn} (Z : Fun K x x st f fd) (m : mg x = some (.ref f)) (b : Binds K fd ps [])
    (hl : ps.length = np) (G : FnG P w K mg base k f fd ps (spM K mg ps.length F)) : Cal P w K mg base k x np F := by
  subst hl
  exact ⟨⟨f, fd, ps, m, Z.kp, b, G, rfl⟩⟩
theorem calK_mk {P : Program} {w : World} {K : PySem.W.Frag} {mg : Str → Option Value} {base : Heap} {x p : Str} {st : Stmt} {f : Addr} {fd : FuncData} {k : Nat} {F : Fn} (Z : Fun K x x st f fd) (m : mg x = some (.ref f))
    (b : ∀ (s : Shared) (u : Value), BindsTo s fd ⟨[], [(p, u)]⟩ [(p, u)]) (G : FnG P w K mg base k f fd [p] (spM K mg 1 F)) : CalK P w K mg base k x p F := ⟨⟨f, fd, m, Z.kp, b, G⟩⟩
/-- a tuple of the written part that holds defs -/
theorem den_fns {K : PySem.W.Frag} {mg : Str → Option Value} {c : Cfg} {a : Addr} {od : Option Addr} {n : Nat} {sl : Array (Option Value)} {fs : List Addr} {xs : List Str} (hk : K.lookup a = some ⟨.type "tuple", od, .seq (fs.map Value.ref).toArray n, sl⟩) (hz : fs.length ≤ 1000)
    (h : Paired (fun f x => mg x = some (.ref f)) fs xs) : Den K mg c (.ref a) (.tup (xs.map .fn)) := by
  refine .tup (xs := fs.map V.ref) (.inr (.inr ⟨_, (fs.map Value.ref).toArray, n, hk, rfl, rfl, by simpa using Nat.le_trans hz (by decide), ?_⟩)) ?_
  · rw [List.toList_toArray]
    clear hk hz h
    induction fs with
    | nil => exact .nil
    | cons f fs ih => exact .cons rfl ih
  · clear hk hz
    induction h with
    | nil => exact .nil
    | cons h t ih => exact .cons (.fn h) ih
/-- the law's promise: whatever the script -/
def spLaw (K : PySem.W.Frag) (mg : Str → Option Value) (F : Fn) : Sp := spM K mg 1 F
theorem law_sp {K : PySem.W.Frag} {mg : Str → Option Value} {F : Fn} {H : Hp} {a : Addr} {ns : List Int} (ho : Only H) (hS : SqL K H a (ns.map V.int)) (hF : ∃ S', F [.seq (ns.map .int)] [] = some (.bl true, S')) : spM K mg 1 F [.ref a] H (fun v _ => v = .bl true) E0 := by
  obtain ⟨S', hF⟩ := hF
  have none0 : ∀ j : Nat, ¬ j < ([] : Sto).length := fun j => Nat.not_lt_zero j
  have nB : ¬ (Cfg.mk (fun _ => 0) [] (fun _ => False) H).B a := fun q => q.elim (fun ⟨j, h, _⟩ => none0 j h) id
  refine ⟨rfl, ⟨fun _ => 0, [], fun _ => False, H⟩, [.seq (ns.map .int)], .bl true, S', rfl, ⟨fun j xs h => by simp at h, fun i j h => absurd h (none0 i), fun a h => h.elim⟩, .cons (.seq (xs := ns.map V.int) ?_ ?_) .nil, hF, fun v c' l k e D1 => by cases D1; rfl⟩
  · rcases hS with h | h
    · exact .inl ⟨nB, h⟩
    · exact .inr (.inr h)
  · clear hS hF nB
    induction ns with
    | nil => exact .nil
    | cons n ns ih => exact .cons (.int n) ih
end M

namespace M
open PySem PySem.Spec L2 W2 RZ

/-! ### all, a tuple many times -/
def blsOf : List D → Option (List Bool)
  | [] => some []
  | .bl b :: r => (blsOf r).map fun x => b :: x
  | _ => none
def allD : CbF := fun _ ds => match ds with
  | [.lst xs] => (blsOf xs).map fun bs => .bl (bs.all id)
  | _ => none
section
variable {X : Cx}
theorem den_bls {K : PySem.W.Frag} {mg : Str → Option Value} {c : Cfg} : ∀ {ds : List D} {vs : List V} {bs : List Bool}, DenA K mg c vs ds → blsOf ds = some bs → vs = bs.map V.bl
  | [], _, _, h, e => by cases h; cases e; rfl
  | d :: ds, _, _, h, e => by
    cases d <;> try (cases e)
    obtain ⟨x, h1, rfl⟩ := mp (show (blsOf ds).map _ = _ from e)
    cases h with
    | cons a b =>
      cases a
      rw [den_bls b h1]
      rfl
theorem cd_all (hc : X.calm = true) : CallD X (.builtin "all") allD := by
  rintro pins s σ H xs us Q I r ⟨c, ds, z, rfl, k, D1, e, P⟩
  unfold allD at e
  split at e
  · obtain ⟨v, rfl, q⟩ := da1 D1
    obtain ⟨bs, h1, rfl⟩ := mp e
    cases q with
    | lst s1 t1 =>
      have h2 := den_bls t1 h1
      subst h2
      exact cr_all hc pins s σ _ _ us Q I r ⟨_, _, rfl, s1.get, P.here k (.bl _)⟩
  · cases e
def mulT : D → D → Option D
  | .tup xs, .int k => if xs ≠ [] ∧ 2 ≤ k ∧ k ≤ 1000 ∧ xs.length ≤ 1000 then some (.tup (List.replicate k.toNat xs).flatten) else none
  | _, _ => none
theorem den_rep {K : PySem.W.Frag} {mg : Str → Option Value} {c : Cfg} {vs : List V} {ds : List D} (h : DenA K mg c vs ds) : ∀ n, DenA K mg c (List.replicate n vs).flatten (List.replicate n ds).flatten
  | 0 => .nil
  | n + 1 => by
    rw [List.replicate_succ, List.replicate_succ, List.flatten_cons, List.flatten_cons]
    exact h.app (den_rep h n)
theorem od_mulT : OpD X (binaryOp .Mult) mulT := by
  rintro pins s σ H x y v u Q I rx ry ⟨c, a, b, z, rfl, k, Da, Db, e, P⟩
  cases a <;> cases b <;> try (cases e)
  rename_i xs j
  have e' : (if xs ≠ [] ∧ 2 ≤ j ∧ j ≤ 1000 ∧ xs.length ≤ 1000 then some (D.tup (List.replicate j.toNat xs).flatten) else none) = some z := e
  by_cases l : xs ≠ [] ∧ 2 ≤ j ∧ j ≤ 1000 ∧ xs.length ≤ 1000
  · rw [if_pos l] at e'; cases e'
    cases Da with
    | tup s1 t1 =>
      cases Db
      have hl := t1.length
      refine op_repT pins s σ _ _ _ v u Q I rx ry ⟨_, _, _, rfl, rfl, s1.get, fun q => ?_, l.2.1, l.2.2.1, by rw [hl]; exact l.2.2.2, post_tup P k (den_rep t1 _)⟩
      rw [q] at hl
      exact l.1 (List.length_eq_zero_iff.mp hl.symm)
  · rw [if_neg l] at e'; cases e'

/-! ### a dict of the top with text keys -/
abbrev Kvs := List (Str × D)
def lkD : Kvs → Str → Option D
  | [], _ => none
  | (k, d) :: r, z => if k = z then some d else lkD r z
def lkV : List (Str × Value) → Str → Option Value
  | [], _ => none
  | (k, d) :: r, z => if k = z then some d else lkV r z
/-- its entries, as written -/
def Ents (l : List DictEntry) (ps : List (Str × Value)) : Prop := Paired (fun e p => ∃ t, e.key = .str p.1 t ∧ e.val = p.2) l ps
theorem ents_find {z : Str} : ∀ {l : List DictEntry} {ps : List (Str × Value)}, Ents l ps → (l.find? (·.key.isStr z)).map (·.val) = lkV ps z ∧ l.any (·.refKey) = false
  | _, _, .nil => ⟨rfl, rfl⟩
  | e :: l, p :: ps, .cons ⟨t, h1, h2⟩ r => by
    obtain ⟨i1, i2⟩ := ents_find (z := z) r
    constructor
    · rw [List.find?_cons]
      have q : e.key.isStr z = (p.1 == z) := by rw [h1]; rfl
      rw [q]
      unfold lkV
      by_cases y : p.1 = z
      · rw [if_pos y, show (p.1 == z) = true by simpa using y]
        simp [h2]
      · rw [if_neg y, show (p.1 == z) = false by simpa using y]
        exact i1
    · rw [List.any_cons, i2]
      have : e.refKey = false := by unfold DictEntry.refKey; rw [h1]
      rw [this]; rfl
theorem ns_of {K : PySem.W.Frag} {a : Addr} {es : Array DictEntry} {n : Nat} {ps : List (Str × Value)} (hl : K.lookup a = some ⟨.type "dict", none, .dict es n, #[]⟩) (h : Ents es.toList ps) (z : Str) : PySem.W.nsIn K a z = some (lkV ps z) := by
  obtain ⟨h1, h2⟩ := ents_find (z := z) h
  unfold PySem.W.nsIn
  rw [hl]
  dsimp only
  cases e : es.toList.find? (·.key.isStr z) with
  | none =>
    rw [e] at h1
    rw [h2, ← h1]
    rfl
  | some x =>
    rw [e] at h1
    rw [← h1]
    rfl
structure Tab (w : World) (K : PySem.W.Frag) (mg : Str → Option Value) (x : Str) (kvs : Kvs) : Prop where
  ex : ∃ a es n, mg x = some (.ref a) ∧ KDict K w a es n ∧ ∀ z, ∃ r, PySem.W.nsIn K a z = some r ∧ match lkD kvs z with
    | none => r = none
    | some d => ∃ u v, r = some u ∧ RelV v u ∧ ∀ c, Den K mg c v d
theorem tab_mk {w : World} {K : PySem.W.Frag} {mg : Str → Option Value} {x : Str} {a : Addr} {es : Array DictEntry} {n : Nat} {ps : List (Str × Value)} {kvs : Kvs} (hm : mg x = some (.ref a)) (hl : K.lookup a = some ⟨.type "dict", none, .dict es n, #[]⟩)
    (hk : PySem.W.KeysLit w.params es.toList) (lo : (a == sysModules) = false) (he : Ents es.toList ps) (hp : Paired (fun p q => p.1 = q.1 ∧ ∃ v, RelV v p.2 ∧ ∀ c, Den K mg c v q.2) ps kvs) : Tab w K mg x kvs := by
  refine ⟨a, es, n, hm, ⟨hl, hk, lo⟩, fun z => ⟨_, ns_of hl he z, ?_⟩⟩
  clear he hl hm hk
  induction hp with
  | nil => rfl
  | cons h t ih =>
    rename_i p q ps kvs
    obtain ⟨h1, v, h2, h3⟩ := h
    unfold lkD lkV
    by_cases y : q.1 = z
    · rw [if_pos y, if_pos (h1.trans y)]
      exact ⟨_, v, rfl, h2, h3⟩
    · rw [if_neg y, if_neg (fun q => y (h1.symm.trans q))]
      exact ih
def inKd (kvs : Kvs) : D → Option D
  | .str z => some (.bl (lkD kvs z).isSome)
  | _ => none
def ninKd (kvs : Kvs) : D → Option D
  | .str z => some (.bl (!(lkD kvs z).isSome))
  | _ => none
def ixKd (kvs : Kvs) : D → Option D
  | .str z => lkD kvs z
  | _ => none
def mU (op : D → Option D) (f : EvF) : EvF := fun ρ S => (f ρ S).bind fun x => (op x.1).map fun z => (z, x.2)
variable {pos p : Pos} {e : Expr} {f : EvF} {kvs : Kvs} {x : Str}
theorem rD_go {a : Addr} {op : D → Option D} {r : Option Value → Bool} (ht : ∀ z, ∃ r, PySem.W.nsIn X.K a z = some r ∧ match lkD kvs z with
    | none => r = none
    | some d => ∃ u v, r = some u ∧ RelV v u ∧ ∀ c, Den X.K X.mg c v d)
    (hr : ∀ z, op (.str z) = some (.bl (r ((lkD kvs z).map fun _ => Value.none)))) (hs : ∀ d y, op d = some y → ∃ z, d = .str z) (hr2 : ∀ u w, r (some u) = r (some w)) {σ : L2.St} {H : Hp} {Q : VK} (h : tM X.K X.mg (mU op f) σ H Q) :
    tOp (fun x y H Q => ∃ (z : Str) (r' : Option Value), x = .str z ∧ y = .ref a ∧ PySem.W.nsIn X.K a z = some r' ∧ Q (.bl (r r')) H) (tM X.K X.mg f) (tC (.ref a)) σ H Q := by
  obtain ⟨c, ρ, d, S', ⟨rfl, k, en⟩, q, p⟩ := h
  obtain ⟨⟨y, S1⟩, h1, q⟩ := bd q
  obtain ⟨z, h2, q⟩ := mp q
  cases q
  refine ⟨c, ρ, y, S1, .of k en, h1, fun v c1 l1 k1 e1 D1 => ?_⟩
  obtain ⟨w, rfl⟩ := hs _ _ h2
  cases D1
  obtain ⟨r', g1, g2⟩ := ht w
  refine ⟨w, r', rfl, rfl, g1, ?_⟩
  have h2' := (hr w).symm.trans h2
  cases h2'
  have : r r' = r ((lkD kvs w).map fun _ => Value.none) := by
    cases e : lkD kvs w with
    | none =>
      rw [e] at g2
      cases g2
      rfl
    | some d =>
      rw [e] at g2
      obtain ⟨u, v, rfl, _, _⟩ := g2
      exact hr2 _ _
  rw [this]
  exact p _ c1 l1 k1 e1 (.bl _)
theorem isS1 {kvs : Kvs} : ∀ d y, inKd kvs d = some y → ∃ z, d = .str z := by
  intro d y h
  cases d <;> first | exact ⟨_, rfl⟩ | cases h
theorem isS2 {kvs : Kvs} : ∀ d y, ninKd kvs d = some y → ∃ z, d = .str z := by
  intro d y h
  cases d <;> first | exact ⟨_, rfl⟩ | cases h
theorem me_inKd (T : Tab X.w X.K X.mg x kvs) (hg : Gl X x) (he : ME X e f) (hd : (x == ("__debug__" : Str)) = false := by decide) (hm : behindInMarks .In (.Name x p) = false := by rfl) : ME X (.Compare e [.In] [.Name x p] pos) (mU (inKd kvs) f) := by
  obtain ⟨a, es, n, hmg, kd, ht⟩ := T.ex
  exact pe_imp (pe_cmpR (op_in_kd kd) he (pe_glob (v := .ref a) hg hmg rfl hd) hm) fun _ _ _ => rD_go ht (r := Option.isSome) (fun z => by show some _ = _; rw [Option.isSome_map]) isS1 (fun _ _ => rfl)
theorem me_ninKd (T : Tab X.w X.K X.mg x kvs) (hg : Gl X x) (he : ME X e f) (hd : (x == ("__debug__" : Str)) = false := by decide) (hm : behindInMarks .NotIn (.Name x p) = false := by rfl) : ME X (.Compare e [.NotIn] [.Name x p] pos) (mU (ninKd kvs) f) := by
  obtain ⟨a, es, n, hmg, kd, ht⟩ := T.ex
  exact pe_imp (pe_cmpR (op_notIn_kd kd) he (pe_glob (v := .ref a) hg hmg rfl hd) hm) fun _ _ _ => rD_go ht (r := fun o => !o.isSome) (fun z => by show some _ = _; rw [Option.isSome_map]) isS2 (fun _ _ => rfl)
theorem mt_inKd (T : Tab X.w X.K X.mg x kvs) (hg : Gl X x) (he : ME X e f) (hd : (x == ("__debug__" : Str)) = false := by decide) (hm : behindInMarks .In (.Name x p) = false := by rfl) : MT X (.Compare e [.In] [.Name x p] pos) (mTv (mU (inKd kvs) f)) := by
  obtain ⟨a, es, n, hmg, kd, ht⟩ := T.ex
  exact mt_of (pt_cmpR (op_in_kd kd) he (pe_glob (v := .ref a) hg hmg rfl hd) hm) fun _ _ _ => rD_go ht (r := Option.isSome) (fun z => by show some _ = _; rw [Option.isSome_map]) isS1 (fun _ _ => rfl)
theorem mt_ninKd (T : Tab X.w X.K X.mg x kvs) (hg : Gl X x) (he : ME X e f) (hd : (x == ("__debug__" : Str)) = false := by decide) (hm : behindInMarks .NotIn (.Name x p) = false := by rfl) : MT X (.Compare e [.NotIn] [.Name x p] pos) (mTv (mU (ninKd kvs) f)) := by
  obtain ⟨a, es, n, hmg, kd, ht⟩ := T.ex
  exact mt_of (pt_cmpR (op_notIn_kd kd) he (pe_glob (v := .ref a) hg hmg rfl hd) hm) fun _ _ _ => rD_go ht (r := fun o => !o.isSome) (fun z => by show some _ = _; rw [Option.isSome_map]) isS2 (fun _ _ => rfl)
end
end M

namespace M
open PySem L2
/-! what a mirror gives, told by what is wanted of it -/
def wp {α : Type} (o : Option α) (Q : α → Prop) : Prop := ∃ a, o = some a ∧ Q a
section
variable {α β : Type} {Q : β → Prop} {R : α → Prop}
theorem wp_some {a : α} : wp (some a) R ↔ R a := ⟨fun ⟨_, h, q⟩ => by cases h; exact q, fun q => ⟨a, rfl, q⟩⟩
theorem wp_none : wp (none : Option α) R ↔ False := ⟨fun ⟨_, h, _⟩ => (by cases h), False.elim⟩
theorem wp_bind {o : Option α} {f : α → Option β} : wp (o.bind f) Q ↔ wp o fun a => wp (f a) Q := by
  cases o with
  | none => simp [wp]
  | some a => simp [wp]
theorem wp_map {o : Option α} {f : α → β} : wp (o.map f) Q ↔ wp o fun a => Q (f a) := by
  cases o with
  | none => simp [wp]
  | some a => simp [wp]
theorem wp_mono {o : Option α} {R' : α → Prop} (h : wp o R) (w : ∀ a, R a → R' a) : wp o R' := let ⟨a, e, q⟩ := h; ⟨a, e, w a q⟩
theorem wp_ite {c : Prop} [Decidable c] {a b : Option α} : wp (if c then a else b) R ↔ (if c then wp a R else wp b R) := by split <;> rfl
end
def bK {α : Type} (d : D) (a b : Option α) : Option α := match d with
  | .bl true => a
  | .bl false => b
  | _ => none
theorem w_bK {α : Type} {b : Bool} {x y : Option α} {Q : α → Prop} : wp (bK (.bl b) x y) Q ↔ if b = true then wp x Q else wp y Q := by cases b <;> rfl
section
variable {ρ : En} {S : Sto} {Q : D × Sto → Prop} {B : Bool × Sto → Prop} {L : List D × Sto → Prop} {O : Out × Sto → Prop} {f g h : EvF} {t u : EtF} {fa : EaF} {s1 s2 : StF}
theorem w_var {i : Nat} : wp (mVar i ρ S) Q ↔ wp (ρ[i]?) fun o => wp o fun d => Q (d, S) := by unfold mVar; rw [wp_bind]; simp only [wp_map]
theorem w_c {d : D} : wp (mC d ρ S) Q ↔ Q (d, S) := wp_some
theorem w_bin {op : D → D → Option D} : wp (mBin op f g ρ S) Q ↔ wp (f ρ S) fun x => wp (g ρ x.2) fun y => wp (op x.1 y.1) fun z => Q (z, y.2) := by unfold mBin; simp only [wp_bind, wp_map]
theorem w_and : wp (mAnd f g ρ S) Q ↔ wp (f ρ S) fun x => wp (bK x.1 (g ρ x.2) (some (.bl false, x.2))) Q := by unfold mAnd; simp only [wp_bind] <;> exact Iff.rfl
theorem w_or : wp (mOr f g ρ S) Q ↔ wp (f ρ S) fun x => wp (bK x.1 (some (.bl true, x.2)) (g ρ x.2)) Q := by unfold mOr; simp only [wp_bind] <;> exact Iff.rfl
theorem w_not : wp (mNot f ρ S) Q ↔ wp (f ρ S) fun x => wp (match x.1 with | .bl b => some (.bl (!b), x.2) | _ => none) Q := by unfold mNot; simp only [wp_bind] <;> exact Iff.rfl
theorem w_if : wp (mIf t f g ρ S) Q ↔ wp (t ρ S) fun b => if b.1 = true then wp (f ρ b.2) Q else wp (g ρ b.2) Q := by unfold mIf; simp only [wp_bind, wp_ite]
theorem w_nil : wp (mNil ρ S) L ↔ L ([], S) := wp_some
theorem w_cons : wp (mCons f fa ρ S) L ↔ wp (f ρ S) fun x => wp (fa ρ x.2) fun y => L (x.1 :: y.1, y.2) := by unfold mCons; simp only [wp_bind, wp_map]
theorem w_tup : wp (mTup fa ρ S) Q ↔ wp (fa ρ S) fun x => x.1.length ≤ 100000 ∧ Q (.tup x.1, x.2) := by
  unfold mTup; simp only [wp_bind]
  refine ⟨fun h => wp_mono h fun a q => ?_, fun h => wp_mono h fun a q => ?_⟩
  · split at q
    · rw [wp_some] at q; exact ⟨by assumption, q⟩
    · rw [wp_none] at q; exact q.elim
  · rw [if_pos q.1, wp_some]; exact q.2
theorem w_lst : wp (mLst fa ρ S) Q ↔ wp (fa ρ S) fun x => x.1.length ≤ 100000 ∧ Q (.lst x.1, x.2) := by
  unfold mLst; simp only [wp_bind]
  refine ⟨fun h => wp_mono h fun a q => ?_, fun h => wp_mono h fun a q => ?_⟩
  · split at q
    · rw [wp_some] at q; exact ⟨by assumption, q⟩
    · rw [wp_none] at q; exact q.elim
  · rw [if_pos q.1, wp_some]; exact q.2
theorem w_new : wp (mNew fa ρ S) Q ↔ wp (fa ρ S) fun x => x.1.length ≤ 100000 ∧ Q (.ref x.2.length, x.2 ++ [.lst x.1]) := by
  unfold mNew; simp only [wp_bind]
  refine ⟨fun h => wp_mono h fun a q => ?_, fun h => wp_mono h fun a q => ?_⟩
  · split at q
    · rw [wp_some] at q; exact ⟨by assumption, q⟩
    · rw [wp_none] at q; exact q.elim
  · rw [if_pos q.1, wp_some]; exact q.2
theorem w_tv : wp (mTv f ρ S) B ↔ wp (f ρ S) fun x => wp (match x.1 with | .bl b => some (b, x.2) | _ => none) B := by unfold mTv; simp only [wp_bind] <;> exact Iff.rfl
theorem w_tand : wp (mTand t u ρ S) B ↔ wp (t ρ S) fun x => if x.1 = true then wp (u ρ x.2) B else B (false, x.2) := by unfold mTand; simp only [wp_bind, wp_ite, wp_some]
theorem w_tor : wp (mTor t u ρ S) B ↔ wp (t ρ S) fun x => if x.1 = true then B (true, x.2) else wp (u ρ x.2) B := by unfold mTor; simp only [wp_bind, wp_ite, wp_some]
theorem w_tnot : wp (mTnot t ρ S) B ↔ wp (t ρ S) fun x => B (!x.1, x.2) := by unfold mTnot; simp only [wp_map]
theorem w_chain {op op' : D → D → Option D} : wp (mChain op op' f g h ρ S) Q ↔ wp (f ρ S) fun x => wp (g ρ x.2) fun y => wp (op x.1 y.1) fun z =>
    wp (bK z ((h ρ y.2).bind fun w => (op' y.1 w.1).map fun z => (z, w.2)) (some (.bl false, y.2))) Q := by unfold mChain; simp only [wp_bind] <;> exact Iff.rfl
theorem w_call {F : Fn} : wp (mCall F fa ρ S) Q ↔ wp (fa ρ S) fun x => wp (F x.1 x.2) Q := by unfold mCall; simp only [wp_bind] <;> exact Iff.rfl
theorem w_kw {F : Fn} : wp (mKw F f ρ S) Q ↔ wp (f ρ S) fun x => wp (F [x.1] x.2) Q := by unfold mKw; simp only [wp_bind] <;> exact Iff.rfl
theorem w_cb {op : CbF} : wp (mCb op fa ρ S) Q ↔ wp (fa ρ S) fun x => wp (op x.2 x.1) fun z => Q (z, x.2) := by unfold mCb; simp only [wp_bind, wp_map]
theorem w_ix : wp (mIx f g ρ S) Q ↔ wp (f ρ S) fun x => wp (g ρ x.2) fun y => wp (ixD y.2 x.1 y.1) fun z => Q (z, y.2) := by unfold mIx; simp only [wp_bind, wp_map]
theorem w_nop {O : Option Int × Sto → Prop} : wp (mNoP ρ S) O ↔ O (none, S) := wp_some
theorem w_p {O : Option Int × Sto → Prop} : wp (mP f ρ S) O ↔ wp (f ρ S) fun x => wp (match x.1 with | .int i => some (some i, x.2) | _ => none) O := by unfold mP; simp only [wp_bind] <;> exact Iff.rfl
theorem w_sl {l h : EoF} : wp (mSl f l h ρ S) Q ↔ wp (f ρ S) fun x => wp (l ρ x.2) fun y => wp (h ρ y.2) fun z => wp (slD z.2 x.1 y.1 z.1) fun w => Q (w, z.2) := by unfold mSl; simp only [wp_bind, wp_map]
theorem w_neg : wp (mNeg f ρ S) Q ↔ wp (f ρ S) fun x => wp (match x.1 with | .int i => some (.int (-i), x.2) | _ => none) Q := by unfold mNeg; simp only [wp_bind] <;> exact Iff.rfl
theorem w_ms {k : Str → Bool} : wp (mMs k f ρ S) Q ↔ wp (f ρ S) fun x => wp (match x.1 with | .str a => some (.bl (k a), x.2) | _ => none) Q := by unfold mMs; simp only [wp_bind] <;> exact Iff.rfl
theorem w_m1 {op : Sto → D → D → Option D} : wp (mM1 op f g ρ S) Q ↔ wp (f ρ S) fun x => wp (g ρ x.2) fun y => wp (op y.2 x.1 y.1) fun z => Q (z, y.2) := by unfold mM1; simp only [wp_bind, wp_map]
theorem w_d0 : wp (mD0 ρ S) Q ↔ Q (.dct [], S) := wp_some
theorem w_ret : wp (mRet f ρ S) O ↔ wp (f ρ S) fun x => O (.rt x.1, x.2) := by unfold mRet; simp only [wp_map]
theorem w_skip : wp (mSkip ρ S) O ↔ O (.nx ρ, S) := wp_some
theorem w_drop : wp (mDrop f ρ S) O ↔ wp (f ρ S) fun x => O (.nx ρ, x.2) := by unfold mDrop; simp only [wp_map]
theorem w_asg {tg : TgF} : wp (mAsg f tg ρ S) O ↔ wp (f ρ S) fun x => wp (tg ρ x.1) fun r => O (.nx r, x.2) := by unfold mAsg; simp only [wp_bind, wp_map]
theorem w_par {is : List Nat} : wp (mPar is fa ρ S) O ↔ wp (fa ρ S) fun x => wp (setAll is x.1 ρ) fun r => O (.nx r, x.2) := by unfold mPar; simp only [wp_bind, wp_map]
theorem w_ifs : wp (mIfS t s1 s2 ρ S) O ↔ wp (t ρ S) fun b => if b.1 = true then wp (s1 ρ b.2) O else wp (s2 ρ b.2) O := by unfold mIfS; simp only [wp_bind, wp_ite]
theorem w_seq : wp (mSeq s1 s2 ρ S) O ↔ wp (s1 ρ S) fun x => wp (match x.1 with | .nx r => s2 r x.2 | o => some (o, x.2)) O := by unfold mSeq; simp only [wp_bind] <;> exact Iff.rfl
theorem w_seti {o i : EvF} : wp (mSetI f o i ρ S) O ↔ wp (f ρ S) fun x => wp (o ρ x.2) fun y => wp (i ρ y.2) fun z => wp (match y.1, z.1 with | .ref j, .int n => (stSet z.2 j n x.1).map fun S' => (Out.nx ρ, S') | _, _ => none) O := by
  unfold mSetI; simp only [wp_bind] <;> exact Iff.rfl
theorem w_for {sr : SrF} {tg : TgF} : wp (mFor sr tg s1 ρ S) O ↔ wp (sr ρ S) fun x => wp (loop tg s1 x.1 ρ x.2) O := by unfold mFor; simp only [wp_bind] <;> exact Iff.rfl
theorem w_lc {sr : SrF} {j : Nat} {tt : EtF} {te : EvF} : wp (mLc sr j tt te ρ S) Q ↔ wp (sr ρ S) fun x => wp (mapL te tt j (ρ.set j none) x.1 x.2) fun r => r.1.length ≤ 100000 ∧ Q (.lst r.1, r.2) := by
  unfold mLc; simp only [wp_bind]
  refine ⟨fun h => wp_mono h fun a q => wp_mono q fun b q => ?_, fun h => wp_mono h fun a q => wp_mono q fun b q => ?_⟩
  · split at q
    · rw [wp_some] at q; exact ⟨by assumption, q⟩
    · rw [wp_none] at q; exact q.elim
  · rw [if_pos q.1, wp_some]; exact q.2
theorem w_sr : wp (sR fa ρ S) L ↔ wp (fa ρ S) fun x => wp (match x.1 with | [.int n] => if n ≤ 1000000 ∧ -1000000 ≤ n then some (upto n.toNat, x.2) else none | _ => none) L := by unfold sR; simp only [wp_bind] <;> exact Iff.rfl
theorem w_sl' : wp (sL f ρ S) L ↔ wp (f ρ S) fun x => wp (match x.1 with | .lst ds => some (ds, x.2) | _ => none) L := by unfold sL; simp only [wp_bind] <;> exact Iff.rfl
theorem w_st : wp (sT f ρ S) L ↔ wp (f ρ S) fun x => wp (match x.1 with | .tup ds => some (ds, x.2) | _ => none) L := by unfold sT; simp only [wp_bind] <;> exact Iff.rfl
theorem w_ss : wp (sS f ρ S) L ↔ wp (f ρ S) fun x => wp (match x.1 with | .str z => some (z.cps.toList.map fun c => .str ⟨#[c]⟩, x.2) | _ => none) L := by unfold sS; simp only [wp_bind] <;> exact Iff.rfl
theorem w_sz : wp (sZ fa ρ S) L ↔ wp (fa ρ S) fun x => wp (match x.1 with | [.tup as, .tup bs] => some (List.zipWith (fun a b => D.tup [a, b]) as bs, x.2) | _ => none) L := by unfold sZ; simp only [wp_bind] <;> exact Iff.rfl
theorem w_yes : wp (mYes ρ S) B ↔ B (true, S) := wp_some
theorem w_def {n : Nat} {ds : List D} : wp (mDef n s1 ds S) Q ↔ wp (s1 (ds.map some ++ List.replicate (n - ds.length) none) S) fun x => wp (match x.1 with | .rt d => some (d, x.2) | .nx _ => some (.non, x.2) | _ => none) Q := by
  unfold mDef; simp only [wp_bind] <;> exact Iff.rfl
theorem w_held {i : Nat} {tbl : Str → Option Fn} {x : Str} {F : Fn} (h1 : ρ[i]? = some (some (.fn x))) (h2 : tbl x = some F) : wp (mHeld i tbl fa ρ S) Q ↔ wp (fa ρ S) fun a => wp (F a.1 a.2) Q := by
  unfold mHeld; rw [h1]; simp only [h2, wp_bind]
end
/-- a loop by an invariant over (what is left, the names, the store) -/
theorem wp_loop {tg : TgF} {g : StF} {O : Out × Sto → Prop} (W : List D → En → Sto → Prop) (hd : ∀ ρ S, W [] ρ S → O (.nx ρ, S))
    (hs : ∀ d ds ρ S, W (d :: ds) ρ S → wp (tg ρ d) fun ρ1 => wp (g ρ1 S) fun x => match x.1 with
      | .nx r => W ds r x.2
      | .ct r => W ds r x.2
      | .bk r => O (.nx r, x.2)
      | .rt v => O (.rt v, x.2)) : ∀ (ds : List D) (ρ : En) (S : Sto), W ds ρ S → wp (loop tg g ds ρ S) O
  | [], ρ, S, w => wp_some.mpr (hd ρ S w)
  | d :: ds, ρ, S, w => by
    unfold loop
    rw [wp_bind]
    refine wp_mono (hs d ds ρ S w) fun ρ1 q => ?_
    rw [wp_bind]
    refine wp_mono q fun x q => ?_
    obtain ⟨x, S1⟩ := x
    cases x with
    | nx r => exact wp_loop W hd hs ds r S1 q
    | ct r => exact wp_loop W hd hs ds r S1 q
    | bk r => exact wp_some.mpr q
    | rt v => exact wp_some.mpr q
/-- a comprehension by an invariant over (what is left, what is made, the store) -/
theorem wp_mapL {te : EvF} {tt : EtF} {j : Nat} {ρ : En} {L : List D × Sto → Prop} (W : List D → List D → Sto → Prop) (hd : ∀ as S, W [] as S → L (as, S))
    (hs : ∀ d ds as S, W (d :: ds) as S → wp (tt (ρ.set j (some d)) S) fun b => if b.1 = true then wp (te (ρ.set j (some d)) b.2) fun y => W ds (as ++ [y.1]) y.2 else W ds as b.2) :
    ∀ (ds as : List D) (S : Sto), W ds as S → wp (mapL te tt j ρ ds S) fun r => L (as ++ r.1, r.2)
  | [], as, S, w => wp_some.mpr (by simpa using hd as S w)
  | d :: ds, as, S, w => by
    unfold mapL
    rw [wp_bind]
    refine wp_mono (hs d ds as S w) fun b q => ?_
    rw [wp_ite]
    by_cases z : b.1 = true
    · rw [if_pos z] at q ⊢
      rw [wp_bind]
      refine wp_mono q fun y q => ?_
      rw [wp_map]
      refine wp_mono (wp_mapL W hd hs ds (as ++ [y.1]) y.2 q) fun r q => ?_
      simpa using q
    · rw [if_neg z] at q ⊢
      exact wp_mapL W hd hs ds as b.2 q
section
variable {a b : Int} {p q : Bool} {x y : Str} {xs ys : List D} {S : Sto}
theorem e_addI : addD (.int a) (.int b) = some (.int (a + b)) := rfl
theorem e_addT : addD (.tup xs) (.tup ys) = if xs.length + ys.length ≤ 100000 then some (.tup (xs ++ ys)) else none := rfl
theorem e_addL : addD (.lst xs) (.lst ys) = if xs.length + ys.length ≤ 100000 then some (.lst (xs ++ ys)) else none := rfl
theorem e_addS : addD (.str x) (.str y) = if x.length + y.length ≤ 1000000 then some (.str (x ++ y)) else none := rfl
theorem e_subI : subD (.int a) (.int b) = some (.int (a - b)) := rfl
theorem e_mulI : mulD (.int a) (.int b) = if a.natAbs < 2 ^ 63 ∨ b.natAbs < 2 ^ 63 then some (.int (a * b)) else none := rfl
theorem e_modI : modD (.int a) (.int b) = if 0 < b then some (.int (a % b)) else none := rfl
theorem e_fdvI : fdvD (.int a) (.int b) = if 0 < b ∧ b < 1073741824 then some (.int (a / b)) else none := rfl
theorem e_powI : powD (.int a) (.int b) = if 0 ≤ b ∧ b ≤ 1000000 ∧ a.natAbs < 2 ^ 64 then some (.int (a ^ b.toNat)) else none := rfl
theorem e_ltI : ltD (.int a) (.int b) = some (.bl (decide (a < b))) := rfl
theorem e_leI : leD (.int a) (.int b) = some (.bl (decide (a ≤ b))) := rfl
theorem e_gtI : gtD (.int a) (.int b) = some (.bl (decide (b < a))) := rfl
theorem e_geI : geD (.int a) (.int b) = some (.bl (decide (b ≤ a))) := rfl
theorem e_ltS : ltD (.str x) (.str y) = some (.bl (decide (x.cps.toList < y.cps.toList))) := rfl
theorem e_gtS : gtD (.str x) (.str y) = some (.bl (decide (y.cps.toList < x.cps.toList))) := rfl
theorem e_isB : isD (.bl p) (.bl q) = some (.bl (decide (p = q))) := rfl
theorem e_int : intD S [.int a] = some (.int a) := rfl
theorem e_abs : absD S [.int a] = some (.int (if a < 0 then -a else a)) := rfl
theorem e_max : max2D S [.int a, .int b] = some (.int (if b > a then b else a)) := rfl
theorem e_min : min2D S [.int a, .int b] = some (.int (if b < a then b else a)) := rfl
theorem e_lenT : lenD S [.tup xs] = some (.int xs.length) := rfl
theorem e_lenL : lenD S [.lst xs] = some (.int xs.length) := rfl
theorem e_lenQ : lenD S [.seq xs] = some (.int xs.length) := rfl
theorem e_lenS : lenD S [.str x] = if x.length ≤ 1000000 then some (.int x.length) else none := rfl
theorem e_ixT : ixD S (.tup xs) (.int a) = atI xs a := rfl
theorem e_ixL : ixD S (.lst xs) (.int a) = atI xs a := rfl
theorem e_ixQ : ixD S (.seq xs) (.int a) = atI xs a := rfl
theorem e_ixS : ixD S (.str x) (.int a) = if x.length ≤ 1000000 then (atI x.cps.toList a).map fun c => .str ⟨#[c]⟩ else none := rfl
theorem e_slT {lo hi : Option Int} : slD S (.tup xs) lo hi = some (.tup (cut xs lo hi)) := rfl
theorem e_slL {lo hi : Option Int} : slD S (.lst xs) lo hi = some (.lst (cut xs lo hi)) := rfl
theorem e_slQ {lo hi : Option Int} : slD S (.seq xs) lo hi = some (.lst (cut xs lo hi)) := rfl
theorem e_listT : listD S [.tup xs] = some (.lst xs) := rfl
theorem e_listL : listD S [.lst xs] = some (.lst xs) := rfl
theorem e_isi {d : D} {n : String} : isD2 S [d, .ty n] = (isiD d n).map .bl := rfl
theorem e_eqI : eqD (.int a) (.int b) = some (.bl (decide (a = b))) := rfl
theorem e_eqS : eqD (.str x) (.str y) = some (.bl (decide (x = y))) := rfl
theorem e_neI : neD (.int a) (.int b) = some (.bl (!decide (a = b))) := rfl
theorem e_neS : neD (.str x) (.str y) = some (.bl (!decide (x = y))) := rfl
end
theorem itp {c A B : Prop} [Decidable c] (h : c) (a : A) : if c then A else B := by rw [if_pos h]; exact a
theorem itn {c A B : Prop} [Decidable c] (h : ¬ c) (b : B) : if c then A else B := by rw [if_neg h]; exact b
theorem it2 {c A B : Prop} [Decidable c] (a : c → A) (b : ¬ c → B) : if c then A else B := by
  by_cases h : c
  · exact itp h (a h)
  · exact itn h (b h)
theorem wp_of {α : Type} {o : Option α} {a : α} {R : α → Prop} (h : o = some a) (q : R a) : wp o R := ⟨a, h, q⟩
end M

namespace M
open PySem L2
/-! ### texts -/
def low (c : Nat) : Bool := decide (97 ≤ c) && decide (c ≤ 122)
def sgn (c : Nat) : Bool := decide (32 ≤ c) && decide (c ≤ 126)
theorem tab128 : ((List.range 128).all fun c => (Unicode.isPrintable c == sgn c) && (Unicode.isAlpha c == (low c || (decide (65 ≤ c) && decide (c ≤ 90)))) && (Unicode.isLower c == low c) && (Unicode.isUpper c == (decide (65 ≤ c) && decide (c ≤ 90))) && !Unicode.isTitle c) = true := by decide +kernel
theorem tab {c : Nat} (h : c < 128) : Unicode.isPrintable c = sgn c ∧ Unicode.isAlpha c = (low c || (decide (65 ≤ c) && decide (c ≤ 90))) ∧ Unicode.isLower c = low c ∧ Unicode.isUpper c = (decide (65 ≤ c) && decide (c ≤ 90)) ∧ Unicode.isTitle c = false := by
  have q := List.all_eq_true.mp tab128 c (List.mem_range.mpr h)
  simp only [Bool.and_eq_true, beq_iff_eq, Bool.not_eq_true'] at q
  exact ⟨q.1.1.1.1, q.1.1.1.2, q.1.1.2, q.1.2, q.2⟩
theorem arr_all {p : Nat → Bool} {x : Str} : x.cps.all p = x.cps.toList.all p := by rw [Array.all_toList]
theorem arr_any {p : Nat → Bool} {x : Str} : x.cps.any p = x.cps.toList.any p := by rw [Array.any_toList]
/-- is_text's two judgements together -/
theorem ascii_print (x : Str) : (Txt.isascii x && Txt.isprintable x) = x.cps.toList.all sgn := by
  unfold Txt.isascii Txt.isprintable
  rw [arr_all, arr_all]
  induction x.cps.toList with
  | nil => rfl
  | cons c l ih =>
    rw [List.all_cons, List.all_cons, List.all_cons, ← ih]
    by_cases h : c < 128
    · rw [(tab h).1]
      simp [h]
      cases sgn c <;> simp
    · have : sgn c = false := by unfold sgn; simp; omega
      simp [h, this]
theorem isascii_ok {x : Str} (h : x.cps.toList.all sgn = true) : Txt.isascii x = true ∧ Txt.isprintable x = true := by
  rw [← ascii_print] at h
  simpa using h
def nameB (x : Str) : Bool := decide (1 ≤ x.length) && decide (x.length ≤ 8) && x.cps.toList.all low
theorem low_sgn {l : List Nat} (h : l.all low = true) : l.all sgn = true := by
  rw [List.all_eq_true] at h ⊢
  intro c hc
  have := h c hc
  unfold low at this
  unfold sgn
  simp at this ⊢
  omega
/-- is_alpha and is_lower of a text of signs below 128 -/
theorem alpha_lower (x : Str) (h : x.cps.toList.all sgn = true) : (Txt.isalpha x && Txt.islower x) = (decide (1 ≤ x.length) && x.cps.toList.all low) := by
  unfold Txt.isalpha Txt.islower
  rw [arr_all, arr_any, arr_any]
  have hl : x.length = x.cps.toList.length := by simp [Str.length]
  rw [hl]
  generalize x.cps.toList = l at h
  have small : ∀ c ∈ l, c < 128 := fun c hc => by
    have := List.all_eq_true.mp h c hc
    unfold sgn at this
    simp at this
    omega
  rw [Bool.eq_iff_iff]
  simp only [Bool.and_eq_true, decide_eq_true_eq, List.all_eq_true, List.any_eq_true, Bool.not_eq_true', List.any_eq_false, Bool.or_eq_true, not_or]
  constructor
  · rintro ⟨⟨h1, h2⟩, ⟨c, hc, h3⟩, h4⟩
    refine ⟨by omega, fun d hd => ?_⟩
    have t := tab (small d hd)
    have a := h2 d hd
    have b := h4 d hd
    rw [t.2.1] at a
    rw [t.2.2.2.1] at b
    cases e : low d with
    | true => rfl
    | false =>
      rw [e] at a
      simp at a b
      omega
  · rintro ⟨h1, h2⟩
    refine ⟨⟨by omega, fun d hd => ?_⟩, ?_, fun d hd => ?_⟩
    · rw [(tab (small d hd)).2.1, h2 d hd]; rfl
    · match l, h1 with
      | c :: l, _ => exact ⟨c, List.mem_cons_self, by rw [(tab (small c List.mem_cons_self)).2.2.1]; exact h2 c List.mem_cons_self⟩
    · have t := tab (small d hd)
      have a := h2 d hd
      unfold low at a
      simp at a
      rw [t.2.2.2.1, t.2.2.2.2]
      simp
      omega
theorem lt_space (c : Nat) : (decide ((⟨#[c]⟩ : Str).cps.toList < (" " : Str).cps.toList)) = decide (c < 32) := by
  have : (" " : Str).cps.toList = [32] := by decide +kernel
  rw [this]
  simp [List.cons_lt_cons_iff]
theorem gt_tilde (c : Nat) : (decide (("~" : Str).cps.toList < (⟨#[c]⟩ : Str).cps.toList)) = decide (126 < c) := by
  have : ("~" : Str).cps.toList = [126] := by decide +kernel
  rw [this]
  simp [List.cons_lt_cons_iff]
theorem lt_space' (c : Nat) : ([c] < (" " : Str).cps.toList) = (c < 32) := by
  have : (" " : Str).cps.toList = [32] := by decide +kernel
  rw [this]
  simp [List.cons_lt_cons_iff]
theorem gt_tilde' (c : Nat) : (("~" : Str).cps.toList < [c]) = (126 < c) := by
  have : ("~" : Str).cps.toList = [126] := by decide +kernel
  rw [this]
  simp [List.cons_lt_cons_iff]
theorem in_letters (c : Nat) : decide ((⟨#[c]⟩ : Str).cps.getD 0 0 ∈ ("abcdefghijklmnopqrstuvwxyz" : Str).cps.toList) = low c := by
  have : ("abcdefghijklmnopqrstuvwxyz" : Str).cps.toList = List.range' 97 26 := by decide +kernel
  rw [this]
  unfold low
  rw [Bool.eq_iff_iff]
  simp [List.mem_range'_1]
  omega
end M

namespace M
open PySem L2
/-! ### plain data and its measure -/
def szKey : Key → Nat
  | .inl _ => 0
  | .inr s => s.length
mutual
def szD : D → Nat
  | .str x => x.length
  | .lst ds => szA ds
  | .tup ds => szA ds
  | .dct kvs => szK kvs
  | _ => 0
def szA : List D → Nat
  | [] => 0
  | d :: ds => szD d + 1 + szA ds
def szK : List (Key × D) → Nat
  | [] => 0
  | (k, d) :: r => szKey k + szD d + 2 + szK r
end
mutual
def dpD : D → Nat
  | .lst ds => dpA ds + 1
  | .tup ds => dpA ds + 1
  | .dct kvs => dpK kvs + 1
  | _ => 0
def dpA : List D → Nat
  | [] => 0
  | d :: ds => max (dpD d) (dpA ds)
def dpK : List (Key × D) → Nat
  | [] => 0
  | (_, d) :: r => max (max 0 (dpD d)) (dpK r)
end
def okS (x : Str) : Bool := x.cps.toList.all fun c => decide (c < 1114112)
def okKey : Key → Bool
  | .inl i => decide (i.natAbs < 10 ^ 40)
  | .inr s => okS s
mutual
def okD : D → Bool
  | .non => true
  | .bl _ => true
  | .int i => decide (i.natAbs < 10 ^ 40)
  | .str x => okS x && decide (x.length ≤ 100000)
  | .lst ds => okA ds
  | .tup ds => okA ds
  | .dct kvs => okK kvs
  | _ => false
def okA : List D → Bool
  | [] => true
  | d :: ds => okD d && okA ds
def okK : List (Key × D) → Bool
  | [] => true
  | (k, d) :: r => okKey k && okD d && okK r
end
theorem int_small {i : Int} (h : i.natAbs < 10 ^ 40) : (PyData.shown (.int i)).length ≤ 50 ∧ i.natAbs.log2 < 1920 := by
  constructor
  · have e := int_text_length_le10 (k := 40) (by decide) h
    show (Str.ofString (toString i)).length ≤ 50
    rw [ofString_length]
    omega
  · have : i.natAbs < 2 ^ 1920 := Nat.lt_of_lt_of_le h (by decide)
    by_cases z : i.natAbs = 0
    · rw [z]; decide
    · exact (Nat.log2_lt z).mpr this
theorem str_small {x : Str} (h : okS x = true) : (x.cps.toList.all fun c => decide (c < 16 ^ 8)) = true := by
  unfold okS at h
  rw [List.all_eq_true] at h ⊢
  intro c hc
  have := h c hc
  simp at this ⊢
  omega
mutual
theorem ok_toQ : ∀ d : D, okD d = true → ∃ p, toQ d = some p ∧ p.showable = true ∧ p.leavesShort 50 = true ∧ p.depth = dpD d ∧ p.bulk = szD d
  | .non, _ => ⟨.none, by rw [toQ], by rw [PyData.showable], by rw [PyData.leavesShort], by rw [PyData.depth, dpD] <;> simp, by rw [PyData.bulk, szD] <;> simp⟩
  | .bl b, _ => ⟨.bool b, by rw [toQ], by rw [PyData.showable], by rw [PyData.leavesShort], by rw [PyData.depth, dpD] <;> simp, by rw [PyData.bulk, szD] <;> simp⟩
  | .int i, h => by
    rw [okD] at h
    obtain ⟨h1, h2⟩ := int_small (of_decide_eq_true h)
    exact ⟨.int i, by rw [toQ], by rw [PyData.showable]; exact decide_eq_true h2, by rw [PyData.leavesShort]; exact decide_eq_true h1, by rw [PyData.depth, dpD] <;> simp, by rw [PyData.bulk, szD] <;> simp⟩
  | .str x, h => by
    rw [okD, Bool.and_eq_true] at h
    exact ⟨.str x, by rw [toQ], by rw [PyData.showable], by rw [PyData.leavesShort]; exact str_small h.1, by rw [PyData.depth, dpD] <;> simp, by rw [PyData.bulk, szD]; rfl⟩
  | .lst ds, h => by
    rw [okD] at h
    obtain ⟨ps, h1, h2, h3, h4, h5⟩ := ok_toQA ds h
    exact ⟨.list ps, by rw [toQ, h1]; rfl, by rw [PyData.showable]; exact h2, by rw [PyData.leavesShort]; exact h3, by rw [PyData.depth, dpD, h4], by rw [PyData.bulk, szD, h5]⟩
  | .tup ds, h => by
    rw [okD] at h
    obtain ⟨ps, h1, h2, h3, h4, h5⟩ := ok_toQA ds h
    exact ⟨.tuple ps, by rw [toQ, h1]; rfl, by rw [PyData.showable]; exact h2, by rw [PyData.leavesShort]; exact h3, by rw [PyData.depth, dpD, h4], by rw [PyData.bulk, szD, h5]⟩
  | .dct ds, h => by
    rw [okD] at h
    obtain ⟨ps, h1, h2, h3, h4, h5⟩ := ok_toQK ds h
    exact ⟨.dict ps, by rw [toQ, h1]; rfl, by rw [PyData.showable]; exact h2, by rw [PyData.leavesShort]; exact h3, by rw [PyData.depth, dpD, h4], by rw [PyData.bulk, szD, h5]⟩
  | .ref _, h => by simp [okD] at h
  | .fn _, h => by simp [okD] at h
  | .ty _, h => by simp [okD] at h
  | .seq _, h => by simp [okD] at h
theorem ok_toQA : ∀ ds : List D, okA ds = true → ∃ ps, toQA ds = some ps ∧ PyData.showableAll ps = true ∧ PyData.leavesShortAll 50 ps = true ∧ PyData.depthAll ps = dpA ds ∧ PyData.bulkAll ps = szA ds
  | [], _ => ⟨[], by rw [toQA], by rw [PyData.showableAll], by rw [PyData.leavesShortAll], by rw [PyData.depthAll, dpA], by rw [PyData.bulkAll, szA]⟩
  | d :: ds, h => by
    rw [okA, Bool.and_eq_true] at h
    obtain ⟨p, a1, a2, a3, a4, a5⟩ := ok_toQ d h.1
    obtain ⟨ps, b1, b2, b3, b4, b5⟩ := ok_toQA ds h.2
    exact ⟨p :: ps, by rw [toQA, a1, b1]; rfl, by rw [PyData.showableAll, a2, b2]; rfl, by rw [PyData.leavesShortAll, a3, b3]; rfl, by rw [PyData.depthAll, dpA, a4, b4], by rw [PyData.bulkAll, szA, a5, b5]⟩
theorem ok_toQK : ∀ ds : List (Key × D), okK ds = true → ∃ ps, toQK ds = some ps ∧ PyData.showableKv ps = true ∧ PyData.leavesShortKv 50 ps = true ∧ PyData.depthKv ps = dpK ds ∧ PyData.bulkKv ps = szK ds
  | [], _ => ⟨[], by rw [toQK], by rw [PyData.showableKv], by rw [PyData.leavesShortKv], by rw [PyData.depthKv, dpK], by rw [PyData.bulkKv, szK]⟩
  | (k, d) :: ds, h => by
    rw [okK, Bool.and_eq_true, Bool.and_eq_true] at h
    obtain ⟨p, a1, a2, a3, a4, a5⟩ := ok_toQ d h.1.2
    obtain ⟨ps, b1, b2, b3, b4, b5⟩ := ok_toQK ds h.2
    have hk : (keyQ k).showable = true ∧ (keyQ k).leavesShort 50 = true ∧ (keyQ k).depth = 0 ∧ (keyQ k).bulk = szKey k := by
      cases k with
      | inl i =>
        obtain ⟨h1, h2⟩ := int_small (of_decide_eq_true h.1.1)
        exact ⟨by rw [keyQ, PyData.showable]; exact decide_eq_true h2, by rw [keyQ, PyData.leavesShort]; exact decide_eq_true h1, by rw [keyQ, PyData.depth] <;> simp, by rw [keyQ, PyData.bulk, szKey] <;> simp⟩
      | inr s => exact ⟨by rw [keyQ, PyData.showable], by rw [keyQ, PyData.leavesShort]; exact str_small h.1.1, by rw [keyQ, PyData.depth] <;> simp, by rw [keyQ, PyData.bulk, szKey]; rfl⟩
    obtain ⟨k1, k2, k3, k4⟩ := hk
    exact ⟨(keyQ k, p) :: ps, by rw [toQK, a1, b1]; rfl, by rw [PyData.showableKv, k1, a2, b2]; rfl, by rw [PyData.leavesShortKv, k2, a3, b3]; rfl, by rw [PyData.depthKv, dpK, k3, a4, b4], by rw [PyData.bulkKv, szK, k4, a5, b5]⟩
end
/-- small plain data: at most so deep, so large -/
def Sm (d : D) (dp n : Nat) : Prop := okD d = true ∧ dpD d ≤ dp ∧ szD d ≤ n
def SmA (ds : List D) (dp n : Nat) : Prop := okA ds = true ∧ dpA ds ≤ dp ∧ szA ds ≤ n
theorem Sm.mono {d : D} {p q n m : Nat} (h : Sm d p n) (a : p ≤ q) (b : n ≤ m) : Sm d q m := ⟨h.1, Nat.le_trans h.2.1 a, Nat.le_trans h.2.2 b⟩
theorem e_repr {S : Sto} {d : D} (h : Sm d 60 100000) : ∃ x, reprD S [d] = some (.str x) := by
  obtain ⟨p, a1, a2, a3, a4, a5⟩ := ok_toQ d h.1
  refine ⟨p.shown, ?_⟩
  have : fitB p = true := by
    unfold fitB
    rw [a2, a3, a4, a5, decide_eq_true h.2.1, decide_eq_true h.2.2]
    rfl
  show (toQ d).bind _ = _
  rw [a1]
  show (if fitB p = true then _ else _) = _
  rw [if_pos this]
theorem okA_app : ∀ {xs ys : List D}, okA (xs ++ ys) = (okA xs && okA ys)
  | [], ys => by rw [List.nil_append, okA]; rfl
  | x :: xs, ys => by rw [List.cons_append, okA, okA, okA_app, Bool.and_assoc]
theorem szA_app : ∀ {xs ys : List D}, szA (xs ++ ys) = szA xs + szA ys
  | [], ys => by rw [List.nil_append, szA]; omega
  | x :: xs, ys => by rw [List.cons_append, szA, szA, szA_app]; omega
theorem dpA_app : ∀ {xs ys : List D}, dpA (xs ++ ys) = max (dpA xs) (dpA ys)
  | [], ys => by rw [List.nil_append, dpA]; omega
  | x :: xs, ys => by rw [List.cons_append, dpA, dpA, dpA_app]; omega
theorem SmA.app {xs ys : List D} {p q n m : Nat} (a : SmA xs p n) (b : SmA ys q m) : SmA (xs ++ ys) (max p q) (n + m) := by
  have := a.2; have := b.2
  exact ⟨by rw [okA_app, a.1, b.1]; rfl, by rw [dpA_app]; omega, by rw [szA_app]; omega⟩
theorem SmA.take {xs : List D} {p n : Nat} (k : Nat) (h : SmA xs p n) : SmA (xs.take k) p n := by
  have e := List.take_append_drop k xs
  have h1 := h.1; have h2 := h.2
  rw [← e] at h1 h2
  rw [okA_app, Bool.and_eq_true] at h1
  rw [dpA_app, szA_app] at h2
  exact ⟨h1.1, by omega, by omega⟩
theorem SmA.drop {xs : List D} {p n : Nat} (k : Nat) (h : SmA xs p n) : SmA (xs.drop k) p n := by
  have e := List.take_append_drop k xs
  have h1 := h.1; have h2 := h.2
  rw [← e] at h1 h2
  rw [okA_app, Bool.and_eq_true] at h1
  rw [dpA_app, szA_app] at h2
  exact ⟨h1.2, by omega, by omega⟩
theorem SmA.cut {xs : List D} {p n : Nat} {lo hi : Option Int} (h : SmA xs p n) : SmA (cut xs lo hi) p n := (h.drop _).take _
theorem SmA.one {d : D} {p n : Nat} (h : Sm d p n) : SmA [d] p (n + 1) := by
  have := h.2
  exact ⟨by rw [okA, h.1, okA]; rfl, by rw [dpA, dpA]; omega, by rw [szA, szA]; omega⟩
theorem SmA.tup {ds : List D} {p n : Nat} (h : SmA ds p n) : Sm (.tup ds) (p + 1) n := ⟨by rw [okD]; exact h.1, by rw [dpD]; have := h.2.1; omega, by rw [szD]; exact h.2.2⟩
theorem SmA.lst {ds : List D} {p n : Nat} (h : SmA ds p n) : Sm (.lst ds) (p + 1) n := ⟨by rw [okD]; exact h.1, by rw [dpD]; have := h.2.1; omega, by rw [szD]; exact h.2.2⟩
theorem Sm.tupA {ds : List D} {p n : Nat} (h : Sm (.tup ds) (p + 1) n) : SmA ds p n := by
  obtain ⟨h1, h2, h3⟩ := h
  rw [okD] at h1; rw [dpD] at h2; rw [szD] at h3
  exact ⟨h1, by omega, h3⟩
theorem Sm.dct1 {d : D} {p n : Nat} {s : Str} (h : Sm d p n) (hs : okS s = true) : Sm (.dct [(.inr s, d)]) (p + 1) (n + s.length + 2) := by
  have := h.2
  exact ⟨by rw [okD, okK, okK, h.1, okKey, hs]; rfl, by rw [dpD, dpK, dpK]; omega, by rw [szD, szK, szK, szKey]; omega⟩
theorem okA_get : ∀ {xs : List D} {i : Nat} {d : D}, okA xs = true → xs[i]? = some d → okD d = true
  | [], _, _, _, e => by simp at e
  | x :: xs, 0, _, h, e => by
    rw [okA, Bool.and_eq_true] at h
    simp at e; subst e; exact h.1
  | x :: xs, i + 1, _, h, e => by
    rw [okA, Bool.and_eq_true] at h
    exact okA_get h.2 (by simpa using e)
theorem SmA.cons {d : D} {ds : List D} {p n m : Nat} (a : Sm d p n) (b : SmA ds p m) : SmA (d :: ds) p (n + 1 + m) := by
  have := a.2; have := b.2
  exact ⟨by rw [okA, a.1, b.1]; rfl, by rw [dpA]; omega, by rw [szA]; omega⟩
theorem SmA.nil {p n : Nat} : SmA [] p n := ⟨by rw [okA], by rw [dpA]; omega, by rw [szA]; omega⟩
theorem SmA.mono {ds : List D} {p q n m : Nat} (h : SmA ds p n) (a : p ≤ q) (b : n ≤ m) : SmA ds q m := ⟨h.1, Nat.le_trans h.2.1 a, Nat.le_trans h.2.2 b⟩
end M

namespace M
open PySem PySem.Spec L2 W2 RZ
section
variable {X : Cx} {pos p : Pos} {e : Expr} {f : EvF} {kvs : Kvs} {x : Str}
theorem ix_kd {d : Addr} {es : Array DictEntry} {n : Nat} (D : KDict X.K X.w d es n) : IxR X (fun x y H Q => ∃ (z : Str) (u0 : Value) (v0 : V), x = .ref d ∧ y = .str z ∧ PySem.W.nsIn X.K d z = some (some u0) ∧ RelV v0 u0 ∧ Q v0 H) := by
  intro value slice pins s σ H x y v u Q I rx ry h hs
  obtain ⟨z, u0, v0, rfl, rfl, e, r, q⟩ := h
  cases rx
  obtain ⟨t, rfl⟩ := ry
  have hm := PySem.W.mapOf_K (prog := X.prog) I.kIn D.at_ D.lit
  exact PyProof.Rows.tail_any hm.typeIs slot_dict_getitem.lookup (wpAny_getItem_of (PySem.strKind_is X.prog X.w z t) hm (PySem.W.find_K D.at_ e) ⟨v0, H, I.tok _, r, q⟩) hs
theorem me_ixKd (T : Tab X.w X.K X.mg x kvs) (hg : Gl X x) (he : ME X e f) (hs : PlainIx e) (hd : (x == ("__debug__" : Str)) = false := by decide) : ME X (.Subscript (.Name x p) e pos) (mU (ixKd kvs) f) := by
  obtain ⟨a, es, n, hmg, kd, ht⟩ := T.ex
  refine pe_imp (pe_ix (ix_kd kd) (pe_glob (v := .ref a) hg hmg rfl hd) he hs) ?_
  rintro σ H Q ⟨c, ρ, d, S', ⟨rfl, k, en⟩, q, p⟩
  obtain ⟨⟨y, S1⟩, h1, q⟩ := bd q
  obtain ⟨z, h2, q⟩ := mp q
  cases q
  refine ⟨c, ρ, y, S1, .of k en, h1, fun v c1 l1 k1 e1 D1 => ?_⟩
  cases y <;> try (cases h2)
  rename_i w q0
  cases D1
  obtain ⟨r', g1, g2⟩ := ht w
  have h2' : lkD kvs w = some d := h2
  rw [h2'] at g2
  obtain ⟨u, v0, rfl, g3, g4⟩ := g2
  exact ⟨w, u, v0, rfl, rfl, g1, g3, p _ c1 l1 k1 e1 (g4 c1)⟩
/-- a tuple of the top -/
theorem den_ktup {K : PySem.W.Frag} {mg : Str → Option Value} {c : Cfg} {a : Addr} {od : Option Addr} {n : Nat} {sl : Array (Option Value)} {us : List Value} {xs : List V} {ds : List D} (hk : K.lookup a = some ⟨.type "tuple", od, .seq us.toArray n, sl⟩) (hz : us.length ≤ 1000)
    (h : Vals xs us) (hd : DenA K mg c xs ds) : Den K mg c (.ref a) (.tup ds) :=
  .tup (xs := xs) (.inr (.inr ⟨_, us.toArray, n, hk, rfl, rfl, by rw [List.size_toArray, sizeLine_eq]; omega, by rw [List.toList_toArray]; exact h⟩)) hd

/-! ### a dict is no text -/
theorem str_eq_declines_dict (b : Str) (u : Tok) (l : Addr) (c : Value) (es : Array DictEntry) (n : Nat) (dd : Option Addr) (sl : Array (Option Value)) :
    Meets (Builtin.«str.__eq__» ⟨[.str b u, .ref l], []⟩) (fun _ R s => s.heap.get? l = some { cls := c, dict := dd, data := .dict es n, slots := sl } ∧ R (.ok (.ret .notImplemented)) s) :=
  .of_wp fun prog w A R s h => by obtain ⟨hp, g, d, tk, os⟩ := s; obtain ⟨hl, h⟩ := h; wp_walk using wpAny_load hl; exact ⟨_, rfl, h⟩
theorem rc_dict_str {A : Around} {s : Shared} {a : Addr} {es : Array DictEntry} {n : Nat} {b : Str} {u : Tok} {dd : Option Addr} {sl : Array (Option Value)} (h : s.heap.get? a = some { cls := .type "dict", dict := dd, data := .dict es n, slots := sl }) (hu : A.units < cLine)
    (prog : Program) (w : World) (E : Value → Shared → Prop) (Q : Value → Shared → Prop) (q : Q (.bool false) s) : wpAny (model prog w) A (richCompare .Eq (.ref a) (.str b u)) Q E s := by
  have ty : s.TypeIs (.ref a) "dict" := ⟨_, h, rfl⟩
  refine PySem.SeqAt.rc_eq_decline_or (k := false) ty (typeIs_str s b u) (by decide) PySem.F.sub_str_dict PySem.F.slot_dict_eq PySem.F.slot_str_eq_refl ?_
    (fun _ hq => call_meets PySem.F.slot_str_eq_refl (typeIs_str s b u) PySem.F.entry_str_eq (PySem.F.args_str_eq_2 _ _) (str_eq_declines_dict b u a (.type "dict") es n dd sl) ⟨h, hq⟩)
    (fun _ hq => wpAny_of_eq (rfl : isSame (.ref a) (.str b u) = pure false) hq) (.inr hu) q
  intro Q q
  refine wpAny_call_entry PySem.F.slot_dict_eq ty PySem.F.entry_dict_eq ?_ (PySem.F.args_dict_eq_2 _ _)
  show wpAny _ _ (Builtin.Dict.dictSlotArgs "__eq__" ⟨[.ref a, .str b u], []⟩ >>= _) _ _ s
  refine wpAny_bind ?_
  unfold Builtin.Dict.dictSlotArgs
  refine wpAny_bind (wpAny_notOrdered_dict ty ?_)
  show wpAny _ _ (pure (Value.ref a, Value.str b u)) _ _ s
  refine wpAny_pure ?_
  refine wpAny_bind (wpAny_isInstance (T := "str") (typeIs_str s b u) PySem.F.sub_str_dict ?_)
  simp only [Bool.not_false, if_true]
  refine wpAny_bind (wpAny_rule ?_)
  exact wpAny_pure ⟨_, rfl, q⟩
/-- == with a text on the right -/
def eqE : D → D → Option D := fun a b => match b with
  | .str y => (match a with
    | .str x => some (.bl (decide (x = y)))
    | .non => some (.bl false)
    | .bl _ => some (.bl false)
    | .int _ => some (.bl false)
    | .lst _ => some (.bl false)
    | .tup _ => some (.bl false)
    | .dct _ => some (.bl false)
    | _ => none)
  | _ => eqD a b
theorem od_eqE (hr : Rg X.A) : OpD X (compareOp .Eq) eqE := by
  rintro pins s σ H x y v u Q I rx ry ⟨c, a, b, z, rfl, k, Da, Db, e, P⟩
  have hu := hr.units
  unfold eqE at e
  split at e
  · rename_i y
    split at e
    · exact od_eq hr pins s σ _ _ _ v u Q I rx ry ⟨c, _, _, z, rfl, k, Da, Db, e, P⟩
    · cases e; cases Db; cases Da
      exact op_eq pins s σ _ _ _ v u Q I rx ry ⟨rfl, P.here k (.bl _)⟩
    · cases e; cases Db; cases Da
      exact op_eq pins s σ _ _ _ v u Q I rx ry ⟨rfl, P.here k (.bl _)⟩
    · cases e; cases Db; cases Da
      exact op_eq pins s σ _ _ _ v u Q I rx ry ⟨rfl, P.here k (.bl _)⟩
    · cases e; cases Db
      cases Da with
      | lst s1 t1 =>
        cases rx
        obtain ⟨t, rfl⟩ := ry
        obtain ⟨its, rv, hl, _⟩ := I.list s1.get
        exact PySem.SeqAt.RcAt.list_str _ _ hl.isList (by omega) _ _ _ _ ⟨.bl false, c.H, I, rfl, P.here k (.bl _)⟩
    · cases e; cases Db
      cases Da with
      | tup s1 t1 =>
        cases rx
        obtain ⟨t, rfl⟩ := ry
        obtain ⟨its, rv, hl, _⟩ := I.tuple s1.get
        exact PySem.SeqAt.RcAt.tuple_str _ _ hl (by omega) _ _ _ _ ⟨.bl false, c.H, I, rfl, P.here k (.bl _)⟩
    · cases e; cases Db
      cases Da with
      | dct n s1 t1 =>
        cases rx
        obtain ⟨t, rfl⟩ := ry
        obtain ⟨_, hm, vs, kv, o, es, ep, ho, hx, hd, hes⟩ := dk_of I.hok s1
        obtain ⟨oc, od, dt, sl⟩ := o
        have h1 : oc = .type "dict" := hx.1
        have h2 : dt = .dict es ep := hd
        subst h1 h2
        exact rc_dict_str ho (by omega) _ _ _ _ ⟨.bl false, c.H, I, rfl, P.here k (.bl _)⟩
    · cases e
  · exact od_eq hr pins s σ _ _ _ v u Q I rx ry ⟨c, _, _, z, rfl, k, Da, Db, e, P⟩
def strB (d : D) (x : Str) : Bool := match d with
  | .str y => decide (y = x)
  | _ => false
theorem e_eqE {d : D} {x : Str} (h : okD d = true) : eqE d (.str x) = some (.bl (strB d x)) := by
  cases d <;> first | rfl | (exfalso; simp [okD] at h; done)
end
end M

namespace M
open PySem PySem.Spec L2 W2 RZ
/-- no fuel is left -/
def fn0 : Fn := fun _ _ => none
theorem cal_none {P : Program} {w : World} {K : PySem.W.Frag} {mg : Str → Option Value} {base : Heap} {x : Str} {st : Stmt} {f : Addr} {fd : FuncData} {ps : List Str} {k np : Nat} (Z : Fun K x x st f fd) (m : mg x = some (.ref f)) (b : Binds K fd ps [])
    (hl : ps.length = np) : Cal P w K mg base k x np fn0 := by
  subst hl
  exact ⟨⟨f, fd, ps, m, Z.kp, b, ⟨fun vs H Q E h => h.1, fun A o s H ar us vs Q E hr he hb hv h => by
    obtain ⟨_, c, ds, d, S', _, _, _, e, _⟩ := h
    cases e⟩, rfl⟩⟩
theorem mu_def {op : D → Option D} {f : EvF} {ρ : En} {S : Sto} : mU op f ρ S = (f ρ S).bind fun x => (op x.1).map fun z => (z, x.2) := rfl
end M

namespace M
open PySem PySem.Spec L2 W2 RZ
/-- a list against an empty one -/
def eqNil : D → D → Option D
  | .lst xs, .lst [] => some (.bl xs.isEmpty)
  | _, _ => none
def neNil (a b : D) : Option D := match eqNil a b with
  | some (.bl x) => some (.bl (!x))
  | _ => none
section
variable {X : Cx}
theorem od_eqNil (hr : Rg X.A) : OpD X (compareOp .Eq) eqNil := by
  rintro pins s σ H x y v u Q I rx ry ⟨c, a, b, z, rfl, k, Da, Db, e, P⟩
  have hu := hr.units
  unfold eqNil at e
  split at e
  · rename_i xs
    cases xs with
    | nil =>
      cases e
      refine od_eq hr pins s σ _ _ _ v u Q I rx ry ⟨c, .lst [], .lst [], _, rfl, k, Da, Db, ?_, P⟩
      have h : SeqAt.shaped (.list []) = true := by decide +kernel
      show eqD0 (.lst []) (.lst []) = _
      unfold eqD0
      rw [toP, toPA]
      show (if SeqAt.shaped (.list []) = true ∧ SeqAt.shaped (.list []) = true then some (D.bl (PyData.eqv (.list []) (.list []))) else none) = _
      rw [if_pos ⟨h, h⟩, PyData.eqv, PyData.eqvAll]
      rfl
    | cons d ds =>
      cases e
      cases Da with
      | lst s1 t1 =>
        cases Db with
        | lst s2 t2 =>
          cases rx
          cases ry
          obtain ⟨its, rv, hl, _⟩ := I.list s1.get
          obtain ⟨its2, rv2, hl2, _⟩ := I.list s2.get
          have l1 := rv.length; have l2 := rv2.length; have l3 := t1.length; have l4 := t2.length
          refine PySem.SeqAt.eq_list_lengthsAt hl.isList hl2.isList ?_ (by omega) ⟨.bl false, c.H, I, rfl, P.here k (.bl _)⟩
          simp only [List.size_toArray, bne_iff_ne, ne_eq]
          simp only [List.length_cons, List.length_nil] at l3 l4
          omega
  · cases e
end
end M

namespace M
open PySem PySem.Spec L2 W2 RZ

/-! ### while, with so much fuel -/
def whl (t : EtF) (g : StF) : Nat → StF
  | 0, _, _ => none
  | n + 1, ρ, S => (t ρ S).bind fun b => if b.1 = true then (g ρ b.2).bind fun x => match x.1 with
      | .nx ρ' => whl t g n ρ' x.2
      | .ct ρ' => whl t g n ρ' x.2
      | .bk ρ' => some (.nx ρ', x.2)
      | .rt d => some (.rt d, x.2)
    else some (.nx ρ, b.2)
def mWhile (n : Nat) (t : EtF) (g : StF) : StF := whl t g n
section
variable {X : Cx} {st : Stmt} {t : EtF} {g : StF}
theorem ms_while (n : Nat) (h : PS X st (tWhile (tT X.K X.mg t) (tS X.K X.mg g))) : MS X st (mWhile n t g) := ps_imp h <| by
  rintro Dd σ H ⟨c, ρ, o, S', ⟨rfl, k, en⟩, q, p⟩
  refine ⟨fun m σ H => ∃ c2 ρ2, At X.K X.mg c2 ρ2 σ H ∧ Le c c2 ∧ whl t g m ρ2 c2.S = some (o, S'), ⟨n, c, ρ, ⟨rfl, k, en⟩, .refl c, q⟩, ?_⟩
  rintro m σ1 H1 ⟨c1, ρ1, ⟨rfl, k1, en1⟩, l1, q1⟩
  cases m with
  | zero => cases q1
  | succ m =>
    obtain ⟨⟨b, S1⟩, h1, q2⟩ := bd q1
    refine ⟨c1, ρ1, b, S1, .of k1 en1, h1, fun c2 l2 k2 e2 => ?_⟩
    cases b with
    | false =>
      cases q2
      exact p c2 (l1.trans l2) k2 e2 _ (en1.mono l2)
    | true =>
      obtain ⟨⟨x, S3⟩, h3, q3⟩ := bd (show (g ρ1 S1).bind _ = some (o, S') from q2)
      refine ⟨fun σ4 H4 => ∃ c2 ρ2, At X.K X.mg c2 ρ2 σ4 H4 ∧ Le c c2 ∧ whl t g m ρ2 c2.S = some (o, S'), fun σ4 H4 z => ⟨m, Nat.lt_succ_self m, z⟩, ?_⟩
      refine ⟨c2, ρ1, x, S3, .of k2 (en1.mono l2), by rw [e2]; exact h3, fun c3 l3 k3 e3 => ?_⟩
      cases x with
      | nx ρ' => exact fun σ4 en4 => ⟨c3, ρ', .of k3 en4, (l1.trans l2).trans l3, by rw [e3]; exact q3⟩
      | ct ρ' => exact fun σ4 en4 => ⟨c3, ρ', .of k3 en4, (l1.trans l2).trans l3, by rw [e3]; exact q3⟩
      | bk ρ' =>
        cases q3
        exact p c3 ((l1.trans l2).trans l3) k3 e3
      | rt d =>
        cases q3
        exact p c3 ((l1.trans l2).trans l3) k3 e3
end

/-! ### lists of the store -/
def stLst (S : Sto) (j : Nat) : Option (List D) := match S[j]? with
  | some (.lst xs) => some xs
  | _ => none
theorem stLst_eq {S : Sto} {j : Nat} {xs : List D} (h : stLst S j = some xs) : S[j]? = some (.lst xs) := by
  unfold stLst at h
  split at h
  · cases h; assumption
  · cases h
/-- x.append(e) -/
def mApp (f g : EvF) : EvF := fun ρ S => (f ρ S).bind fun x => match x.1 with
  | .ref j => (stLst x.2 j).bind fun _ => (g ρ x.2).bind fun y => (stLst y.2 j).bind fun xs => if xs.length < 100000 then some (.non, y.2.set j (.lst (xs ++ [y.1]))) else none
  | _ => none
def mExt (f g : EvF) : EvF := fun ρ S => (f ρ S).bind fun x => match x.1 with
  | .ref j => (stLst x.2 j).bind fun _ => (g ρ x.2).bind fun y => match y.1 with
    | .lst zs => (stLst y.2 j).bind fun xs => if xs.length + zs.length < 100000 then some (.non, y.2.set j (.lst (xs ++ zs))) else none
    | _ => none
  | _ => none
def mPop (f : EvF) : EvF := fun ρ S => (f ρ S).bind fun x => match x.1 with
  | .ref j => (stLst x.2 j).bind fun xs => (xs[xs.length - 1]?).map fun d => (d, x.2.set j (.lst xs.dropLast))
  | _ => none
theorem DenA.dropLast {K : PySem.W.Frag} {mg : Str → Option Value} {c : Cfg} {ds : List D} {vs : List V} (h : DenA K mg c vs ds) : DenA K mg c vs.dropLast ds.dropLast := by
  rw [List.dropLast_eq_take, List.dropLast_eq_take, h.length]
  exact h.take _
theorem post_put {K : PySem.W.Frag} {mg : Str → Option Value} {c : Cfg} {j : Nat} {vs : List V} {ds : List D} {d : D} {v : V} {Q : VK} (P : Post K mg c (c.S.set j (.lst ds)) d Q) (k : Ok K mg c) (hj : j < c.S.length) (h : DenA K mg c vs ds) (q : Den K mg c v d) : Q v (upd c.H (c.π j) (.lst vs)) :=
  P v (c.put j (.lst vs) (.lst ds)) (put_le hj) (put_ok k hj ⟨_, upd_same, h.mono (put_le hj)⟩) rfl (q.mono (put_le hj))
section
variable {X : Cx} {e : Expr} {f g : EvF}
theorem ty_lst {K : PySem.W.Frag} {H : Hp} {a : Addr} {xs : List V} (h : H a = some (.lst xs)) : tyV K "list" (.ref a) H := .inl ⟨rfl, xs, .inl (.inl h)⟩
theorem one_arg {g : EvF} {ρ : En} {S : Sto} {y : D × Sto} (h : g ρ S = some y) : mCons g mNil ρ S = some ([y.1], y.2) := by
  unfold mCons mNil
  rw [h]
  rfl
theorem ty_ref {K : PySem.W.Frag} {mg : Str → Option Value} {c : Cfg} {j : Nat} {xs : List D} (k : Ok K mg c) (h : stLst c.S j = some xs) : tyV K "list" (.ref (c.π j)) c.H := by
  obtain ⟨vs, hv, _⟩ := k.at_ _ _ (stLst_eq h)
  exact ty_lst hv
theorem me_app (h : PE X e (tBM X.K "list" rAppend (tM X.K X.mg f) (tAs X.K X.mg (mCons g mNil)))) : ME X e (mApp f g) := pe_imp h <| by
  rintro σ H Q ⟨c, ρ, d, S', ⟨rfl, k, en⟩, q, p⟩
  obtain ⟨⟨x, S1⟩, h1, q2⟩ := bd q
  clear q
  refine ⟨c, ρ, x, S1, .of k en, h1, fun v c1 l1 k1 e1 D1 => ?_⟩
  cases x <;> try (cases q2)
  rename_i j
  obtain ⟨ys, h0, q2⟩ := bd (show (stLst S1 j).bind _ = some (d, S') from q2)
  obtain ⟨⟨y, S2⟩, h2, q2⟩ := bd q2
  obtain ⟨xs, h3, q3⟩ := bd q2
  by_cases z : xs.length < 100000
  · rw [if_pos z] at q3
    cases q3
    cases D1 with
    | ref hj =>
      refine ⟨ty_ref k1 (by rw [e1]; exact h0), c1, ρ, _, _, .of k1 (en.mono l1), by rw [e1]; exact one_arg h2, fun vs c2 l2 k2 e2 D2 => ?_⟩
      cases D2 with
      | cons a b =>
        cases b
        subst e2
        have hj2 : j < c2.S.length := lt_of_get (stLst_eq h3)
        obtain ⟨ws, hw, dw⟩ := k2.at_ _ _ (stLst_eq h3)
        refine ⟨_, ws, _, rfl, rfl, by rw [← l2.pi j hj]; exact hw, by rw [dw.length, sizeLine_eq]; omega, ?_⟩
        rw [← l2.pi j hj]
        exact post_put (p.mono (l1.trans l2)) k2 hj2 (dw.app (.cons a .nil)) .non
  · rw [if_neg z] at q3; cases q3
theorem me_pop (h : PE X e (tBM0 X.K "list" rPop (tM X.K X.mg f))) : ME X e (mPop f) := pe_imp h <| by
  rintro σ H Q ⟨c, ρ, d, S', ⟨rfl, k, en⟩, q, p⟩
  obtain ⟨⟨x, S1⟩, h1, q2⟩ := bd q
  clear q
  refine ⟨c, ρ, x, S1, .of k en, h1, fun v c1 l1 k1 e1 D1 => ?_⟩
  cases x <;> try (cases q2)
  rename_i j
  obtain ⟨xs, h0, q2⟩ := bd (show (stLst S1 j).bind _ = some (d, S') from q2)
  obtain ⟨y, h2, q2⟩ := mp q2
  cases q2
  cases D1 with
  | ref hj =>
    subst e1
    obtain ⟨ws, hw, dw⟩ := k1.at_ _ _ (stLst_eq h0)
    obtain ⟨u, hu, du⟩ := dw.get h2
    exact ⟨ty_ref k1 h0, _, ws, u, rfl, rfl, hw, by rw [dw.length]; exact hu, post_put (p.mono l1) k1 hj dw.dropLast du⟩
/-- list.extend by a list that is read -/
def rExtR : V → List V → Hp → VK → Prop := fun x vs H Q => ∃ l b xs zs, x = .ref l ∧ vs = [.ref b] ∧ H l = some (.lst xs) ∧ Rd H b (.lst zs) ∧ xs.length + zs.length ≤ sizeLine ∧ Q .non (upd H l (.lst (xs ++ zs)))
theorem mt_extR : MtM X "list.extend" rExtR := by
  intro pins s σ H x vs v us Q I rx rv h
  obtain ⟨l, b, xs, zs, rfl, rfl, hH, hB, hz, q⟩ := h
  cases rx
  obtain ⟨u, rfl, ru⟩ := rv.one
  cases ru
  obtain ⟨z, its, n, r, hl, e⟩ := I.lstM hH
  obtain ⟨z2, its2, n2, r2, e2⟩ := hB.ok I.hok
  have hl2 := r2.length
  have hsz : its.toArray.size + its2.toArray.size ≤ sizeLine := by rw [List.size_toArray, List.size_toArray]; omega
  have hlong : ¬ (!its.toArray.isEmpty && Builtin.List.listTooLong (its.toArray.size + its2.toArray.size)) = true := by
    rw [notLongL hsz, Bool.and_false]
    exact Bool.false_ne_true
  refine call_meets F.slot_list_extend ⟨_, e, rfl⟩ F.entry_list_extend (F.args_list_extend_2 _ _)
    (AutoSeq1.list_extend_list_list_0 l its.toArray n b its2.toArray n2 hlong (by rw [List.size_toArray]; omega) (by omega)) ⟨e, e2, ?_⟩
  refine ⟨.non, _, I.lset (its' := its ++ its2) hH e (by simp) (r.append r2) ?_, rfl, q⟩
  rw [List.length_append]
  omega
theorem me_ext (h : PE X e (tBM X.K "list" rExtR (tM X.K X.mg f) (tAs X.K X.mg (mCons g mNil)))) : ME X e (mExt f g) := pe_imp h <| by
  rintro σ H Q ⟨c, ρ, d, S', ⟨rfl, k, en⟩, q, p⟩
  obtain ⟨⟨x, S1⟩, h1, q2⟩ := bd q
  clear q
  refine ⟨c, ρ, x, S1, .of k en, h1, fun v c1 l1 k1 e1 D1 => ?_⟩
  cases x <;> try (cases q2)
  rename_i j
  obtain ⟨ys, h0, q2⟩ := bd (show (stLst S1 j).bind _ = some (d, S') from q2)
  obtain ⟨⟨y, S2⟩, h2, q2⟩ := bd q2
  cases y <;> try (cases q2)
  rename_i zs
  obtain ⟨xs, h3, q3⟩ := bd (show (stLst S2 j).bind _ = some (d, S') from q2)
  by_cases z : xs.length + zs.length < 100000
  · rw [if_pos z] at q3
    cases q3
    cases D1 with
    | ref hj =>
      refine ⟨ty_ref k1 (by rw [e1]; exact h0), c1, ρ, _, _, .of k1 (en.mono l1), by rw [e1]; exact one_arg h2, fun vs c2 l2 k2 e2 D2 => ?_⟩
      cases D2 with
      | cons a b =>
        cases b
        cases a with
        | lst s1 t1 =>
          subst e2
          have hj2 : j < c2.S.length := lt_of_get (stLst_eq h3)
          obtain ⟨ws, hw, dw⟩ := k2.at_ _ _ (stLst_eq h3)
          refine ⟨_, _, ws, _, rfl, rfl, by rw [← l2.pi j hj]; exact hw, s1.2, by rw [dw.length, t1.length, sizeLine_eq]; omega, ?_⟩
          rw [← l2.pi j hj]
          exact post_put (p.mono (l1.trans l2)) k2 hj2 (dw.app t1) .non
  · rw [if_neg z] at q3; cases q3
end

/-! ### a fresh list that will change; a list's truth; tuple of such a list -/
/-- list(x), a new thing of the store -/
def mNewC (op : CbF) (fa : EaF) : EvF := fun ρ S => (fa ρ S).bind fun x => (op x.2 x.1).bind fun z => match z with
  | .lst ds => some (.ref x.2.length, x.2 ++ [.lst ds])
  | _ => none
section
variable {X : Cx} {e : Expr} {f g : EvF} {fa : EaF}
theorem listD_inv {S : Sto} {ds zs : List D} (h : listD S ds = some (.lst zs)) : ds = [.lst zs] ∨ ds = [.tup zs] ∨ ds = [.seq zs] := by
  unfold listD at h
  split at h
  · cases h; exact .inl rfl
  · cases h; exact .inr (.inl rfl)
  · cases h; exact .inr (.inr rfl)
  · cases h
theorem me_listN (h : PE X e (tCB (fun xs H Q => ∃ a zs, xs = [.ref a] ∧ (SqL X.K H a zs ∨ SqT X.K H a zs) ∧ ∀ p, H p = none → Q (.ref p) (upd H p (.lst zs))) (tAs X.K X.mg fa))) : ME X e (mNewC listD fa) := pe_imp h <| by
  rintro σ H Q ⟨c, ρ, d, S', ⟨rfl, k, en⟩, q, p⟩
  obtain ⟨⟨ds, S1⟩, h1, q1⟩ := bd q
  obtain ⟨z, h2, q2⟩ := bd q1
  clear q q1
  obtain ⟨zs, rfl⟩ : ∃ zs, z = .lst zs := by
    cases z <;> first | exact ⟨_, rfl⟩ | cases q2
  cases q2
  refine ⟨c, ρ, ds, S1, .of k en, h1, fun vs c1 l1 k1 e1 D1 => ?_⟩
  subst e1
  have go : ∀ {ws : List V} {b : Addr}, DenA X.K X.mg c1 ws zs → (SqL X.K c1.H b ws ∨ SqT X.K c1.H b ws) → ∃ a us, [V.ref b] = [.ref a] ∧ (SqL X.K c1.H a us ∨ SqT X.K c1.H a us) ∧ ∀ p, c1.H p = none → Q (.ref p) (upd c1.H p (.lst us)) :=
    fun t s => ⟨_, _, rfl, s, fun a ha => post_new (ob := .lst _) (p.mono l1) k1 ha (upd_keep ha) ⟨_, upd_same, t.mono (new_le ha (upd_keep ha))⟩⟩
  rcases listD_inv h2 with rfl | rfl | rfl
  · obtain ⟨v, rfl, q1⟩ := da1 D1
    cases q1 with
    | lst s1 t1 => exact go t1 (.inl s1.get)
  · obtain ⟨v, rfl, q1⟩ := da1 D1
    cases q1 with
    | tup s1 t1 => exact go t1 (.inr s1.get)
  · obtain ⟨v, rfl, q1⟩ := da1 D1
    cases q1 with
    | seq s1 t1 => exact go t1 (.inl s1.get)
/-- the truth of a list, a tuple, a text, None -/
def truD (S : Sto) : D → Option Bool
  | .bl b => some b
  | .non => some false
  | .lst ds => some (!ds.isEmpty)
  | .tup ds => some (!ds.isEmpty)
  | .str x => if x.length ≤ 1000000 then some ((x.length : Int) != 0) else none
  | .int i => some (i != 0)
  | .ref j => (stLst S j).map fun xs => !xs.isEmpty
  | _ => none
def mTr (f : EvF) : EtF := fun ρ S => (f ρ S).bind fun x => (truD x.2 x.1).map fun b => (b, x.2)
theorem mt_tru (h : ME X e f) (he : ∀ whole, isTrue e X.env whole = (do let v ← whole; standAt e.pos; holding [v] (truthy v)) := by intro _; rfl) : MT X e (mTr f) := pt_imp (pt_truth h he) <| by
  rintro σ H Q ⟨c, ρ, d, S', ⟨rfl, k, en⟩, q, p⟩
  obtain ⟨⟨x, S1⟩, h1, q1⟩ := bd q
  obtain ⟨b, h2, q2⟩ := mp q1
  clear q q1
  obtain ⟨rfl, rfl⟩ : d = b ∧ S' = S1 := by cases q2; exact ⟨rfl, rfl⟩
  clear q2
  refine ⟨c, ρ, x, S', .of k en, h1, fun v c1 l1 k1 e1 D1 => ⟨d, ?_, p c1 l1 k1 e1⟩⟩
  cases x <;> try (cases h2)
  · cases D1; rfl
  · cases D1; rfl
  · cases D1; rfl
  · rename_i x
    have h2' : (if x.length ≤ 1000000 then some ((x.length : Int) != 0) else none) = some d := h2
    by_cases z : x.length ≤ 1000000
    · rw [if_pos z] at h2'
      cases h2'
      cases D1
      exact ⟨Nat.le_trans z (by decide), rfl⟩
    · rw [if_neg z] at h2'; cases h2'
  · cases D1 with
    | lst s t => exact .inl ⟨_, s.get, by have := t.length; cases t <;> rfl⟩
  · cases D1 with
    | tup s t => exact .inr (.inl ⟨_, s.get, by cases t <;> rfl⟩)
  · rename_i j
    cases D1 with
    | ref hj =>
      subst e1
      obtain ⟨xs, h3, h4⟩ := mp (show (stLst c1.S j).map _ = some d from h2)
      obtain ⟨ws, hw, dw⟩ := k1.at_ _ _ (stLst_eq h3)
      subst h4
      exact .inl ⟨ws, .inl (.inl hw), by cases dw <;> rfl⟩
/-- tuple(x), x a list of the store too -/
def tupR : CbF := fun S ds => match ds with
  | [.ref j] => (stLst S j).map .tup
  | ds => tupD S ds
theorem cd_tupR : CallD X (.type "tuple") tupR := by
  rintro pins s σ H xs us Q I r ⟨c, ds, z, rfl, k, D1, e, P⟩
  unfold tupR at e
  split at e
  · obtain ⟨v, rfl, q⟩ := da1 D1
    obtain ⟨zs, h1, rfl⟩ := mp e
    cases q with
    | ref hj =>
      obtain ⟨ws, hw, dw⟩ := k.at_ _ _ (stLst_eq h1)
      exact call_tuple_of pins s σ _ _ us Q I r ⟨_, _, rfl, .inl ⟨.inl (.inl hw), post_tup P k dw⟩⟩
  · exact cd_tup pins s σ _ _ us Q I r ⟨c, _, z, rfl, k, D1, e, P⟩
end
end M

namespace M
open PySem PySem.Spec L2 W2 RZ

/-! ### methods of texts -/
/-- one text in, a text out -/
def mS1 (g : Str → Str → Str) (f h : EvF) : EvF := fun ρ S => (f ρ S).bind fun x => match x.1 with
  | .str a => (h ρ x.2).bind fun y => match y.1 with
    | .str b => if a.length ≤ 1000000 then some (.str (g a b), y.2) else none
    | _ => none
  | _ => none
abbrev rS1 (g : Str → Str → Str) : V → List V → Hp → VK → Prop := fun x xs H Q => ∃ a b, x = .str a ∧ xs = [.str b] ∧ a.length ≤ sizeLine ∧ Q (.str (g a b)) H
section
variable {X : Cx} {e : Expr} {f h : EvF}
theorem me_s1 {g : Str → Str → Str} (he : PE X e (tBM X.K "str" (rS1 g) (tM X.K X.mg f) (tAs X.K X.mg (mCons h mNil)))) : ME X e (mS1 g f h) := pe_imp he <| by
  rintro σ H Q ⟨c, ρ, d, S', ⟨rfl, k, en⟩, q, p⟩
  obtain ⟨⟨x, S1⟩, h1, q2⟩ := bd q
  clear q
  refine ⟨c, ρ, x, S1, .of k en, h1, fun v c1 l1 k1 e1 D1 => ?_⟩
  cases x <;> try (cases q2)
  rename_i a
  obtain ⟨⟨y, S2⟩, h2, q2⟩ := bd (show (h ρ S1).bind _ = some (d, S') from q2)
  cases y <;> try (cases q2)
  rename_i b
  have q3 : (if a.length ≤ 1000000 then some (D.str (g a b), S2) else none) = some (d, S') := q2
  by_cases z : a.length ≤ 1000000
  · rw [if_pos z] at q3
    cases q3
    cases D1
    refine ⟨rfl, c1, ρ, _, _, .of k1 (en.mono l1), by rw [e1]; exact one_arg h2, fun vs c2 l2 k2 e2 D2 => ?_⟩
    obtain ⟨w, rfl, dw⟩ := da1 D2
    cases dw
    exact ⟨a, b, rfl, rfl, Nat.le_trans z (by decide), p _ c2 (l1.trans l2) k2 e2 (.str _)⟩
  · rw [if_neg z] at q3; cases q3
def strD : CbF := fun _ ds => match ds with
  | [.int i] => if i.natAbs.log2 < 1920 then some (.str (Str.ofString (toString i))) else none
  | _ => none
theorem cd_str : CallD X (.type "str") strD := by
  rintro pins s σ H xs us Q I r ⟨c, ds, z, rfl, k, D1, e, P⟩
  unfold strD at e
  split at e
  · rename_i i
    split at e
    · rename_i hl
      obtain ⟨v, rfl, q⟩ := da1 D1
      cases q
      cases e
      exact call_str_int pins s σ _ _ us Q I r ⟨i, rfl, hl, P.here k (.str _)⟩
    · cases e
  · cases e
/-- int of a text -/
def intS : CbF := fun _ ds => match ds with
  | [.str a] => if a.length ≤ 640 then (PySem.intText? a).map .int else none
  | _ => none
theorem cd_intS : CallD X (.type "int") intS := by
  rintro pins s σ H xs us Q I r ⟨c, ds, z, rfl, k, D1, e, P⟩
  unfold intS at e
  split at e
  · rename_i a
    split at e
    · rename_i hl
      obtain ⟨v, rfl, q⟩ := da1 D1
      cases q
      obtain ⟨n, h1, rfl⟩ := mp e
      exact call_int_str pins s σ _ _ us Q I r ⟨a, n, rfl, h1, hl, P.here k (.int _)⟩
    · cases e
  · cases e
end

/-! ### replace: a token must be out -/
abbrev MET (X : Cx) (e : Expr) (f : EvF) : Prop := PET X e (tM X.K X.mg f)
abbrev MAT (X : Cx) (es : List Expr) (f : EaF) : Prop := PAT X es (tAs X.K X.mg f)
abbrev MSsT (X : Cx) (st : List Stmt) (g : StF) : Prop := PSsT X st (tS X.K X.mg g)
def mRepl (y z : Str) (f : EvF) : EvF := fun ρ S => (f ρ S).bind fun x => match x.1 with
  | .str a => if a.length + (a.length + 1) * z.length ≤ 16777216 then some (.str (Txt.replace a y z), x.2) else none
  | _ => none
section
variable {X : Cx} {e : Expr} {f h : EvF} {y z : Str} {j k : Nat} {c0 c1 apos pos : Pos}
theorem repl_go {σ : L2.St} {H : Hp} {Q : VK} (q : tM X.K X.mg (mRepl y z f) σ H Q) : CwR.tReplC (tM X.K X.mg f) y z σ H Q := by
  obtain ⟨c, ρ, d, S', ⟨rfl, k, en⟩, q, p⟩ := q
  obtain ⟨⟨x, S1⟩, h1, q2⟩ := bd q
  clear q
  refine ⟨c, ρ, x, S1, .of k en, h1, fun v c1 l1 k1 e1 D1 => ?_⟩
  cases x <;> try (cases q2)
  rename_i a
  have q3 : (if a.length + (a.length + 1) * z.length ≤ 16777216 then some (D.str (Txt.replace a y z), S1) else none) = some (d, S') := q2
  by_cases w : a.length + (a.length + 1) * z.length ≤ 16777216
  · rw [if_pos w] at q3
    cases q3
    cases D1
    exact ⟨a, rfl, w, p _ c1 l1 k1 e1 (.str _)⟩
  · rw [if_neg w] at q3; cases q3
theorem met_imp {t t' : TE} (h : PET X e t) (w : ∀ σ H Q, t' σ H Q → t σ H Q) : PET X e t' := fun pins s σ H Q h0 I q => h pins s σ H Q h0 I (w σ H Q q)
theorem met_repl (ho : MET X e f) (hyz : (y == z) = false := by decide)
    (hst : starEach [.Constant (.str y) j c0, .Constant (.str z) k c1] X.env = [(false, eval (.Constant (.str y) j c0) X.env), (false, eval (.Constant (.str z) k c1) X.env)] := by rfl)
    (hbase : attributeBase e "replace" X.env (eval e X.env) = eval e X.env := by rfl) (hline : (apos.endLine == pos.line) = true := by rfl) :
    MET X (.Call (.Attribute e "replace" apos) [.Constant (.str y) j c0, .Constant (.str z) k c1] [] pos) (mRepl y z f) := met_imp (CwR.pet_replT ho hyz hst hbase hline) fun _ _ _ => repl_go
theorem met_of (h : ME X e f) : MET X e f := CwR.PET.of h
/-- "x" + e -/
theorem me_binC {q : Str} {e : Expr} (h : MET X e f) : ME X (.BinOp (.Constant (.str q) j c0) .Add e pos) (mBin addD (mC (.str q)) f) := by
  refine pe_imp (t := tOp (r2 X.K X.mg addD) (tM X.K X.mg (mC (.str q))) (tM X.K X.mg f)) ⟨fun pins s σ H Q I hq => ?_⟩ fun _ _ _ => op_go
  refine wpAny_BinOp (wpAny_mono (PySem.wpAny_toks (?c : wpAny (model X.prog X.w) X.A (eval (.Constant (.str q) j c0) X.env) (fun v s' => s.toks + 1 ≤ s'.toks ∧ EP X pins σ (fun x H1 => (tM X.K X.mg f) σ H1 fun y H2 => (r2 X.K X.mg addD) x y H2 Q) v s') X.xe s)) (fun v s1 q => ?_) fun _ _ z => z.2)
  case c =>
    obtain ⟨c, ρ, d, S', ⟨rfl, k, en⟩, q2, p⟩ := hq
    cases q2
    exact Calls.Constant_str ⟨Nat.le_refl _, .str q, c.H, I.tok _, ⟨_, rfl⟩, p.here k (.str q)⟩
  · obtain ⟨_, hk, x, H1, I1, r1, q1⟩ := q
    exact thn (h pins s1 σ H1 _ (by omega) I1 q1) fun u s2 ⟨y, H2, I2, r2, q2⟩ => od_add pins s2 σ H2 x y v u Q I2 r1 r2 q2
theorem mat_nil : MAT X [] mNil := fun pos pins s σ H Q _ I h => (ma_nil (X := X)).run pos pins s σ H Q I h
theorem mat_cons {es : List Expr} {fa : EaF} (ha : MET X e f) (hr : MAT X es fa) (hs : starEach (e :: es) X.env = (false, eval e X.env) :: starEach es X.env := by rfl) : MAT X (e :: es) (mCons f fa) := by
  have a := pat_cons ha hr hs
  intro pos pins s σ H Q h0 I h
  refine a pos pins s σ H Q h0 I ?_
  obtain ⟨c, ρ, d, S', ⟨rfl, k, en⟩, q, p⟩ := h
  obtain ⟨⟨x, S1⟩, h1, q⟩ := bd q
  obtain ⟨y, h2, q⟩ := mp q
  cases q
  refine ⟨c, ρ, x, S1, .of k en, h1, fun v c1 l1 k1 e1 D1 => ?_⟩
  refine ⟨c1, ρ, y.1, y.2, .of k1 (en.mono l1), by rw [e1]; exact h2, fun vs c2 l2 k2 e2 D2 => ?_⟩
  exact p _ c2 (l1.trans l2) k2 e2 (.cons (D1.mono l2) D2)
theorem met_lst {es : List Expr} {fa : EaF} (h : MAT X es fa) : MET X (.List es pos) (mLst fa) := met_imp (pet_lst h) <| by
  rintro σ H Q ⟨c, ρ, d, S', ⟨rfl, k, en⟩, q, p⟩
  obtain ⟨⟨x, S1⟩, h1, q⟩ := bd q
  by_cases z : x.length ≤ 100000
  · rw [if_pos z] at q
    cases q
    refine ⟨c, ρ, x, S1, .of k en, h1, fun vs c1 l1 k1 e1 D1 => ⟨by rw [D1.length]; exact sz5 z, ?_⟩⟩
    exact post_lst (by rw [e1]; exact p.mono l1) k1 D1
  · rw [if_neg z] at q
    cases q
theorem msst_ret (h : MET X e f) : MSsT X [.Return (some e) pos] (mRet f) := by
  have a := CwR.psst_one (CwR.pst_ret h (pos := pos))
  intro pins s σ H D h0 I hq
  refine a pins s σ H D h0 I ?_
  obtain ⟨c, ρ, o, S', ⟨rfl, k, en⟩, q, p⟩ := hq
  obtain ⟨x, h1, q⟩ := mp q
  cases q
  exact ⟨c, ρ, x.1, x.2, .of k en, h1, fun v c1 l1 k1 e1 D1 => p c1 l1 k1 e1 v D1⟩
/-- if e == "x": a token is out in both ways -/
theorem ms_ifC {a : Expr} {fa : EvF} {g h : StF} {op : D → D → Option D} {o : CmpOp} {q : Str} {cp cpos ipos : Pos} {body orelse : List Stmt} (ho : OpD X (compareOp o) op) (ha : ME X a fa) (hm : behindInMarks o (.Constant (.str q) j cp) = false) (hb : MSsT X body g) (he : MSs X orelse h) :
    MS X (.If (.Compare a [o] [.Constant (.str q) j cp] cpos) body orelse ipos) (mIfS (mTv (mBin op fa (mC (.str q)))) g h) := by
  constructor
  rintro pins s σ H D I ⟨c, ρ, ou, S', ⟨rfl, k, en⟩, hq, p⟩
  obtain ⟨⟨b, S1⟩, h1, hq⟩ := bd hq
  obtain ⟨⟨w, S2⟩, h2, h3⟩ := bd h1
  obtain ⟨x, g1, g2⟩ := bd h2
  obtain ⟨y, g3, g4⟩ := bd g2
  obtain ⟨z, g5, g6⟩ := mp g4
  cases g3
  cases g6
  have h3' : w = .bl b ∧ x.2 = S1 := by
    cases w <;> try (cases h3)
    exact ⟨rfl, rfl⟩
  obtain ⟨rfl, rfl⟩ := h3'
  refine wpAny_If (wpAny_isTrue_Compare1 (thn (ha.run pins s σ c.H (fun v H1 => ∃ c1, c1.H = H1 ∧ Le c c1 ∧ Ok X.K X.mg c1 ∧ c1.S = x.2 ∧ Den X.K X.mg c1 v x.1) I ⟨c, ρ, x.1, x.2, .of k en, g1, fun v c1 l1 k1 e1 D1 => ⟨c1, rfl, l1, k1, e1, D1⟩⟩) fun v s1 hx => ?_) hm)
  obtain ⟨xv, H1, I1, r1, c1, rfl, l1, k1, e1, D1⟩ := hx
  refine Calls.Constant_str (wpAny_mono (PySem.wpAny_toks (ho pins { s1 with toks := s1.toks + 1 } σ c1.H xv (.str q) v (.str q s1.toks) (fun v H2 => ∃ c2, c2.H = H2 ∧ Le c1 c2 ∧ Ok X.K X.mg c2 ∧ c2.S = x.2 ∧ v = .bl b) (I1.tok _) r1 ⟨_, rfl⟩ ⟨c1, x.1, .str q, .bl b, rfl, k1, D1, .str q, g5, fun v c2 l2 k2 e2 D2 => ⟨c2, rfl, l2, k2, e2.trans e1, by cases D2; rfl⟩⟩)) (fun u s2 hz => ?_) fun _ _ z => z.2)
  obtain ⟨hk, _, H2, I2, r2, c2, rfl, l2, k2, e2, rfl⟩ := hz
  cases r2
  have hk' : 1 ≤ s2.toks := by
    have : s1.toks + 1 ≤ s2.toks := hk
    omega
  refine wpAny_truthy_bool ?_
  cases b with
  | true => exact hb pins s2 σ c2.H D hk' I2 ⟨c2, ρ, ou, S', .of k2 (en.mono (l1.trans l2)), by rw [e2]; exact hq, fun c3 l3 => p c3 ((l1.trans l2).trans l3)⟩
  | false => exact he.run pins s2 σ c2.H D I2 ⟨c2, ρ, ou, S', .of k2 (en.mono (l1.trans l2)), by rw [e2]; exact hq, fun c3 l3 => p c3 ((l1.trans l2).trans l3)⟩
end
end M

namespace M
open PySem PySem.Spec L2 W2 RZ

/-! ### x in a list, a tuple -/
def memD (ds : List D) : D → Option Bool
  | .str x => (strsOf ds).map fun ys => decide (x ∈ ys)
  | .int i => (intsOf ds).map fun ns => decide (i ∈ ns)
  | _ => none
def seqOf : D → Option (List D)
  | .lst ds => some ds
  | .tup ds => some ds
  | _ => none
def inQ (a b : D) : Option D := (seqOf b).bind fun ds => (memD ds a).map .bl
def ninQ (a b : D) : Option D := (seqOf b).bind fun ds => (memD ds a).map fun x => .bl (!x)
theorem inV_str {x : Str} : ∀ ys : List Str, inV (.str x) (ys.map V.str) = decide (x ∈ ys)
  | [] => rfl
  | y :: ys => by
    have ih := inV_str (x := x) ys
    show (eqV (.str y) (.str x) || inV (.str x) (ys.map V.str)) = _
    rw [ih]
    by_cases h : x = y
    · subst h; simp [eqV]
    · have : (y == x) = false := by simpa using fun e => h e.symm
      simp [eqV, this, h]
theorem inV_int {x : Int} : ∀ ys : List Int, inV (.int x) (ys.map V.int) = decide (x ∈ ys)
  | [] => rfl
  | y :: ys => by
    have ih := inV_int (x := x) ys
    show (eqV (.int y) (.int x) || inV (.int x) (ys.map V.int)) = _
    rw [ih]
    by_cases h : x = y
    · subst h; simp [eqV]
    · have : (y == x) = false := by simpa using fun e => h e.symm
      simp [eqV, this, h]
theorem flat_str (ys : List Str) : (ys.map V.str).all flatV = true := by
  rw [List.all_eq_true]; intro v hv; obtain ⟨y, _, rfl⟩ := List.mem_map.mp hv; rfl
theorem flat_int (ys : List Int) : (ys.map V.int).all flatV = true := by
  rw [List.all_eq_true]; intro v hv; obtain ⟨y, _, rfl⟩ := List.mem_map.mp hv; rfl
theorem mem_go {K : PySem.W.Frag} {mg : Str → Option Value} {c : Cfg} {x : V} {a : D} {vs : List V} {ds : List D} {b : Bool} (Da : Den K mg c x a) (t : DenA K mg c vs ds) (e : memD ds a = some b) : flatV x = true ∧ vs.all flatV = true ∧ inV x vs = b := by
  cases a <;> try (cases e)
  · obtain ⟨ns, h1, rfl⟩ := mp (show (intsOf ds).map _ = some b from e)
    cases Da
    rw [den_ints t h1]
    exact ⟨rfl, flat_int ns, inV_int ns⟩
  · obtain ⟨ns, h1, rfl⟩ := mp (show (strsOf ds).map _ = some b from e)
    cases Da
    rw [den_strs t h1]
    exact ⟨rfl, flat_str ns, inV_str ns⟩
section
variable {X : Cx}
theorem seq_go {K : PySem.W.Frag} {mg : Str → Option Value} {c : Cfg} {y : V} {b : D} {ds : List D} (Db : Den K mg c y b) (h : seqOf b = some ds) : ∃ p vs, y = .ref p ∧ (SqL K c.H p vs ∨ SqT K c.H p vs) ∧ DenA K mg c vs ds := by
  cases b <;> try (cases h)
  · cases Db with
    | lst s t => exact ⟨_, _, rfl, .inl s.get, t⟩
  · cases Db with
    | tup s t => exact ⟨_, _, rfl, .inr s.get, t⟩
theorem od_inQ : OpD X (compareOp .In) inQ := by
  rintro pins s σ H x y v u Q I rx ry ⟨c, a, b, z, rfl, k, Da, Db, e, P⟩
  obtain ⟨ds, h1, e⟩ := bd e
  obtain ⟨r, h2, rfl⟩ := mp e
  obtain ⟨p, vs, rfl, hs, t⟩ := seq_go Db h1
  obtain ⟨f1, f2, f3⟩ := mem_go Da t h2
  exact op_in_seq pins s σ _ _ _ v u Q I rx ry ⟨p, vs, rfl, hs, f1, f2, by rw [if_neg (by decide), f3]; exact P.here k (.bl _)⟩
theorem od_ninQ : OpD X (compareOp .NotIn) ninQ := by
  rintro pins s σ H x y v u Q I rx ry ⟨c, a, b, z, rfl, k, Da, Db, e, P⟩
  obtain ⟨ds, h1, e⟩ := bd e
  obtain ⟨r, h2, rfl⟩ := mp e
  obtain ⟨p, vs, rfl, hs, t⟩ := seq_go Db h1
  obtain ⟨f1, f2, f3⟩ := mem_go Da t h2
  exact op_notIn_seq pins s σ _ _ _ v u Q I rx ry ⟨p, vs, rfl, hs, f1, f2, by rw [if_pos rfl, f3]; exact P.here k (.bl _)⟩
end

/-! ### a list as a target -/
def gL (is : List Nat) : TgF := fun ρ d => match d with
  | .lst ds => setAll is ds ρ
  | _ => none
theorem mg_lst {X : Cx} {pos : Pos} {es : List Expr} {n : Nat} {is : List Nat} (hl : PG X (.Tuple es n pos) (gLst X.K is.length (gsA is))) : MG X (.Tuple es n pos) (gL is) := pg_imp hl <| by
  rintro v σ H Q ⟨c, ρ, d, ρ', ⟨rfl, k, en⟩, D1, q, p⟩
  cases d <;> try (cases q)
  cases D1 with
  | lst s t =>
    have q' : setAll is _ ρ = some ρ' := q
    have l := setAll_len q'
    exact ⟨_, _, rfl, s.get, t.length.trans l, t.length.trans l, p _ (setAll_en en t q')⟩
/-- a + b of lists, a new thing of the store -/
def mAddN (f g : EvF) : EvF := fun ρ S => (f ρ S).bind fun x => (g ρ x.2).bind fun y => match x.1, y.1 with
  | .lst a, .lst b => if a.length + b.length ≤ 100000 then some (.ref y.2.length, y.2 ++ [.lst (a ++ b)]) else none
  | _, _ => none
theorem me_addN {X : Cx} {a b : Expr} {f g : EvF} {pos : Pos} (ha : ME X a f) (hb : ME X b g) : ME X (.BinOp a .Add b pos) (mAddN f g) := by
  have ho : OpR X (binaryOp .Add) (fun x y H Q => ∃ (p q : Addr) (xs ys : List V), x = .ref p ∧ y = .ref q ∧ Rd H p (.lst xs) ∧ Rd H q (.lst ys) ∧ xs.length + ys.length ≤ sizeLine ∧ ∀ a, H a = none → Q (.ref a) (upd H a (.lst (xs ++ ys)))) := by
    rintro pins s σ H x y v u Q I rx ry ⟨p, q, xs, ys, rfl, rfl, h1, h2, hz, P⟩
    obtain ⟨z1, its, n, r, g1⟩ := h1.ok I.hok
    obtain ⟨z2, its2, n2, r2, g2⟩ := h2.ok I.hok
    cases rx
    cases ry
    have q1 := r.length
    have q2 := r2.length
    refine PySem.P.add_list g1 g2 ?_ (by rw [List.size_toArray, List.size_toArray]; omega)
    rw [show its.toArray ++ its2.toArray = (its ++ its2).toArray by simp]
    exact ⟨.ref _, _, I.lnew (t' := s.toks) (r.append r2) (by rw [List.length_append]; omega), rfl, P _ I.fresh⟩
  refine pe_imp (pe_op ho ha hb) ?_
  rintro σ H Q ⟨c, ρ, d, S', ⟨rfl, k, en⟩, q, p⟩
  obtain ⟨⟨x, S1⟩, h1, q1⟩ := bd q
  obtain ⟨⟨y, S2⟩, h2, q2⟩ := bd q1
  clear q q1
  refine ⟨c, ρ, x, S1, .of k en, h1, fun v c1 l1 k1 e1 D1 => ⟨c1, ρ, y, S2, .of k1 (en.mono l1), by rw [e1]; exact h2, fun w c2 l2 k2 e2 D2 => ?_⟩⟩
  cases x <;> try (cases q2)
  cases y <;> try (cases q2)
  rename_i xs ys
  have q3 : (if xs.length + ys.length ≤ 100000 then some (D.ref S2.length, S2 ++ [Ob.lst (xs ++ ys)]) else none) = some (d, S') := q2
  by_cases z : xs.length + ys.length ≤ 100000
  · rw [if_pos z] at q3
    cases q3
    subst e2
    cases D1.mono l2 with
    | lst s1 t1 =>
      cases D2 with
      | lst s2 t2 =>
        exact ⟨_, _, _, _, rfl, rfl, s1.2, s2.2, by rw [t1.length, t2.length]; exact sz5 z, fun a ha => post_new (ob := .lst _) (p.mono (l1.trans l2)) k2 ha (upd_keep ha) ⟨_, upd_same, (t1.app t2).mono (new_le ha (upd_keep ha))⟩⟩
  · rw [if_neg z] at q3; cases q3

/-! ### dicts with keys that are ints and texts -/
section
variable {α : Type}
def gv (kvs : List (Key × α)) (k : Key) : Option α := (kvs.find? fun kv => decide (kv.1 = k)).map (·.2)
def gput (kvs : List (Key × α)) (k : Key) (v : α) : List (Key × α) :=
  if (kvs.any fun kv => decide (kv.1 = k)) = true then kvs.map (fun kv => if kv.1 = k then (kv.1, v) else kv) else kvs ++ [(k, v)]
def gmerge (kvs more : List (Key × α)) : List (Key × α) := more.foldl (fun acc kv => gput acc kv.1 kv.2) kvs
end
def keyOf : D → Option Key
  | .int i => some (.inl i)
  | .str x => some (.inr x)
  | _ => none
def dctOf (S : Sto) : D → Option (List (Key × D))
  | .dct kvs => some kvs
  | .ref j => match S[j]? with
    | some (.dct kvs) => some kvs
    | _ => none
  | _ => none
section
variable {K : PySem.W.Frag} {mg : Str → Option Value} {c : Cfg}
theorem den_gv {k : Key} : ∀ {ds : List (Key × D)} {vs : List (Key × V)}, DenK K mg c vs ds → match gv ds k with
    | some d => ∃ v, valV vs k = some v ∧ Den K mg c v d
    | none => valV vs k = none
  | [], _, h => by cases h; rfl
  | (j, d) :: ds, _, h => by
    cases h with
    | @cons _ v vs _ _ a b =>
      have ih := den_gv (k := k) b
      by_cases e : j = k
      · have h1 : gv ((j, d) :: ds) k = some d := by simp [gv, List.find?_cons, e]
        have h2 : valV ((j, v) :: vs) k = some v := by simp [valV, List.find?_cons, e]
        rw [h1]
        exact ⟨v, h2, a⟩
      · have h1 : gv ((j, d) :: ds) k = gv ds k := by simp [gv, List.find?_cons, e]
        have h2 : valV ((j, v) :: vs) k = valV vs k := by simp [valV, List.find?_cons, e]
        rw [h1, h2]
        exact ih
theorem denK_app : ∀ {ds es : List (Key × D)} {vs ws : List (Key × V)}, DenK K mg c vs ds → DenK K mg c ws es → DenK K mg c (vs ++ ws) (ds ++ es)
  | [], _, _, _, h, q => by cases h; exact q
  | _ :: _, _, _, _, h, q => by
    cases h with
    | cons a b => exact .cons a (denK_app b q)
theorem denK_any {k : Key} : ∀ {ds : List (Key × D)} {vs : List (Key × V)}, DenK K mg c vs ds → (vs.any fun kv => decide (kv.1 = k)) = ds.any fun kv => decide (kv.1 = k)
  | [], _, h => by cases h; rfl
  | _ :: _, _, h => by
    cases h with
    | cons a b => rw [List.any_cons, List.any_cons, denK_any b]
theorem denK_map {k : Key} {v : V} {d : D} (q : Den K mg c v d) : ∀ {ds : List (Key × D)} {vs : List (Key × V)}, DenK K mg c vs ds → DenK K mg c (vs.map fun kv => if kv.1 = k then (kv.1, v) else kv) (ds.map fun kv => if kv.1 = k then (kv.1, d) else kv)
  | [], _, h => by cases h; exact .nil
  | (j, _) :: _, _, h => by
    cases h with
    | cons a b =>
      rw [List.map_cons, List.map_cons]
      by_cases e : j = k
      · rw [if_pos e, if_pos e]; exact .cons q (denK_map q b)
      · rw [if_neg e, if_neg e]; exact .cons a (denK_map q b)
theorem denK_put {k : Key} {v : V} {d : D} {ds : List (Key × D)} {vs : List (Key × V)} (h : DenK K mg c vs ds) (q : Den K mg c v d) : DenK K mg c (putK vs k v) (gput ds k d) := by
  unfold putK gput
  rw [denK_any h]
  split
  · exact denK_map q h
  · exact denK_app h (.cons q .nil)
theorem denK_merge : ∀ {es ds : List (Key × D)} {ws vs : List (Key × V)}, DenK K mg c ws es → DenK K mg c vs ds → DenK K mg c (mergeK vs ws) (gmerge ds es)
  | [], _, _, _, h, q => by cases h; exact q
  | _ :: _, _, _, _, h, q => by
    cases h with
    | @cons kk _ _ _ _ a b =>
      have z := denK_merge b (denK_put (k := kk) q a)
      exact z
theorem dct_go (k : Ok K mg c) {x : V} {a : D} {kvs : List (Key × D)} (Da : Den K mg c x a) (h : dctOf c.S a = some kvs) : ∃ p vs, x = .ref p ∧ c.H p = some (.dK vs) ∧ DenK K mg c vs kvs := by
  cases a <;> try (cases h)
  · cases Da with
    | dct n s t => exact ⟨_, _, rfl, s, t⟩
  · rename_i j
    have h' : (match c.S[j]? with | some (.dct kvs) => some kvs | _ => none) = some kvs := h
    split at h'
    · rename_i hS
      cases h'
      obtain ⟨vs, hv, t⟩ := k.at_ _ _ hS
      cases Da with
      | ref hj => exact ⟨_, _, rfl, hv, t⟩
    · cases h'
theorem key_go {y : V} {b : D} {k : Key} (Db : Den K mg c y b) (h : keyOf b = some k) : y = kV k := by
  cases b <;> cases h <;> cases Db <;> rfl
end
def mDGet (f g : EvF) : EvF := fun ρ S => (f ρ S).bind fun x => (g ρ x.2).bind fun y => (dctOf y.2 x.1).bind fun kvs => (keyOf y.1).bind fun k => (gv kvs k).map fun d => (d, y.2)
def mDIn (g f : EvF) : EvF := fun ρ S => (g ρ S).bind fun y => (f ρ y.2).bind fun x => (dctOf x.2 x.1).bind fun kvs => (keyOf y.1).map fun k => (.bl (gv kvs k).isSome, x.2)
def mDGet2 (f g h : EvF) : EvF := fun ρ S => (f ρ S).bind fun x => (dctOf x.2 x.1).bind fun _ => (g ρ x.2).bind fun y => (h ρ y.2).bind fun z => (dctOf z.2 x.1).bind fun kvs => (keyOf y.1).map fun k => ((gv kvs k).getD z.1, z.2)
section
variable {X : Cx} {e : Expr} {f g h : EvF}
theorem me_dget (he : PE X e (tDGet (tM X.K X.mg f) (tM X.K X.mg g))) : ME X e (mDGet f g) := pe_imp he <| by
  rintro σ H Q ⟨c, ρ, d, S', ⟨rfl, k, en⟩, q, p⟩
  obtain ⟨⟨x, S1⟩, h1, q⟩ := bd q
  obtain ⟨⟨y, S2⟩, h2, q⟩ := bd q
  obtain ⟨kvs, h3, q⟩ := bd q
  obtain ⟨kk, h4, q⟩ := bd q
  obtain ⟨w, h5, q⟩ := mp q
  cases q
  refine ⟨c, ρ, x, S1, .of k en, h1, fun v c1 l1 k1 e1 D1 => ⟨c1, ρ, y, S2, .of k1 (en.mono l1), by rw [e1]; exact h2, fun u c2 l2 k2 e2 D2 => ?_⟩⟩
  subst e2
  obtain ⟨pp, vs, rfl, hv, t⟩ := dct_go k2 (D1.mono l2) h3
  have a := den_gv (k := kk) t
  rw [h5] at a
  obtain ⟨wv, g1, g2⟩ := a
  have ky := key_go D2 h4
  subst ky
  exact ⟨pp, wv, rfl, by rw [← g1]; exact .k hv, p.mono (l1.trans l2) |>.here k2 g2⟩
theorem me_din {pos : Pos} {ek ed : Expr} (hr : X.A.units + 1 < cLine) (hk : ME X ek g) (hd : ME X ed f) (hm : behindInMarks .In ed = false := by rfl) : ME X (.Compare ek [.In] [ed] pos) (mDIn g f) := by
  have go : ∀ σ H Q, tM X.K X.mg (mDIn g f) σ H Q → tDIn (tM X.K X.mg g) (tM X.K X.mg f) σ H Q := by
    rintro σ H Q ⟨c, ρ, d, S', ⟨rfl, k, en⟩, q, p⟩
    obtain ⟨⟨y, S1⟩, h1, q⟩ := bd q
    obtain ⟨⟨x, S2⟩, h2, q⟩ := bd q
    obtain ⟨kvs, h3, q⟩ := bd q
    obtain ⟨kk, h4, q⟩ := mp q
    cases q
    refine ⟨c, ρ, y, S1, .of k en, h1, fun v c1 l1 k1 e1 D1 => ⟨c1, ρ, x, S2, .of k1 (en.mono l1), by rw [e1]; exact h2, fun u c2 l2 k2 e2 D2 => ?_⟩⟩
    subst e2
    obtain ⟨pp, vs, rfl, hv, t⟩ := dct_go k2 D2 h3
    have a := den_gv (k := kk) t
    have ky := key_go D1 h4
    subst ky
    refine ⟨pp, valV vs kk, rfl, .k hv, ?_⟩
    have : (valV vs kk).isSome = (gv kvs kk).isSome := by
      cases eg : gv kvs kk with
      | none => rw [eg] at a; rw [a]; rfl
      | some w => rw [eg] at a; obtain ⟨wv, g1, _⟩ := a; rw [g1]; rfl
    rw [this]
    exact p.mono (l1.trans l2) |>.here k2 (.bl _)
  refine pe_imp ⟨fun pins s σ H Q I hq => ?_⟩ go
  exact wpAny_Compare1 ((pc_din hr hk hd).run pins s σ H Q I hq) hm
theorem me_dget2 (he : PE X e (tDGet2 (tM X.K X.mg f) (tM X.K X.mg g) (tM X.K X.mg h))) : ME X e (mDGet2 f g h) := pe_imp he <| by
  rintro σ H Q ⟨c, ρ, d, S', ⟨rfl, k, en⟩, q, p⟩
  obtain ⟨⟨x, S1⟩, h1, q⟩ := bd q
  obtain ⟨_, h0, q⟩ := bd q
  obtain ⟨⟨y, S2⟩, h2, q⟩ := bd q
  obtain ⟨⟨z, S3⟩, h3, q⟩ := bd q
  obtain ⟨kvs, h4, q⟩ := bd q
  obtain ⟨kk, h5, q⟩ := mp q
  cases q
  refine ⟨c, ρ, x, S1, .of k en, h1, fun v c1 l1 k1 e1 D1 => ?_⟩
  subst e1
  obtain ⟨pp, vs0, rfl, hv0, t0⟩ := dct_go k1 D1 h0
  refine ⟨pp, rfl, .inl ⟨vs0, .inl hv0⟩, c1, ρ, y, S2, .of k1 (en.mono l1), h2, fun u c2 l2 k2 e2 D2 => ⟨c2, ρ, z, S3, .of k2 (en.mono (l1.trans l2)), by rw [e2]; exact h3, fun w c3 l3 k3 e3 D3 => ?_⟩⟩
  subst e3
  obtain ⟨pp', vs, e4, hv, t⟩ := dct_go k3 (D1.mono (l2.trans l3)) h4
  cases e4
  have a := den_gv (k := kk) t
  have ky := key_go D2 h5
  subst ky
  refine ⟨valV vs kk, .k hv, ?_⟩
  have P := p.mono ((l1.trans l2).trans l3)
  revert a P
  cases gv kvs kk with
  | none => intro a P; rw [a]; exact P.here k3 D3
  | some w' =>
    intro a P
    obtain ⟨wv, g1, g2⟩ := a
    rw [g1]
    exact P.here k3 g2
end
/-- dict(pairs) -/
def prsOf : List D → Option (List (Key × D))
  | [] => some []
  | .tup [a, d] :: r => (keyOf a).bind fun k => (prsOf r).map fun y => (k, d) :: y
  | _ => none
theorem prs_go {K : PySem.W.Frag} {mg : Str → Option Value} {c : Cfg} : ∀ {ds : List D} {vs : List V} {kvs : List (Key × D)}, DenA K mg c vs ds → prsOf ds = some kvs → ∃ (ps : List Addr) (ws : List (Key × V)), vs = ps.map V.ref ∧ Paired (fun p kv => SqT K c.H p [kV kv.1, kv.2]) ps ws ∧ DenK K mg c ws kvs
  | [], _, _, h, e => by cases h; cases e; exact ⟨[], [], rfl, .nil, .nil⟩
  | d :: ds, _, _, h, e => by
    unfold prsOf at e
    split at e
    · rename_i h0; cases h0
    · rename_i a d r h0
      cases h0
      obtain ⟨k, h1, e⟩ := bd e
      obtain ⟨y, h2, rfl⟩ := mp e
      cases h with
      | cons q t =>
        obtain ⟨ps, ws, rfl, r1, r2⟩ := prs_go t h2
        cases q with
        | @tup p _ _ s1 t1 =>
          obtain ⟨x1, x2, rfl, q1, q2⟩ := da2 t1
          have := key_go q1 h1
          subst this
          exact ⟨p :: ps, (k, x2) :: ws, rfl, .cons s1.get r1, .cons q2 r2⟩
    · cases e
def dictP : CbF := fun _ ds => match ds with
  | [.lst xs] => (prsOf xs).map fun kvs => .dct (gmerge [] kvs)
  | _ => none
section
variable {X : Cx} {e : Expr} {f g h : EvF} {fa : EaF}
theorem cd_dictP (hc : X.calm = true) : CallD X (.type "dict") dictP := by
  rintro pins s σ H xs us Q I r ⟨c, ds, z, rfl, k, D1, e, P⟩
  unfold dictP at e
  split at e
  · obtain ⟨v, rfl, q⟩ := da1 D1
    obtain ⟨kvs, h1, rfl⟩ := mp e
    cases q with
    | lst s1 t1 =>
      obtain ⟨ps, ws, rfl, r1, r2⟩ := prs_go t1 h1
      exact call_dictP hc pins s σ _ _ us Q I r ⟨_, ps, ws, rfl, s1.get, r1, post_dct P k (denK_merge r2 .nil)⟩
  · cases e
/-- dict(pairs), a new thing of the store -/
def mDictN (fa : EaF) : EvF := fun ρ S => (fa ρ S).bind fun x => (dictP x.2 x.1).bind fun z => match z with
  | .dct kvs => some (.ref x.2.length, x.2 ++ [.dct kvs])
  | _ => none
theorem me_dictN (he : PE X e (tCB (fun xs H Q => ∃ (a : Addr) (ps : List Addr) (kvs : List (Key × V)), xs = [.ref a] ∧ SqL X.K H a (ps.map V.ref) ∧ Paired (fun p kv => SqT X.K H p [kV kv.1, kv.2]) ps kvs ∧
    ∀ p, H p = none → Q (.ref p) (upd H p (.dK (mergeK [] kvs)))) (tAs X.K X.mg fa))) : ME X e (mDictN fa) := pe_imp he <| by
  rintro σ H Q ⟨c, ρ, d, S', ⟨rfl, k, en⟩, q, p⟩
  obtain ⟨⟨ds, S1⟩, h1, q1⟩ := bd q
  obtain ⟨z, h2, q2⟩ := bd q1
  clear q q1
  refine ⟨c, ρ, ds, S1, .of k en, h1, fun vs c1 l1 k1 e1 D1 => ?_⟩
  subst e1
  have h3 : ∃ xs kvs, ds = [.lst xs] ∧ prsOf xs = some kvs ∧ z = .dct (gmerge [] kvs) := by
    have h2' : dictP c1.S ds = some z := h2
    unfold dictP at h2'
    split at h2'
    · obtain ⟨kvs, a, b⟩ := mp h2'
      exact ⟨_, kvs, rfl, a, b.symm⟩
    · cases h2'
  obtain ⟨xs, kvs, rfl, h4, rfl⟩ := h3
  cases q2
  obtain ⟨v, rfl, q⟩ := da1 D1
  cases q with
  | lst s1 t1 =>
    obtain ⟨ps, ws, rfl, r1, r2⟩ := prs_go t1 h4
    exact ⟨_, ps, ws, rfl, s1.get, r1, fun a ha => post_new (ob := .dct _) (p.mono l1) k1 ha (upd_keep ha) ⟨_, upd_same, (denK_merge r2 .nil).mono (new_le ha (upd_keep ha))⟩⟩
end
end M

namespace M
open PySem PySem.Spec L2 W2 RZ

/-! ### targets that change the store -/
abbrev TgSF := En → Sto → D → Option (En × Sto)
def tGS (K : PySem.W.Frag) (mg : Str → Option Value) (g : TgSF) : TG := fun v σ H Q => ∃ c ρ d ρ' S', At K mg c ρ σ H ∧ Den K mg c v d ∧ g ρ c.S d = some (ρ', S') ∧ ∀ c', Le c c' → Ok K mg c' → c'.S = S' → ∀ σ', EnD K mg c' σ' ρ' → Q σ' c'.H
/-- d[k] = .. of a dict of the store -/
def gSD (fo fi : EvF) : TgSF := fun ρ S d => (fo ρ S).bind fun x => (fi ρ x.2).bind fun y => match x.1 with
  | .ref j => (dctOf y.2 (.ref j)).bind fun kvs => (keyOf y.1).bind fun k => if kvs.length < 100000 then some (ρ, y.2.set j (.dct (gput kvs k d))) else none
  | _ => none
def foldG : List TgSF → List D → En → Sto → Option (En × Sto)
  | [], [], ρ, S => some (ρ, S)
  | g :: gs, d :: ds, ρ, S => (g ρ S d).bind fun x => foldG gs ds x.1 x.2
  | _, _, _, _ => none
def tGsS (K : PySem.W.Frag) (mg : Str → Option Value) (gs : List TgSF) : TGs := fun vs σ H Q => ∃ c ρ ds ρ' S', At K mg c ρ σ H ∧ DenA K mg c vs ds ∧ foldG gs ds ρ c.S = some (ρ', S') ∧ ∀ c', Le c c' → Ok K mg c' → c'.S = S' → ∀ σ', EnD K mg c' σ' ρ' → Q σ' c'.H
def gTS (gs : List TgSF) : TgSF := fun ρ S d => match d with
  | .tup ds => if ds.length = gs.length then foldG gs ds ρ S else none
  | _ => none
def mAsgS (f : EvF) (g : TgSF) : StF := fun ρ S => (f ρ S).bind fun x => (g ρ x.2 x.1).map fun r => (.nx r.1, r.2)
section
variable {X : Cx} {st : Stmt} {e : Expr} {f fo fi : EvF} {g : TgSF} {gs : List TgSF} {es : List Expr} {pos : Pos}
def rSetD : TSet := fun o i v H Q => ∃ a H', o = .ref a ∧ DPut H a i v H' ∧ Q H'
theorem set_dict (hu : X.A.units + 1 < cLine) : PSet X rSetD := by
  rintro pins s σ H o i v ov iv u Q I ro ri rv ⟨a, H', rfl, g, q⟩
  cases ro
  exact d_setItem hu I g ri rv fun s' I' => ⟨H', I', q⟩
abbrev MGS (X : Cx) (e : Expr) (g : TgSF) : Prop := PG X e (tGS X.K X.mg g)
theorem denK_len {K : PySem.W.Frag} {mg : Str → Option Value} {c : Cfg} : ∀ {ds : List (Key × D)} {vs : List (Key × V)}, DenK K mg c vs ds → vs.length = ds.length := fun h => h.length
theorem mgs_sub (h : PG X e (gSub (tM X.K X.mg fo) (tM X.K X.mg fi) rSetD)) : MGS X e (gSD fo fi) := pg_imp h <| by
  rintro v σ H Q ⟨c, ρ, d, ρ', S', ⟨rfl, k, en⟩, D0, q, p⟩
  obtain ⟨⟨x, S1⟩, h1, q1⟩ := bd q
  obtain ⟨⟨y, S2⟩, h2, q2⟩ := bd q1
  clear q q1
  cases x <;> try (cases q2)
  rename_i j
  obtain ⟨kvs, h3, q3⟩ := bd (show (dctOf S2 (.ref j)).bind _ = some (ρ', S') from q2)
  obtain ⟨kk, h4, q⟩ := bd q3
  clear q2 q3
  refine ⟨c, ρ, _, S1, .of k en, h1, fun u c1 l1 k1 e1 D1 => ⟨c1, ρ, y, S2, .of k1 (en.mono l1), by rw [e1]; exact h2, fun w c2 l2 k2 e2 D2 => ?_⟩⟩
  by_cases z : kvs.length < 100000
  · rw [if_pos z] at q
    cases q
    subst e2
    have ky := key_go D2 h4
    subst ky
    have hS : c2.S[j]? = some (.dct kvs) := by
      have h3' : (match c2.S[j]? with | some (.dct kvs) => some kvs | _ => none) = some kvs := h3
      split at h3'
      · cases h3'; assumption
      · cases h3'
    have hj := lt_of_get hS
    obtain ⟨vs, hv, t⟩ := k2.at_ _ _ hS
    cases D1.mono l2 with
    | ref _ =>
      refine ⟨_, _, rfl, .k hv (by rw [t.length, sizeLine_eq]; omega), ?_⟩
      have D0' := D0.mono (l1.trans l2)
      have t' := denK_put (k := kk) t D0'
      have le := put_le (c := c2) hj (o := .dK (putK vs kk v)) (ob := .dct (gput kvs kk d))
      exact p (c2.put j (.dK (putK vs kk v)) (.dct (gput kvs kk d))) ((l1.trans l2).trans le) (put_ok k2 hj ⟨_, upd_same, t'.mono le⟩) rfl _ (en.mono ((l1.trans l2).trans le))
  · rw [if_neg z] at q; cases q
theorem mgss_nil : PGs X [] (tGsS X.K X.mg []) := pgs_imp pgs_nil <| by
  rintro v σ H Q ⟨c, ρ, ds, ρ', S', ⟨rfl, k, en⟩, D0, q, p⟩
  cases D0 with
  | nil => cases q; exact ⟨rfl, p c (.refl c) k rfl _ en⟩
  | cons a b => cases q
theorem mgss_cons (h : PGs X es (gCons (tGS X.K X.mg g) (tGsS X.K X.mg gs))) : PGs X es (tGsS X.K X.mg (g :: gs)) := pgs_imp h <| by
  rintro v σ H Q ⟨c, ρ, ds, ρ', S', ⟨rfl, k, en⟩, D0, q, p⟩
  cases D0 with
  | nil => cases q
  | @cons v vs d ds a b =>
    obtain ⟨⟨ρ1, S1⟩, h1, h2⟩ := bd (show (g ρ c.S d).bind _ = some (ρ', S') from q)
    refine ⟨v, vs, rfl, c, ρ, d, ρ1, S1, .of k en, a, h1, fun c1 l1 k1 e1 σ1 en1 => ?_⟩
    exact ⟨c1, ρ1, ds, ρ', S', .of k1 en1, b.mono l1, by rw [e1]; exact h2, fun c2 l2 => p c2 (l1.trans l2)⟩
theorem foldG_len : ∀ {gs : List TgSF} {ds : List D} {ρ : En} {S : Sto} {x : En × Sto}, foldG gs ds ρ S = some x → ds.length = gs.length
  | [], [], _, _, _, _ => rfl
  | _ :: gs, _ :: ds, _, _, _, h => by
    obtain ⟨x, _, h2⟩ := bd (show (Option.bind _ _) = some _ from h)
    simp [foldG_len (gs := gs) (ds := ds) h2]
  | [], _ :: _, _, _, _, h => by cases h
  | _ :: _, [], _, _, _, h => by cases h
theorem mgs_tup {n m : Nat} (hl : PG X (.Tuple es n pos) (gTup X.K gs.length (tGsS X.K X.mg gs))) : MGS X (.Tuple es n pos) (gTS gs) := pg_imp hl <| by
  rintro v σ H Q ⟨c, ρ, d, ρ', S', ⟨rfl, k, en⟩, D1, q, p⟩
  cases d <;> try (cases q)
  rename_i ds
  have q' : (if ds.length = gs.length then foldG gs ds ρ c.S else none) = some (ρ', S') := q
  by_cases z : ds.length = gs.length
  · rw [if_pos z] at q'
    cases D1 with
    | tup s t => exact ⟨_, _, rfl, s.get, t.length.trans z, c, ρ, ds, ρ', S', .of k en, t, q', p⟩
  · rw [if_neg z] at q'; cases q'
theorem ms_asgS (hs : PS X st (tAsg (tM X.K X.mg f) (tGS X.K X.mg g))) : MS X st (mAsgS f g) := ps_imp hs <| by
  rintro Dd σ H ⟨c, ρ, o, S', ⟨rfl, k, en⟩, q, p⟩
  obtain ⟨⟨x, S1⟩, h1, q⟩ := bd q
  obtain ⟨⟨ρ1, S2⟩, h2, q⟩ := mp q
  cases q
  refine ⟨c, ρ, x, S1, .of k en, h1, fun v c1 l1 k1 e1 D1 => ?_⟩
  exact ⟨c1, ρ, x, ρ1, S2, .of k1 (en.mono l1), D1, by rw [e1]; exact h2, fun c2 l2 k2 e2 σ2 en2 => p c2 (l1.trans l2) k2 e2 σ2 en2⟩
end

/-! ### repr of long texts, of lists of the store -/
def fitL (d : PyData) : Bool := d.showable && d.leavesShort 50000 && decide (d.depth ≤ 60) && decide (d.bulk ≤ 300)
def showD (d : D) : Option D := (toQ d).bind fun p => if fitB p = true ∨ fitL p = true then some (.str p.shown) else none
def reprR : CbF := fun S ds => match ds with
  | [.ref j] => (stLst S j).bind fun xs => showD (.lst xs)
  | [d] => showD d
  | _ => none
theorem fitL_len {d : PyData} (h1 : d.leavesShort 50000 = true) (h2 : d.bulk ≤ 300) : d.shown.length ≤ sizeLine := by
  have a := PyData.shown_le_bulk 50000 (by decide) d h1
  have b : (50000 + 2) * d.bulk ≤ 50002 * 300 := Nat.mul_le_mul (by decide) h2
  rw [sizeLine_eq]
  omega
theorem fit_go {p : PyData} (h : fitB p = true ∨ fitL p = true) : p.showable = true ∧ p.depth ≤ 60 ∧ p.shown.length ≤ sizeLine := by
  rcases h with F | F
  · unfold fitB at F
    simp only [Bool.and_eq_true, decide_eq_true_eq] at F
    obtain ⟨⟨⟨f1, f2⟩, f3⟩, f4⟩ := F
    exact ⟨f1, f3, fit_len f2 f4⟩
  · unfold fitL at F
    simp only [Bool.and_eq_true, decide_eq_true_eq] at F
    obtain ⟨⟨⟨f1, f2⟩, f3⟩, f4⟩ := F
    exact ⟨f1, f3, fitL_len f2 f4⟩
theorem cd_reprR {X : Cx} (hr : Rg X.A) (hs : ∃ mm, X.base.Ns sysModules mm) : CallD X (.builtin "repr") reprR := by
  rintro pins s σ H xs us Q I r ⟨c, ds, z, rfl, k, D1, e, P⟩
  have hu := hr.un
  unfold reprR at e
  split at e
  · obtain ⟨v, rfl, q⟩ := da1 D1
    obtain ⟨zs, h0, e⟩ := bd e
    obtain ⟨p, h1, e⟩ := bd (show (toQ (.lst zs)).bind _ = some z from e)
    by_cases F : fitB p = true ∨ fitL p = true
    · rw [if_pos F] at e
      cases e
      obtain ⟨f1, f3, hz⟩ := fit_go F
      obtain ⟨u, rfl, r1⟩ := vals1 r
      have P' := P.here k (.str _)
      cases q with
      | ref hj =>
        cases r1
        obtain ⟨vs, hv, t⟩ := k.at_ _ _ (stLst_eq h0)
        rw [toQ] at h1
        obtain ⟨ys, g1, rfl⟩ := mp h1
        obtain ⟨its, rv, ⟨o, w, ho, hc, _, hd⟩, _⟩ := I.list (.inl (.inl hv))
        obtain ⟨as, hra, kk⟩ := den_readsA I hs t rv g1
        exact repr_of_reads' (Reads.list ho hc hd hra) f1 (fun _ => sys_no I hs hv kk) hr.g (by omega) (fun _ _ e => e) (fun h' t tk k => ⟨.str _, c.H, I.kept k, ⟨_, rfl⟩, P'⟩) hz
    · rw [if_neg F] at e; cases e
  · obtain ⟨v, rfl, q⟩ := da1 D1
    obtain ⟨p, h1, e⟩ := bd (show (toQ _).bind _ = some z from e)
    by_cases F : fitB p = true ∨ fitL p = true
    · rw [if_pos F] at e
      cases e
      obtain ⟨f1, f3, hz⟩ := fit_go F
      obtain ⟨u, rfl, r1⟩ := vals1 r
      obtain ⟨as, R, ns⟩ := den_reads I hs q r1 h1
      have P' := P.here k (.str _)
      cases R with
      | none => exact PySem.P.repr_of_none ⟨.str _, c.H, I.tok _, ⟨_, rfl⟩, P'⟩
      | bool b =>
        refine PySem.P.repr_of_bool ⟨.str _, c.H, I.tok _, ⟨_, rfl⟩, ?_⟩
        cases b <;> exact P'
      | int i t => exact PySem.P.repr_of_int (by simpa [PyData.showable] using f1) ⟨.str _, c.H, I.tok _, ⟨_, rfl⟩, P'⟩
      | str x t => exact PySem.P.repr_of_str ⟨.str _, c.H, I.tok _, ⟨_, rfl⟩, P'⟩ hz
      | list g1 g2 g3 g4 => exact repr_of_reads' (Reads.list g1 g2 g3 g4) f1 (fun _ => ns) hr.g (by omega) (fun _ _ e => e) (fun h' t tk k => ⟨.str _, c.H, I.kept k, ⟨_, rfl⟩, P'⟩) hz
      | tuple g1 g2 g3 g4 => exact repr_of_reads' (Reads.tuple g1 g2 g3 g4) f1 (fun _ => ns) hr.g (by omega) (fun _ _ e => e) (fun h' t tk k => ⟨.str _, c.H, I.kept k, ⟨_, rfl⟩, P'⟩) hz
      | dict g1 g2 g3 g4 g5 => exact repr_of_reads' (Reads.dict g1 g2 g3 g4 g5) f1 (fun _ => ns) hr.g (by omega) (fun _ _ e => e) (fun h' t tk k => ⟨.str _, c.H, I.kept k, ⟨_, rfl⟩, P'⟩) hz
    · rw [if_neg F] at e; cases e
  · cases e
end M

namespace M
open PySem PySem.Spec L2 W2 RZ

/-! ### what may raise -/
inductive OX where
  | nx (ρ : En) | rt (d : D) | bk (ρ : En) | ct (ρ : En) | ex (cn : Str) (fs : Fs) (ρ : En)
inductive RX (α : Type) where
  | ok (a : α) | ex (cn : Str) (fs : Fs)
abbrev SxF := En → Sto → Option (OX × Sto)
abbrev RxF (α : Type) := En → Sto → Option (RX α × Sto)
def ErX (c : Cfg) (od : Option Addr) (vs : List (Str × V)) : Prop := match od with
  | none => vs = []
  | some dd => ¬ c.B dd ∧ c.H dd = some (.xd vs)
section
variable (K : PySem.W.Frag) (mg : Str → Option Value)
def ExTo (c : Cfg) (cn : Str) (fs : Fs) (E : XK) : Prop := ∀ C od vs, mg cn = some (.ref C) → ErX c od vs → DenF K mg c vs fs → E (.ref C) od c.H
/-- what is wanted behind f -/
def RunX {α β : Type} (R : Cfg → β → α → Prop) (c : Cfg) (o : Option (RX α × Sto)) (Q : β → Hp → Prop) (E : XK) : Prop := ∃ r S', o = some (r, S') ∧ ∀ c', Le c c' → Ok K mg c' → c'.S = S' → match r with
  | .ok a => ∀ v, R c' v a → Q v c'.H
  | .ex cn fs => ExTo K mg c' cn fs E
def tMx (W : WX) (f : RxF D) : TE := fun σ H Q => ∃ c ρ, At K mg c ρ σ H ∧ RunX K mg (Den K mg) c (f ρ c.S) Q fun cls d H' => W cls d σ H'
def tAx (W : WX) (f : RxF (List D)) : TA := fun σ H Q => ∃ c ρ, At K mg c ρ σ H ∧ RunX K mg (DenA K mg) c (f ρ c.S) Q fun cls d H' => W cls d σ H'
def tTx (W : WX) (f : RxF Bool) : TT := fun σ H Q => ∃ c ρ, At K mg c ρ σ H ∧ RunX K mg (fun _ b a => b = a) c (f ρ c.S) Q fun cls d H' => W cls d σ H'
def OxTo (W : WX) (Dd : Ends) (c' : Cfg) : OX → Prop
  | .nx ρ' => ∀ σ', EnD K mg c' σ' ρ' → Dd.nx σ' c'.H
  | .rt d => ∀ v, Den K mg c' v d → Dd.rt v c'.H
  | .bk ρ' => ∀ σ', EnD K mg c' σ' ρ' → Dd.bk σ' c'.H
  | .ct ρ' => ∀ σ', EnD K mg c' σ' ρ' → Dd.ct σ' c'.H
  | .ex cn fs ρ' => ∀ σ', EnD K mg c' σ' ρ' → ExTo K mg c' cn fs fun cls d H' => W cls d σ' H'
def tSx (W : WX) (g : SxF) : TS := fun Dd σ H => ∃ c ρ o S', At K mg c ρ σ H ∧ g ρ c.S = some (o, S') ∧ ∀ c', Le c c' → Ok K mg c' → c'.S = S' → OxTo K mg W Dd c' o
end
section
variable {K : PySem.W.Frag} {mg : Str → Option Value} {c c' : Cfg} {α β : Type} {R : Cfg → β → α → Prop} {Q : β → Hp → Prop} {E : XK}
theorem RunX.mono {r : RX α} {S' : Sto} (h : ∀ c', Le c c' → Ok K mg c' → c'.S = S' → match r with
  | .ok a => ∀ v, R c' v a → Q v c'.H
  | .ex cn fs => ExTo K mg c' cn fs E) (l : Le c c') (o : Option (RX α × Sto)) (e : o = some (r, S')) : RunX K mg R c' o Q E := ⟨r, S', e, fun c2 l2 => h c2 (l.trans l2)⟩
end
abbrev MX (X : Cx) (W : WX) (st : Stmt) (g : SxF) : Prop := PS X st (tSx X.K X.mg W g)
abbrev MXs (X : Cx) (W : WX) (st : List Stmt) (g : SxF) : Prop := PSs X st (tSx X.K X.mg W g)
abbrev MEx (X : Cx) (W : WX) (e : Expr) (f : RxF D) : Prop := PE X e (tMx X.K X.mg W f)
abbrev MAx (X : Cx) (W : WX) (es : List Expr) (f : RxF (List D)) : Prop := PA X es (tAx X.K X.mg W f)
abbrev MTx (X : Cx) (W : WX) (e : Expr) (f : RxF Bool) : Prop := PT X e (tTx X.K X.mg W f)
def xo {α : Type} (f : En → Sto → Option (α × Sto)) : RxF α := fun ρ S => (f ρ S).map fun x => (.ok x.1, x.2)
def outX : Out → OX
  | .nx ρ => .nx ρ
  | .rt d => .rt d
  | .bk ρ => .bk ρ
  | .ct ρ => .ct ρ
def lx (g : StF) : SxF := fun ρ S => (g ρ S).map fun x => (outX x.1, x.2)
def bx {α β : Type} (o : Option (RX α × Sto)) (f : α → Sto → Option (RX β × Sto)) : Option (RX β × Sto) := o.bind fun x => match x.1 with
  | .ok a => f a x.2
  | .ex cn fs => some (.ex cn fs, x.2)
def sxR {α : Type} (ρ : En) (o : Option (RX α × Sto)) (f : α → Sto → Option (OX × Sto)) : Option (OX × Sto) := o.bind fun x => match x.1 with
  | .ok a => f a x.2
  | .ex cn fs => some (.ex cn fs ρ, x.2)
def mxCons (f : RxF D) (g : RxF (List D)) : RxF (List D) := fun ρ S => bx (f ρ S) fun x S1 => bx (g ρ S1) fun y S2 => some (.ok (x :: y), S2)
def mxCallM (F : Fn) (fa : RxF (List D)) : RxF D := fun ρ S => bx (fa ρ S) fun x S1 => (F x S1).map fun y => (.ok y.1, y.2)
def mxBin (op : D → D → Option D) (f g : RxF D) : RxF D := fun ρ S => bx (f ρ S) fun x S1 => bx (g ρ S1) fun y S2 => (op x y).map fun z => (.ok z, S2)
def mxTv (f : RxF D) : RxF Bool := fun ρ S => bx (f ρ S) fun x S1 => match x with
  | .bl b => some (.ok b, S1)
  | _ => none
def mxRet (f : RxF D) : SxF := fun ρ S => sxR ρ (f ρ S) fun d S1 => some (.rt d, S1)
def mxDrop (f : RxF D) : SxF := fun ρ S => sxR ρ (f ρ S) fun d S1 => some (.nx ρ, S1)
def mxAsg (f : RxF D) (g : TgF) : SxF := fun ρ S => sxR ρ (f ρ S) fun d S1 => (g ρ d).map fun ρ' => (.nx ρ', S1)
def mxIf (t : RxF Bool) (g h : SxF) : SxF := fun ρ S => sxR ρ (t ρ S) fun b S1 => if b = true then g ρ S1 else h ρ S1
def mxSeq (g h : SxF) : SxF := fun ρ S => (g ρ S).bind fun x => match x.1 with
  | .nx ρ' => h ρ' x.2
  | o => some (o, x.2)
section
variable {X : Cx} {W : WX} {pos p : Pos} {e a b : Expr} {es : List Expr} {st : Stmt} {rest : List Stmt} {f f' : RxF D} {fa : RxF (List D)} {t : RxF Bool} {g h : SxF}
theorem xo_run {α β : Type} {K : PySem.W.Frag} {mg : Str → Option Value} {c : Cfg} {R : Cfg → β → α → Prop} {o : Option (α × Sto)} {Q : β → Hp → Prop} {E : XK} (h : RunX K mg R c (o.map fun x => (.ok x.1, x.2)) Q E) : ∃ a S', o = some (a, S') ∧ ∀ c', Le c c' → Ok K mg c' → c'.S = S' → ∀ v, R c' v a → Q v c'.H := by
  obtain ⟨r, S', h1, h2⟩ := h
  obtain ⟨x, h3, h4⟩ := mp h1
  cases h4
  exact ⟨x.1, x.2, h3, h2⟩
theorem mex_of {f : EvF} (h : ME X e f) : MEx X W e (xo f) := pe_imp h <| by
  rintro σ H Q ⟨c, ρ, hA, hR⟩
  obtain ⟨d, S', h1, h2⟩ := xo_run hR
  exact ⟨c, ρ, d, S', hA, h1, fun v c1 l k e D1 => h2 c1 l k e v D1⟩
theorem max_of {f : EaF} (h : MA X es f) : MAx X W es (xo f) := pa_imp h <| by
  rintro σ H Q ⟨c, ρ, hA, hR⟩
  obtain ⟨d, S', h1, h2⟩ := xo_run hR
  exact ⟨c, ρ, d, S', hA, h1, fun v c1 l k e D1 => h2 c1 l k e v D1⟩
theorem mtx_of {f : EtF} (h : MT X e f) : MTx X W e (xo f) := pt_imp h <| by
  rintro σ H Q ⟨c, ρ, hA, hR⟩
  obtain ⟨d, S', h1, h2⟩ := xo_run hR
  exact ⟨c, ρ, d, S', hA, h1, fun c1 l k e => h2 c1 l k e d rfl⟩
theorem mx_of {g : StF} (h : MS X st g) : MX X W st (lx g) := ps_imp h <| by
  rintro Dd σ H ⟨c, ρ, o, S', hA, hq, p⟩
  obtain ⟨⟨x, S1⟩, h1, h2⟩ := mp hq
  cases h2
  refine ⟨c, ρ, x, S1, hA, h1, fun c1 l k e => ?_⟩
  have q := p c1 l k e
  cases x <;> exact q
/-- a piece that may raise, then what is done with its value -/
theorem bx_run {α β γ δ : Type} {K : PySem.W.Frag} {mg : Str → Option Value} {c : Cfg} {R : Cfg → β → α → Prop} {R' : Cfg → δ → γ → Prop} {o : Option (RX α × Sto)} {f : α → Sto → Option (RX γ × Sto)} {Q : β → Hp → Prop} {Q' : δ → Hp → Prop} {E : XK}
    (h : RunX K mg R' c (bx o f) Q' E) (w : ∀ a c1 v, Le c c1 → Ok K mg c1 → R c1 v a → RunX K mg R' c1 (f a c1.S) Q' E → Q v c1.H) : RunX K mg R c o Q E := by
  obtain ⟨r, S', h1, h2⟩ := h
  obtain ⟨⟨x, S1⟩, h3, h4⟩ := bd h1
  refine ⟨x, S1, h3, fun c1 l k e => ?_⟩
  cases x with
  | ok a => exact fun v rv => w a c1 v l k rv ⟨r, S', by rw [e]; exact h4, fun c2 l2 => h2 c2 (l.trans l2)⟩
  | ex cn fs =>
    cases h4
    exact h2 c1 l k e
theorem max_cons (ha : MEx X W e f) (hr : MAx X W es fa) (hs : starEach (e :: es) X.env = (false, eval e X.env) :: starEach es X.env := by rfl) : MAx X W (e :: es) (mxCons f fa) := pa_imp (pa_cons ha hr hs) <| by
  rintro σ H Q ⟨c, ρ, ⟨rfl, k, en⟩, R⟩
  refine ⟨c, ρ, .of k en, bx_run R fun d c1 v l1 k1 D1 R1 => ⟨c1, ρ, .of k1 (en.mono l1), bx_run R1 fun ds c2 vs l2 k2 D2 R2 => ?_⟩⟩
  obtain ⟨r, S', h1, h2⟩ := R2
  cases h1
  exact h2 c2 (.refl _) k2 rfl _ (.cons (D1.mono l2) D2)
theorem mex_bin {o : Operator} {op : D → D → Option D} (ho : OpD X (binaryOp o) op) (ha : MEx X W a f) (hb : MEx X W b f') : MEx X W (.BinOp a o b pos) (mxBin op f f') := pe_imp (pe_op ho ha hb) <| by
  rintro σ H Q ⟨c, ρ, ⟨rfl, k, en⟩, R⟩
  refine ⟨c, ρ, .of k en, bx_run R fun d c1 v l1 k1 D1 R1 => ⟨c1, ρ, .of k1 (en.mono l1), bx_run R1 fun d2 c2 w l2 k2 D2 R2 => ?_⟩⟩
  obtain ⟨r, S', h1, h2⟩ := R2
  obtain ⟨z, h3, h4⟩ := mp h1
  cases h4
  exact ⟨c2, d, d2, z, rfl, k2, D1.mono l2, D2, h3, fun v c3 l3 k3 e3 D3 => h2 c3 l3 k3 e3 v D3⟩
theorem mtx_cmp {o : CmpOp} {op : D → D → Option D} (ho : OpD X (compareOp o) op) (ha : MEx X W a f) (hb : MEx X W b f') (hm : behindInMarks o b = false) : MTx X W (.Compare a [o] [b] pos) (mxTv (mxBin op f f')) := pt_imp (pt_cmpR ho ha hb hm) <| by
  rintro σ H Q ⟨c, ρ, ⟨rfl, k, en⟩, R⟩
  refine ⟨c, ρ, .of k en, ?_⟩
  refine bx_run (R' := fun (_ : Cfg) (b a : Bool) => b = a) (Q' := Q) (R := Den X.K X.mg) (Q := fun v H1 => (tMx X.K X.mg W f') σ H1 fun w H2 => (r2 X.K X.mg op) v w H2 fun x H' => ∃ k, x = .bl k ∧ Q k H') (f := fun x S1 => bx (bx (f' ρ S1) fun y S2 => (op x y).map fun z => (.ok z, S2)) fun z S2 => match z with | .bl b => some (.ok b, S2) | _ => none) (o := f ρ c.S) ?_ fun d c1 v l1 k1 D1 R1 => ?_
  · obtain ⟨r, S', h1, h2⟩ := R
    refine ⟨r, S', ?_, h2⟩
    rw [← h1]
    unfold mxTv mxBin bx
    cases f ρ c.S with
    | none => rfl
    | some x =>
      obtain ⟨x, S1⟩ := x
      cases x <;> rfl
  · refine ⟨c1, ρ, .of k1 (en.mono l1), ?_⟩
    refine bx_run (R' := fun (_ : Cfg) (b a : Bool) => b = a) (Q' := Q) (R := Den X.K X.mg) (f := fun y S2 => bx ((op d y).map fun z => (.ok z, S2)) fun z S2 => match z with | .bl b => some (.ok b, S2) | _ => none) (o := f' ρ c1.S) ?_ fun d2 c2 w l2 k2 D2 R2 => ?_
    · obtain ⟨r, S', h1, h2⟩ := R1
      refine ⟨r, S', ?_, h2⟩
      rw [← h1]
      unfold bx
      cases f' ρ c1.S with
      | none => rfl
      | some x =>
        obtain ⟨x, S1⟩ := x
        cases x <;> rfl
    · obtain ⟨r, S', h1, h2⟩ := R2
      obtain ⟨⟨z, S3⟩, h3, h4⟩ := bd h1
      obtain ⟨zz, h5, h6⟩ := mp h3
      cases h6
      refine ⟨c2, d, d2, zz, rfl, k2, D1.mono l2, D2, h5, fun v3 c3 l3 k3 e3 D3 => ?_⟩
      cases zz <;> try (cases h4)
      cases D3
      exact ⟨_, rfl, h2 c3 l3 k3 e3 _ rfl⟩
theorem sx_run {α β : Type} {K : PySem.W.Frag} {mg : Str → Option Value} {c : Cfg} {ρ : En} {σ : L2.St} {W : WX} {R : Cfg → β → α → Prop} {o : Option (RX α × Sto)} {f : α → Sto → Option (OX × Sto)} {Q : β → Hp → Prop} {ou : OX} {S' : Sto} {Dd : Ends} (en : EnD K mg c σ ρ)
    (h1 : sxR ρ o f = some (ou, S')) (h2 : ∀ c', Le c c' → Ok K mg c' → c'.S = S' → OxTo K mg W Dd c' ou) (w : ∀ a c1 v, Le c c1 → Ok K mg c1 → R c1 v a → f a c1.S = some (ou, S') → Q v c1.H) : RunX K mg R c o Q fun cls d H' => W cls d σ H' := by
  obtain ⟨⟨x, S1⟩, h3, h4⟩ := bd h1
  refine ⟨x, S1, h3, fun c1 l k e => ?_⟩
  cases x with
  | ok a => exact fun v rv => w a c1 v l k rv (by rw [e]; exact h4)
  | ex cn fs =>
    cases h4
    exact h2 c1 l k e σ (en.mono l)
theorem mx_ret (he : MEx X W e f) : MX X W (.Return (some e) pos) (mxRet f) := ps_imp (ps_ret he) <| by
  rintro Dd σ H ⟨c, ρ, o, S', ⟨rfl, k, en⟩, q, p⟩
  refine ⟨c, ρ, .of k en, sx_run en q p fun d c1 v l1 k1 D1 h => ?_⟩
  cases h
  exact p c1 l1 k1 rfl v D1
theorem mx_drop (hs : PS X st (tDrop (tMx X.K X.mg W f))) : MX X W st (mxDrop f) := ps_imp hs <| by
  rintro Dd σ H ⟨c, ρ, o, S', ⟨rfl, k, en⟩, q, p⟩
  refine ⟨c, ρ, .of k en, sx_run en q p fun d c1 v l1 k1 D1 h => ?_⟩
  cases h
  exact p c1 l1 k1 rfl _ (en.mono l1)
theorem mx_asg {tg : TgF} (hs : PS X st (tAsg (tMx X.K X.mg W f) (tG X.K X.mg tg))) : MX X W st (mxAsg f tg) := ps_imp hs <| by
  rintro Dd σ H ⟨c, ρ, o, S', ⟨rfl, k, en⟩, q, p⟩
  refine ⟨c, ρ, .of k en, sx_run en q p fun d c1 v l1 k1 D1 h => ?_⟩
  obtain ⟨ρ', h2, h3⟩ := mp h
  cases h3
  exact ⟨c1, ρ, d, ρ', .of k1 (en.mono l1), D1, h2, fun σ' en' => p c1 l1 k1 rfl σ' en'⟩
theorem mx_if {c : Expr} {sts : List Stmt} (ht : MTx X W c t) (h1 : MXs X W rest g) (h2 : MXs X W sts h) : MX X W (.If c rest sts pos) (mxIf t g h) := ps_imp (ps_if ht h1 h2) <| by
  rintro Dd σ H ⟨c, ρ, o, S', ⟨rfl, k, en⟩, q, p⟩
  refine ⟨c, ρ, .of k en, sx_run (R := fun (_ : Cfg) (b a : Bool) => b = a) en q p fun b c1 v l1 k1 D1 h => ?_⟩
  have D2 : v = b := D1
  subst D2
  cases v with
  | true => exact ⟨c1, ρ, o, S', .of k1 (en.mono l1), h, fun c2 l2 => p c2 (l1.trans l2)⟩
  | false => exact ⟨c1, ρ, o, S', .of k1 (en.mono l1), h, fun c2 l2 => p c2 (l1.trans l2)⟩
theorem mxs_nil : MXs X W [] (lx mSkip) := pss_imp pss_nil <| by
  rintro Dd σ H ⟨c, ρ, o, S', ⟨rfl, k, en⟩, q, p⟩
  cases q
  exact p c (.refl c) k rfl _ en
theorem mxs_one (h : MX X W st g) : MXs X W [st] g := pss_one h
theorem mxs_cons (h1 : MX X W st g) (h2 : MXs X W rest h) : MXs X W (st :: rest) (mxSeq g h) := pss_imp (pss_cons h1 h2) <| by
  rintro Dd σ H ⟨c, ρ, o, S', ⟨rfl, k, en⟩, q, p⟩
  obtain ⟨⟨x, S1⟩, h1, q⟩ := bd q
  refine ⟨c, ρ, x, S1, .of k en, h1, fun c1 l1 k1 e1 => ?_⟩
  cases x with
  | nx ρ' =>
    intro σ' en'
    exact ⟨c1, ρ', o, S', .of k1 en', by rw [e1]; exact q, fun c2 l2 => p c2 (l1.trans l2)⟩
  | rt d => cases q; exact p c1 l1 k1 e1
  | bk ρ' => cases q; exact p c1 l1 k1 e1
  | ct ρ' => cases q; exact p c1 l1 k1 e1
  | ex cn fs ρ' => cases q; exact p c1 l1 k1 e1
theorem mxs_of {g : StF} (h : MSs X rest g) : MXs X W rest (lx g) := pss_imp h <| by
  rintro Dd σ H ⟨c, ρ, o, S', hA, hq, p⟩
  obtain ⟨⟨x, S1⟩, h1, h2⟩ := mp hq
  cases h2
  refine ⟨c, ρ, x, S1, hA, h1, fun c1 l k e => ?_⟩
  have q := p c1 l k e
  cases x <;> exact q
end
end M

namespace M
open PySem PySem.Spec L2 W2 RZ

/-! ### defs that errors may leave -/
abbrev FnR := List D → Sto → Option (RX D × Sto)
def mxDef (n : Nat) (g : SxF) : FnR := fun ds S => (g (ds.map some ++ List.replicate (n - ds.length) none) S).bind fun x => match x.1 with
  | .rt d => some (.ok d, x.2)
  | .nx _ => some (.ok .non, x.2)
  | .ex cn fs _ => some (.ex cn fs, x.2)
  | _ => none
def spX (K : PySem.W.Frag) (mg : Str → Option Value) (np : Nat) (F : FnR) : Sp := fun vs H Q E => vs.length = np ∧ ∃ c ds, c.H = H ∧ Ok K mg c ∧ DenA K mg c vs ds ∧ RunX K mg (Den K mg) c (F ds c.S) Q E
structure CalX (P : Program) (w : World) (K : PySem.W.Frag) (mg : Str → Option Value) (base : Heap) (k : Nat) (x : Str) (np : Nat) (F : FnR) : Prop where
  ex : ∃ (f : Addr) (fd : FuncData) (ps : List Str), mg x = some (.ref f) ∧ PySem.W.keepIn K (.ref f) = true ∧ Binds K fd ps [] ∧ FnX P w K mg base k f fd ps (spX K mg np F) ∧ ps.length = np
structure CalXK (P : Program) (w : World) (K : PySem.W.Frag) (mg : Str → Option Value) (base : Heap) (k : Nat) (x p : Str) (F : FnR) : Prop where
  ex : ∃ (f : Addr) (fd : FuncData), mg x = some (.ref f) ∧ PySem.W.keepIn K (.ref f) = true ∧ (∀ (s : Shared) (u : Value), BindsTo s fd ⟨[], [(p, u)]⟩ [(p, u)]) ∧ FnX P w K mg base k f fd [p] (spX K mg 1 F)
section
variable {P : Program} {w : World} {K : PySem.W.Frag} {mg : Str → Option Value} {base : Heap}
theorem defX_ok {x qual : Str} {st : Stmt} {f : Addr} {fd : FuncData} {N ps : List Str} {k : Nat} {g : SxF} (F : Fun K x qual st f fd) (S : FnScope N ps (defScope st))
    (body : ∀ (c : Value) (A : Around) (o : List Env) (s : Shared) (H : Hp) (E : XK), Rm k (A.deeper (PyProof.Rows.envOfC qual (defScope st) s.heap.objs.size f c)) → MXs (cxOf (L2.CX P w) P w K mg base N qual (defScope st) f c A o s H E) (fun cls d _ H' => E cls d H') (defBody st) g) :
    FnX P w K mg base (k + 1) f fd ps (spX K mg ps.length (mxDef N.length g)) := by
  refine fnX_of F S (fun vs H Q E h => h.1) fun c A o s H vs Q E hr h => ⟨_, body c A o s H E hr, ?_⟩
  obtain ⟨hl, cf, ds, rfl, k, D1, r, S', e, p⟩ := h
  obtain ⟨⟨x, S1⟩, h1, q⟩ := bd e
  refine ⟨cf, _, x, S1, .of k (start_en D1), h1, fun c1 l1 k1 e1 => ?_⟩
  cases x with
  | nx ρ' =>
    cases q
    exact fun σ' en' => p c1 l1 k1 e1 _ .non
  | rt d' =>
    cases q
    exact fun v D2 => p c1 l1 k1 e1 v D2
  | bk ρ' => cases q
  | ct ρ' => cases q
  | ex cn fs ρ' =>
    cases q
    exact fun σ' en' => p c1 l1 k1 e1
theorem CalX.mono {k j : Nat} {x : Str} {np : Nat} {F : FnR} (h : CalX P w K mg base k x np F) (l : k ≤ j) : CalX P w K mg base j x np F := by
  obtain ⟨f, fd, ps, a, b, c, d, e⟩ := h.ex
  exact ⟨f, fd, ps, a, b, c, d.mono l, e⟩
theorem calX_mk {x : Str} {st : Stmt} {f : Addr} {fd : FuncData} {ps : List Str} {k np : Nat} {F : FnR} (Z : Fun K x x st f fd) (m : mg x = some (.ref f)) (b : Binds K fd ps []) (hl : ps.length = np) (G : FnX P w K mg base k f fd ps (spX K mg ps.length F)) : CalX P w K mg base k x np F := by
  subst hl
  exact ⟨⟨f, fd, ps, m, Z.kp, b, G, rfl⟩⟩
theorem calXK_mk {x p : Str} {st : Stmt} {f : Addr} {fd : FuncData} {k : Nat} {F : FnR} (Z : Fun K x x st f fd) (m : mg x = some (.ref f)) (b : ∀ (s : Shared) (u : Value), BindsTo s fd ⟨[], [(p, u)]⟩ [(p, u)]) (G : FnX P w K mg base k f fd [p] (spX K mg 1 F)) : CalXK P w K mg base k x p F := ⟨⟨f, fd, m, Z.kp, b, G⟩⟩
/-- where it raises nothing it is a def like the others -/
def okF (F : FnR) : Fn := fun ds S => (F ds S).bind fun x => match x.1 with
  | .ok d => some (d, x.2)
  | _ => none
theorem spX_ok {np : Nat} {F : FnR} {vs : List V} {H : Hp} {Q : VK} {E E' : XK} (h : spM K mg np (okF F) vs H Q E) : spX K mg np F vs H Q E' := by
  obtain ⟨hl, c, ds, d, S', e, k, D1, q, P⟩ := h
  obtain ⟨⟨r, S1⟩, h1, h2⟩ := bd q
  refine ⟨hl, c, ds, e, k, D1, r, S1, h1, fun c1 l1 k1 e1 => ?_⟩
  cases r with
  | ok a =>
    cases h2
    exact fun v D2 => P v c1 l1 k1 e1 D2
  | ex cn fs => cases h2
theorem fnX_toOk {k : Nat} {f : Addr} {fd : FuncData} {ps : List Str} {np : Nat} {F : FnR} (G : FnX P w K mg base k f fd ps (spX K mg np F)) : FnG P w K mg base k f fd ps (spM K mg np (okF F)) :=
  ⟨fun vs H Q E h => G.len vs H Q E (spX_ok h), fun A o s H ar us vs Q E hr he hb hv h => G.run A o s H ar us vs Q E hr he hb hv (spX_ok h)⟩
theorem CalX.ok {k : Nat} {x : Str} {np : Nat} {F : FnR} (h : CalX P w K mg base k x np F) : Cal P w K mg base k x np (okF F) := by
  obtain ⟨f, fd, ps, a, b, c, d, e⟩ := h.ex
  exact ⟨f, fd, ps, a, b, c, fnX_toOk d, e⟩
theorem CalXK.ok {k : Nat} {x p : Str} {F : FnR} (h : CalXK P w K mg base k x p F) : CalK P w K mg base k x p (okF F) := by
  obtain ⟨f, fd, a, b, c, d⟩ := h.ex
  exact ⟨f, fd, a, b, c, fnX_toOk d⟩
end
def mxCall (F : FnR) (fa : RxF (List D)) : RxF D := fun ρ S => bx (fa ρ S) fun ds S1 => F ds S1
def mxKw (F : FnR) (f : EvF) : RxF D := fun ρ S => (f ρ S).bind fun x => F [x.1] x.2
def LenX (n : Nat) (fa : RxF (List D)) : Prop := ∀ ρ S ds S', fa ρ S = some (.ok ds, S') → ds.length = n
theorem lenx_of {n : Nat} {fa : EaF} (h : ∀ ρ S ds S', fa ρ S = some (ds, S') → ds.length = n) : LenX n (xo fa) := by
  intro ρ S ds S' q
  obtain ⟨x, h1, h2⟩ := mp q
  cases h2
  exact h _ _ _ _ h1
theorem lenx_cons {n : Nat} {f : RxF D} {fa : RxF (List D)} (h : LenX n fa) : LenX (n + 1) (mxCons f fa) := by
  intro ρ S ds S' q
  obtain ⟨⟨x, S1⟩, h1, q⟩ := bd q
  cases x with
  | ex cn fs => cases q
  | ok a =>
    obtain ⟨⟨y, S2⟩, h2, q⟩ := bd (show (fa ρ S1).bind _ = some _ from q)
    cases y with
    | ex cn fs => cases q
    | ok b =>
      cases q
      simp [h _ _ _ _ h2]
section
variable {X : Cx} {W : WX} {pos p kpos : Pos} {e : Expr} {es : List Expr} {f : EvF} {fa : RxF (List D)} {k np : Nat} {x y : Str}
theorem mex_call {F : FnR} (C : CalX X.prog X.w X.K X.mg X.base k x np F) (hr : Rm k X.A) (tk : Takes X W) (hg : Gl X x) (ha : MAx X W (e :: es) fa) (hn : LenX np fa)
    (hdb : (x == ("__debug__" : Str)) = false := by decide) (he : starEach (e :: es) X.env = (false, eval e X.env) :: starEach es X.env := by rfl) (hpl : (backTo pos (starEach es X.env)).any (·.1) = false := by rfl) :
    MEx X W (.Call (.Name x p) (e :: es) [] pos) (mxCall F fa) := by
  obtain ⟨f, fd, ps, hm, hk, hb, G, hl⟩ := C.ex
  refine pe_imp (pe_X G hr tk hg hm hk hb ha hdb he hpl) ?_
  rintro σ H Q ⟨c, ρ, ⟨rfl, k, en⟩, r, S', h1, h2⟩
  obtain ⟨⟨ds, S1⟩, h3, h4⟩ := bd h1
  refine ⟨c, ρ, .of k en, ds, S1, h3, fun c1 l1 k1 e1 => ?_⟩
  cases ds with
  | ok ds => exact fun vs D1 => ⟨by rw [D1.length]; exact hn _ _ _ _ h3, c1, ds, rfl, k1, D1, r, S', by rw [e1]; exact h4, fun c2 l2 => h2 c2 (l1.trans l2)⟩
  | ex cn fs =>
    cases h4
    exact h2 c1 l1 k1 e1
theorem mex_callM {F : Fn} (C : Cal X.prog X.w X.K X.mg X.base k x np F) (hr : Rm k X.A) (tk : Takes X W) (hg : Gl X x) (ha : MAx X W (e :: es) fa) (hn : LenX np fa)
    (hdb : (x == ("__debug__" : Str)) = false := by decide) (he : starEach (e :: es) X.env = (false, eval e X.env) :: starEach es X.env := by rfl) (hpl : (backTo pos (starEach es X.env)).any (·.1) = false := by rfl) :
    MEx X W (.Call (.Name x p) (e :: es) [] pos) (mxCallM F fa) := by
  obtain ⟨f, fd, ps, hm, hk, hb, G, hl⟩ := C.ex
  refine pe_imp (pe_X G hr tk hg hm hk hb ha hdb he hpl) ?_
  rintro σ H Q ⟨c, ρ, ⟨rfl, k, en⟩, r, S', h1, h2⟩
  obtain ⟨⟨ds, S1⟩, h3, h4⟩ := bd h1
  refine ⟨c, ρ, .of k en, ds, S1, h3, fun c1 l1 k1 e1 => ?_⟩
  cases ds with
  | ok ds =>
    obtain ⟨z, h5, h6⟩ := mp h4
    cases h6
    exact fun vs D1 => ⟨by rw [D1.length]; exact hn _ _ _ _ h3, c1, ds, z.1, z.2, rfl, k1, D1, by rw [e1]; exact h5, fun v c2 l2 k2 e2 D2 => h2 c2 (l1.trans l2) k2 e2 v D2⟩
  | ex cn fs =>
    cases h4
    exact h2 c1 l1 k1 e1
theorem mex_kw {F : FnR} (C : CalXK X.prog X.w X.K X.mg X.base k x y F) (hr : Rm k X.A) (tk : Takes X W) (hg : Gl X x) (he : ME X e f)
    (hall : (backToKw pos (keywordEach [⟨some y, e, kpos⟩] X.env)).all (·.1.isSome) = true := by rfl) (hks : (backToKw pos (keywordEach [⟨some y, e, kpos⟩] X.env)).filterMap (·.1) = [y] := by rfl)
    (hdb : (x == ("__debug__" : Str)) = false := by decide) (hpl : ((backTo pos (starEach [] X.env)).any (·.1) || (backToKw pos (keywordEach [⟨some y, e, kpos⟩] X.env)).any (·.1.isNone)) = false := by rfl) :
    MEx X W (.Call (.Name x p) [] [⟨some y, e, kpos⟩] pos) (mxKw F f) := by
  obtain ⟨fa, fd, hm, hk, hb, G⟩ := C.ex
  constructor
  rintro pins s σ H Q I ⟨c, ρ, ⟨rfl, k, en⟩, r, S', h1, h2⟩
  obtain ⟨z, h3, h4⟩ := bd h1
  refine wpAny_Call_Name_kw (ld_glob I hg hm ?_ hdb)
  refine PySem.W.callWith_KW0 (h₀ := X.base) I.ok.mod.kin hk hall ?_ hpl
  refine thn ((pk_cons he pk_nil).run pos pins s σ c.H (fun vs H' => spX X.K X.mg 1 F vs H' Q fun cls d H' => W cls d σ H') I ?_) ?_
  · refine ⟨c, ρ, z.1, z.2, .of k en, h3, fun v c1 l1 k1 e1 D1 => ⟨rfl, c1, [z.1], rfl, k1, .cons D1 .nil, r, S', by rw [e1]; exact h4, fun c2 l2 => h2 c2 (l1.trans l2)⟩⟩
  · rintro ws s2 ⟨zs, H2, I2, rz, hsp⟩
    refine ⟨I2.kIn, ?_⟩
    rw [hks]
    have hl := hsp.1
    match zs, rz, hl with
    | [zv], rz, _ =>
      obtain ⟨u, rfl, r1⟩ := vals1 rz
      refine wpAny_call (codeAny_mono (run_X (us := [u]) (vs := [zv]) (ar := ⟨[], [(y, u)]⟩) G hr tk (hb s2 u) I2 rz hsp) fun r s' hq => ?_)
      match r, hq with
      | .error _, hq => exact hq
      | .ok (.ret u), hq => exact hq
end

/-! ### an error's class with one field -/
def spI (C : Addr) (f : Str) : Sp := fun vs H Q _ => ∃ a y, vs = [.ref a, y] ∧ H a = some (exo a C none) ∧ ∀ dx, H dx = none → dx ≠ a → Q .non (upd (upd H dx (exd dx [(f, y)])) a (exo a C (some dx)))
structure Er1 (P : Program) (w : World) (K : PySem.W.Frag) (mg : Str → Option Value) (base : Heap) (cn f : Str) : Prop where
  ex : ∃ (C fI : Addr) (fd : FuncData), mg cn = some (.ref C) ∧ ErC K C ∧ PySem.W.findIn K (.ref C) "__init__" = some (some (.ref fI)) ∧ PySem.W.typeIn K (.ref fI) = some (.type "function") ∧ FnX P w K mg base 1 fI fd ["self", f] (spI C f) ∧ Binds K fd ["self", f] []
theorem init_ok {P : Program} {w : World} {K : PySem.W.Frag} {mg : Str → Option Value} {base : Heap} {x qual : Str} {st : Stmt} {fI C : Addr} {fd : FuncData} {f : Str} {p1 p2 p3 p4 : Pos} (Z : Fun K x qual st fI fd) (S : FnScope ["self", f] ["self", f] (defScope st))
    (hb : defBody st = [.Assign [.Attribute (.Name "self" p1) f p2] (.Name f p3) p4]) (T : ErC K C) (hno : PySem.W.findIn K (.ref C) f = some none) (hfd : (f == ("__debug__" : Str)) = false := by decide) (hcd : (f == ("__classdict__" : Str)) = false := by decide)
    (v1 : Vis (defScope st) "self" := by first | exact Or.inl rfl | exact Or.inr (Or.inl rfl)) (v2 : Vis (defScope st) f := by first | exact Or.inl rfl | exact Or.inr (Or.inl rfl)) : FnX P w K mg base 1 fI fd ["self", f] (spI C f) := by
  refine fnX_of Z S (fun vs H Q E h => ?_) fun c A o s H vs Q E hr h => ?_
  · obtain ⟨a, y, rfl, _⟩ := h; rfl
  · rw [hb]
    refine ⟨_, pss_one (ps_er (pe_var (i := 0) rfl v1 (by decide) (by decide)) (pe_var (i := 1) rfl v2 hfd hcd)), ?_⟩
    obtain ⟨a, y, rfl, ha, hq⟩ := h
    refine ⟨y, rfl, .ref a, rfl, a, C, rfl, T, hno, .inl ⟨ha, fun dx n ne => ?_⟩⟩
    exact hq dx n ne
def mxRaise (cn f : Str) (fe : EvF) : SxF := fun ρ S => (fe ρ S).map fun x => (.ex cn [(f, x.1)] ρ, x.2)
theorem mx_raise {X : Cx} {W : WX} {pos p cpos : Pos} {e : Expr} {fe : EvF} {cn f : Str} (hc : X.calm = true) (tk : Takes X W) (C : Er1 X.prog X.w X.K X.mg X.base cn f) (hr : Rm 2 X.A) (hg : Gl X cn) (ha : ME X e fe)
    (hdb : (cn == ("__debug__" : Str)) = false := by decide) (he : starEach [e] X.env = (false, eval e X.env) :: starEach [] X.env := by rfl) (hpl : (backTo cpos (starEach [] X.env)).any (·.1) = false := by rfl) :
    MX X W (.Raise (some (.Call (.Name cn p) [e] [] cpos)) none pos) (mxRaise cn f fe) := by
  obtain ⟨C, fI, fd, hm, T, iC, tI, F, hb⟩ := C.ex
  refine ps_imp (ps_raise hc tk (pmk_er T iC tI F hr hb hg hm (ma_cons ha ma_nil he) hdb he hpl)) ?_
  rintro Dd σ H ⟨c, ρ, o, S', ⟨rfl, k, en⟩, q, P⟩
  obtain ⟨⟨d, S1⟩, h1, h2⟩ := mp q
  cases h2
  refine ⟨c, ρ, [d], S1, .of k en, one_arg h1, fun vs c1 l1 k1 e1 D1 => ?_⟩
  obtain ⟨v, rfl, D2⟩ := da1 D1
  refine ⟨by show (1 : Nat) ≤ 1000; decide, fun a na => ⟨a, v, rfl, upd_same, fun dx nd ne => ?_⟩⟩
  have nd1 : c1.H dx = none := by rw [upd_ne ne] at nd; exact nd
  have ne' : a ≠ dx := fun z => ne z.symm
  refine ⟨rfl, dx, [(f, v)], upd_same, by rw [upd_ne ne, upd_same], nd1, ?_⟩
  have eH : upd (del (upd (upd (upd c1.H a (exo a C none)) dx (exd dx [(f, v)])) a (exo a C (some dx))) a) dx (.xd [(f, v)]) = upd c1.H dx (.xd [(f, v)]) := by
    funext b
    by_cases hb : b = dx
    · subst hb; rw [upd_same, upd_same]
    · rw [upd_ne hb, upd_ne hb]
      by_cases ha : b = a
      · subst ha; rw [del_same, na]
      · rw [del_ne ha, upd_ne ha, upd_ne hb, upd_ne ha]
  rw [eH]
  have k2 := lay_ok (o := .xd [(f, v)]) k1 nd1
  have l2 := lay_le (c := c1) (o := .xd [(f, v)]) nd1
  refine P (c1.lay dx (.xd [(f, v)])) (l1.trans l2) k2 e1 σ (en.mono (l1.trans l2)) C (some dx) [(f, v)] hm ⟨?_, upd_same⟩ (.cons (D2.mono l2) .nil)
  exact k1.nB nd1

/-! ### try -/
structure HdM where
  sb : Str → Option Bool
  i : Option Nat
  h : StF
def setE (ρ : En) (d : D) : Option Nat → En
  | none => ρ
  | some i => ρ.set i (some d)
def clrE (ρ : En) : Option Nat → En
  | none => ρ
  | some i => ρ.set i none
def outC (i : Option Nat) : Out → OX
  | .nx ρ => .nx (clrE ρ i)
  | .rt d => .rt d
  | .bk ρ => .bk (clrE ρ i)
  | .ct ρ => .ct (clrE ρ i)
def handle : List HdM → Str → Fs → SxF
  | [], cn, fs, ρ, S => some (.ex cn fs ρ, S)
  | l :: r, cn, fs, ρ, S => (l.sb cn).bind fun b => if b = true then (l.h (setE ρ (.err cn fs) l.i) S).map fun x => (outC l.i x.1, x.2) else handle r cn fs ρ S
def mxTry (g : SxF) (hs : List HdM) : SxF := fun ρ S => (g ρ S).bind fun x => match x.1 with
  | .ex cn fs ρ' => handle hs cn fs ρ' x.2
  | o => some (o, x.2)
def clfs (K : PySem.W.Frag) (mg : Str → Option Value) : List HdM → List Value → List ClF
  | l :: r, cv :: cs => ⟨cv, l.i, fun _ _ => tS K mg l.h⟩ :: clfs K mg r cs
  | _, _ => []
/-- what a clause's class says of the classes that may come -/
def SubOk (K : PySem.W.Frag) (mg : Str → Option Value) (sb : Str → Option Bool) (cv : Value) : Prop := ∀ cn b C, sb cn = some b → mg cn = some (.ref C) → PySem.W.exmOne K (.ref C) cv = some b
inductive SubAll (K : PySem.W.Frag) (mg : Str → Option Value) : List HdM → List Value → Prop
  | nil : SubAll K mg [] []
  | cons {sb : Str → Option Bool} {i : Option Nat} {h : StF} {r : List HdM} {cv : Value} {cs : List Value} : SubOk K mg sb cv → SubAll K mg r cs → SubAll K mg (⟨sb, i, h⟩ :: r) (cv :: cs)
theorem handle_go {K : PySem.W.Frag} {mg : Str → Option Value} {W : WX} {Dd : Ends} {c : Cfg} {cn : Str} {fs : Fs} {ρ : En} {σ : L2.St} {C : Addr} {od : Option Addr} {vs : List (Str × V)} {o : OX} {S' : Sto} (k : Ok K mg c) (en : EnD K mg c σ ρ) (hm : mg cn = some (.ref C)) (hx : ErX c od vs) (hd : DenF K mg c vs fs)
    (p : ∀ c', Le c c' → Ok K mg c' → c'.S = S' → OxTo K mg W Dd c' o) : ∀ (hs : List HdM) (cvs : List Value), SubAll K mg hs cvs → handle hs cn fs ρ c.S = some (o, S') → wClF K W Dd (clfs K mg hs cvs) (.ref C) od σ c.H
  | [], [], _, e => by
    cases e
    exact p c (.refl c) k rfl σ en C od vs hm hx hd
  | ⟨sb, hi, h⟩ :: r, cv :: cs, .cons hs hr, e => by
    obtain ⟨b, h1, h2⟩ := bd (show (sb cn).bind _ = some (o, S') from e)
    refine ⟨b, hs cn b C h1 hm, fun hb a oe na hz hf => ?_, fun hb => ?_⟩
    · subst hb
      obtain ⟨⟨x, S1⟩, h3, h4⟩ := mp (show (h (setE ρ (.err cn fs) hi) c.S).map _ = some (o, S') from h2)
      cases h4
      have le := lay_le (c := c) (o := EO a oe) na
      have k2 := lay_ok (o := EO a oe) k na
      have D1 : Den K mg (c.lay a (EO a oe)) (.ref a) (.err cn fs) := by
        refine .err (C := C) (od := od) (vs := vs) (k.nB na) hm (.inr ⟨oe, _, upd_same, hz, hf⟩) ?_ (DenF.mono le hd)
        cases od with
        | none => exact hx
        | some dd => exact ⟨hx.1, .inr ((upd_ne (ne_of_none hx.2 na)).trans hx.2)⟩
      have en2 : EnD K mg (c.lay a (EO a oe)) (setF σ a hi) (setE ρ (.err cn fs) hi) := by
        cases hi with
        | none => exact en.mono le
        | some i => exact (en.mono le).set D1
      show tS K mg h (dropF Dd hi) (setF σ a hi) (upd c.H a (EO a oe))
      refine ⟨c.lay a (EO a oe), _, x, S1, .of k2 en2, h3, fun c3 l3 k3 e3 => ?_⟩
      have q := p c3 (le.trans l3) k3 e3
      cases hi with
      | none => cases x <;> exact q
      | some i =>
        cases x with
        | nx ρ' => exact fun σ' en' => q _ en'.clear
        | rt d => exact q
        | bk ρ' => exact fun σ' en' => q _ en'.clear
        | ct ρ' => exact fun σ' en' => q _ en'.clear
    · subst hb
      exact handle_go k en hm hx hd p r cs hr h2
theorem mx_try {X : Cx} {W : WX} {body : List Stmt} {h₀ : ExceptHandler} {hds : List ExceptHandler} {pos : Pos} {g : SxF} {hs : List HdM} (cvs : List Value) (h1 : X.stack = X.env :: X.outer) (h2 : X.env.frame = some X.env.locals) (h3 : X.N.Nodup) (tk : Takes X W)
    (hb : ∀ (W' : WX) (pn : List (Addr × Obj)) (xe : Value → Shared → Prop), Takes (X.tr pn xe) W' → MXs (X.tr pn xe) W' body g) (hh : ClsOkF X (h₀ :: hds) (clfs X.K X.mg hs cvs)) (hsub : SubAll X.K X.mg hs cvs) : MX X W (.Try body (h₀ :: hds) [] [] pos) (mxTry g hs) := by
  refine ps_imp (ps_tryF (tb := fun W' => tSx X.K X.mg W' g) h1 h2 h3 tk (fun W' pn xe t _ => hb W' pn xe t) hh) ?_
  rintro Dd σ H ⟨c, ρ, o, S', hA, e, p⟩
  obtain ⟨⟨x, S1⟩, q1, q2⟩ := bd e
  refine ⟨c, ρ, x, S1, hA, q1, fun c1 l1 k1 e1 => ?_⟩
  cases x with
  | nx ρ' => cases q2; exact p c1 l1 k1 e1
  | rt d => cases q2; exact p c1 l1 k1 e1
  | bk ρ' => cases q2; exact p c1 l1 k1 e1
  | ct ρ' => cases q2; exact p c1 l1 k1 e1
  | ex cn fs ρ' =>
    intro σ' en' C od vs hm hx hd
    subst e1
    exact handle_go k1 en' hm hx hd (fun c2 l2 => p c2 (l1.trans l2)) hs cvs hsub q2
/-- a try that lets nothing out, among what raises nothing -/
def quS (g : SxF) : StF := fun ρ S => (g ρ S).bind fun x => match x.1 with
  | .nx ρ => some (.nx ρ, x.2)
  | .rt d => some (.rt d, x.2)
  | .bk ρ => some (.bk ρ, x.2)
  | .ct ρ => some (.ct ρ, x.2)
  | .ex _ _ _ => none
theorem ms_quS {X : Cx} {st : Stmt} {g : SxF} (h : MX X (fun _ _ _ _ => False) st g) : MS X st (quS g) := ps_imp h <| by
  rintro Dd σ H ⟨c, ρ, o, S', hA, e, p⟩
  obtain ⟨⟨x, S1⟩, q1, q2⟩ := bd e
  refine ⟨c, ρ, x, S1, hA, q1, fun c1 l1 k1 e1 => ?_⟩
  cases x with
  | nx ρ' => cases q2; exact p c1 l1 k1 e1
  | rt d => cases q2; exact p c1 l1 k1 e1
  | bk ρ' => cases q2; exact p c1 l1 k1 e1
  | ct ρ' => cases q2; exact p c1 l1 k1 e1
  | ex cn fs ρ' => cases q2

/-- what is known of an error's class -/
structure ErF (K : PySem.W.Frag) (mg : Str → Option Value) (cn f : Str) (C : Addr) : Prop where
  m : mg cn = some (.ref C)
  xf : XfC K C
  no : PySem.W.findIn K (.ref C) f = some none
  me : PySem.W.exmOne K (.ref C) (.ref C) = some true
def sbSelf (cn : Str) : Str → Option Bool := fun x => if x = cn then some true else none
theorem subOk_self {K : PySem.W.Frag} {mg : Str → Option Value} {cn f : Str} {C : Addr} (F : ErF K mg cn f C) : SubOk K mg (sbSelf cn) (.ref C) := by
  intro x b C' h hm
  unfold sbSelf at h
  split at h
  · rename_i e
    subst e
    cases h
    rw [F.m] at hm
    cases hm
    exact F.me
  · cases h
theorem names_of {X : Cx} {cn f : Str} {C : Addr} (F : ErF X.K X.mg cn f C) (hg : Gl X cn) (hd : (cn == ("__debug__" : Str)) = false := by decide) : Names X cn (.ref C) := ⟨hg, hd, .inl F.m⟩
/-! ### a field of an error -/
def mAttr (cns : List Str) (n : Str) (f : EvF) : EvF := fun ρ S => (f ρ S).bind fun x => match x.1 with
  | .err cn fs => if cn ∈ cns then (fs.lookup n).map fun d => (d, x.2) else none
  | _ => none
theorem attr_self {K : PySem.W.Frag} {mg : Str → Option Value} {cn f : Str} {C : Addr} (F : ErF K mg cn f C) : ∀ x ∈ [cn], ∀ C', mg x = some (.ref C') → XfC K C' ∧ PySem.W.findIn K (.ref C') f = some none := by
  intro x hx C' hm
  rw [List.mem_singleton.mp hx, F.m] at hm
  cases hm
  exact ⟨F.xf, F.no⟩
theorem me_attr {X : Cx} {e : Expr} {f : EvF} {cns : List Str} {n : Str} {pos : Pos} (T : ∀ cn ∈ cns, ∀ C, X.mg cn = some (.ref C) → XfC X.K C ∧ PySem.W.findIn X.K (.ref C) n = some none) (he : ME X e f) (hb : attributeBase e n X.env (eval e X.env) = eval e X.env := by rfl) :
    ME X (.Attribute e n pos) (mAttr cns n f) := by
  constructor
  rintro pins s σ H Q I ⟨c, ρ, d, S', ⟨rfl, k, en⟩, q, P⟩
  obtain ⟨⟨x, S1⟩, h1, h2⟩ := bd q
  clear q
  cases x <;> try (cases h2)
  rename_i cn fs
  have h3 : (if cn ∈ cns then (fs.lookup n).map fun d => (d, S1) else none) = some (d, S') := h2
  by_cases z : cn ∈ cns
  · rw [if_pos z] at h3
    obtain ⟨d', h4, h5⟩ := mp h3
    cases h5
    refine attr_of hb (thn (he.run pins s σ c.H (fun v H1 => ∃ c1, c1.H = H1 ∧ Le c c1 ∧ Ok X.K X.mg c1 ∧ c1.S = S' ∧ Den X.K X.mg c1 v (.err cn fs)) I ⟨c, ρ, _, S', .of k en, h1, fun v c1 l1 k1 e1 D1 => ⟨c1, rfl, l1, k1, e1, D1⟩⟩) fun u s1 hh => ?_)
    obtain ⟨x, H1, I1, rx, c1, rfl, l1, k1, e1, D1⟩ := hh
    cases D1 with
    | @err a C od vs _ _ nb hm ea ed q =>
      obtain rfl : u = Value.ref a := rx
      obtain ⟨T1, hno⟩ := T cn z C hm
      have hv := DenF.get (n := n) q
      rw [h4] at hv
      obtain ⟨v, l, dv⟩ := hv
      cases od with
      | none => cases ed; cases l
      | some dd =>
        obtain ⟨ndd, ed⟩ := ed
        obtain ⟨mA, hns, hr⟩ : ∃ mA, s1.heap.Ns1 dd mA ∧ ∀ g, RelO (vs.lookup g) (mA g) := by
          rcases ed with ed | ed
          · exact exd_at I1.hok ed
          · exact (show ObjOk X.prog X.w c1.H s1.heap dd (.xd vs) from I1.hok dd _ ed)
        obtain ⟨oe, ha, hz1, hz2, fl, hd⟩ : ∃ oe, s1.heap.get? a = some oe ∧ oe.cls = .ref C ∧ oe.dict = some dd ∧ ∃ w, oe.data = .fields w := by
          rcases ea with ea | ⟨oe, u, ea, hz, hf⟩
          · obtain ⟨t1, ho⟩ := exo_at I1.hok ea
            exact ⟨_, ho, rfl, rfl, _, rfl⟩
          · exact ⟨oe, (I1.hok a _ ea).1, hz.1, hz.2, hf⟩
        obtain ⟨od, ho, hl⟩ := lookIn_ns hns
        have hrn := hr n
        rw [l] at hrn
        obtain ⟨u, hu, ru⟩ := RelO.some_of (v := v) (o := mA n) hrn
        have J : PySem.W.InstAt s1.heap a oe C (some od) := ⟨ha, hz1, by unfold PySem.W.notCls; rw [hd] <;> rfl, by rw [hz2]; exact ho⟩
        exact HandSPX.exc_get I1.kIn J T1.ga T1.gg T1.exC (PySem.W.findObj_own T1.hdC hno rfl (by rw [hl, hu])) (handed_of ru) ⟨v, c1.H, I1.tok _, ru, P v c1 l1 k1 e1 dv⟩
  · rw [if_neg z] at h3; cases h3
theorem _root_.W2.Rg.u1 {A : Around} (h : Rg A) : A.units + 1 < cLine := by have := h.un; omega
end M

namespace M
open PySem PySem.Spec L2 W2 RZ
/-- is True, is False of anything -/
def isE : D → D → Option D := fun a b => match b with
  | .bl y => (match a with
    | .bl x => some (.bl (decide (x = y)))
    | .non => some (.bl false)
    | .int _ => some (.bl false)
    | .str _ => some (.bl false)
    | _ => none)
  | _ => isD a b
theorem od_isE {X : Cx} : OpD X (compareOp .Is) isE := by
  rintro pins s σ H x y v u Q I rx ry ⟨c, a, b, z, rfl, k, Da, Db, e, P⟩
  unfold isE at e
  split at e
  · split at e
    · exact od_is pins s σ _ _ _ v u Q I rx ry ⟨c, _, _, z, rfl, k, Da, Db, e, P⟩
    · cases e; cases Db; cases Da; cases rx; cases ry
      exact PySem.wpAny_is_other rfl (fun q => by cases q) ⟨.bl false, c.H, I, rfl, P.here k (.bl _)⟩
    · cases e; cases Db; cases Da; cases ry
      obtain ⟨t, rfl⟩ := rx
      exact PySem.wpAny_is_other rfl (fun q => by cases q) ⟨.bl false, c.H, I, rfl, P.here k (.bl _)⟩
    · cases e; cases Db; cases Da; cases ry
      obtain ⟨t, rfl⟩ := rx
      exact PySem.wpAny_is_other rfl (fun q => by cases q) ⟨.bl false, c.H, I, rfl, P.here k (.bl _)⟩
    · cases e
  · exact od_is pins s σ _ _ _ v u Q I rx ry ⟨c, _, _, z, rfl, k, Da, Db, e, P⟩
section
variable {X : Cx} {f g : EvF}
theorem mt_din {pos : Pos} {ek ed : Expr} (hr : X.A.units + 1 < cLine) (hk : ME X ek g) (hd : ME X ed f) (hm : behindInMarks .In ed = false := by rfl) : MT X (.Compare ek [.In] [ed] pos) (mTv (mDIn g f)) := by
  have go : ∀ σ H Q, tM X.K X.mg (mDIn g f) σ H Q → tDIn (tM X.K X.mg g) (tM X.K X.mg f) σ H Q := by
    rintro σ H Q ⟨c, ρ, d, S', ⟨rfl, k, en⟩, q, p⟩
    obtain ⟨⟨y, S1⟩, h1, q⟩ := bd q
    obtain ⟨⟨x, S2⟩, h2, q⟩ := bd q
    obtain ⟨kvs, h3, q⟩ := bd q
    obtain ⟨kk, h4, q⟩ := mp q
    cases q
    refine ⟨c, ρ, y, S1, .of k en, h1, fun v c1 l1 k1 e1 D1 => ⟨c1, ρ, x, S2, .of k1 (en.mono l1), by rw [e1]; exact h2, fun u c2 l2 k2 e2 D2 => ?_⟩⟩
    subst e2
    obtain ⟨pp, vs, rfl, hv, t⟩ := dct_go k2 D2 h3
    have a := den_gv (k := kk) t
    have ky := key_go D1 h4
    subst ky
    refine ⟨pp, valV vs kk, rfl, .k hv, ?_⟩
    have : (valV vs kk).isSome = (gv kvs kk).isSome := by
      cases eg : gv kvs kk with
      | none => rw [eg] at a; rw [a]; rfl
      | some w => rw [eg] at a; obtain ⟨wv, g1, _⟩ := a; rw [g1]; rfl
    rw [this]
    exact p.mono (l1.trans l2) |>.here k2 (.bl _)
  exact mt_of (pt_cmp (pc_din hr hk hd) hm) go
end
end M

namespace M
open PySem PySem.Spec L2 W2 RZ
theorem FnG.imp {P : Program} {w : World} {K : PySem.W.Frag} {mg : Str → Option Value} {base : Heap} {k : Nat} {f : Addr} {fd : FuncData} {ps : List Str} {sp sp' : Sp} (F : FnG P w K mg base k f fd ps sp)
    (h : ∀ vs H Q E, sp' vs H Q E → sp vs H Q E0) : FnG P w K mg base k f fd ps sp' :=
  ⟨fun vs H Q E q => F.len vs H Q E0 (h _ _ _ _ q), fun A o s H ar us vs Q E hr he hb hv hs => codeAny_mono (F.run A o s H ar us vs Q E0 hr he hb hv (h _ _ _ _ hs)) fun r s' q => by
    match r, q with
    | .ok (.ret _), q => exact q
    | .error e, q =>
      obtain ⟨_, _, _, _, _, _, _, _, _, _, _, _, z⟩ := q
      exact (show False from z).elim⟩
/-- the promise that the law's own call rests on -/
def spEnd (K : PySem.W.Frag) : Sp := fun vs H Q _ => ∃ (a : Addr) (ns : List Int), vs = [.ref a] ∧ SqL K H a (ns.map V.int) ∧ ns.length ≤ 63 ∧ ∀ H', Q (.bl true) H'
theorem end_sp {K : PySem.W.Frag} {mg : Str → Option Value} {F : Fn} (hF : ∀ ns : List Int, ns.length ≤ 63 → ∃ S', F [.seq (ns.map .int)] [] = some (.bl true, S')) {vs : List V} {H : Hp} {Q : VK} {E : XK} (h : spEnd K vs H Q E) : spM K mg 1 F vs H Q E0 := by
  obtain ⟨a, ns, rfl, hS, hl, q⟩ := h
  obtain ⟨S', hF⟩ := hF ns hl
  have none0 : ∀ j : Nat, ¬ j < ([] : Sto).length := fun j => Nat.not_lt_zero j
  have nB : ¬ (Cfg.mk (fun _ => 0) [] (fun _ => False) H).B a := fun q => q.elim (fun ⟨j, h, _⟩ => none0 j h) id
  refine ⟨rfl, ⟨fun _ => 0, [], fun _ => False, H⟩, [.seq (ns.map .int)], .bl true, S', rfl, ⟨fun j xs h => by simp at h, fun i j h => absurd h (none0 i), fun a h => h.elim⟩, .cons (.seq (xs := ns.map V.int) ?_ ?_) .nil, hF, fun v c' l k e D1 => by cases D1; exact q _⟩
  · rcases hS with h | h
    · exact .inl ⟨nB, h⟩
    · exact .inr (.inr h)
  · clear hS hF nB hl
    induction ns with
    | nil => exact .nil
    | cons n ns ih => exact .cons (.int n) ih
theorem walk_end {l : PySem.W.OpenLaw} {k : Nat} {q : Program} {loose : List Str} {XP : (Str → Option Value) → Heap → Prop} {YP : World → Heap → Prop} {d : DefRec} {K : Params → PySem.W.Frag} {x : Str} {F : Fn}
    (hn : l.most = some 63) (hq : PyProof.Rows.importsNone q = true) (hdf : d.params.defaults = []) (hr : Room k callerA) (hY : ∀ (w : World) (h : Heap), YP w h → (K w.params).In h)
    (hF : ∀ ns : List Int, ns.length ≤ 63 → ∃ S', F [.seq (ns.map .int)] [] = some (.bl true, S'))
    (Z : ∀ (w : World) (mg : Str → Option Value) (fa : Addr) (h : Heap), (K w.params).In h → h.Ns mainGlobals mg → mg d.name = some (.ref fa) →
      ∃ fd : FuncData, (∀ (s : Shared) (u : Value), BindsTo s fd ⟨[u], []⟩ [(x, u)]) ∧ ∀ base : Heap, (K w.params).In base → base.Ns mainGlobals mg → (∃ mm, base.Ns sysModules mm) → FnG l.prog w (K w.params) mg base k fa fd [x] (spM (K w.params) mg 1 F)) :
    PySem.W.WalkO q loose XP YP l.row.toRowW d [] (fun f vs => PySem.call f vs) := by
  refine walk_G (n := 63) (k := k) (x := x) (sp := fun w => spEnd (K w.params)) hn hq (by decide) hdf hr hY (fun w mg fa h a b c => ?_) fun w H a ns hl ho hS => ⟨a, ns, rfl, hS, hl, fun _ => rfl⟩
  obtain ⟨fd, hb, G⟩ := Z w mg fa h a b c
  exact ⟨fd, hb, fun base x1 x2 x3 => FnG.imp (G base x1 x2 x3) fun vs H Q E q => end_sp hF q⟩
end M

namespace M
open PySem L2
section
variable {a b c d e f g h : D} {xs : List D}
theorem at0 : atI (a :: xs) 0 = some a := atI_nat (j := 0) rfl
theorem at1 : atI (a :: b :: xs) 1 = some b := atI_nat (j := 1) rfl
theorem at2 : atI (a :: b :: c :: xs) 2 = some c := atI_nat (j := 2) rfl
theorem at3 : atI (a :: b :: c :: d :: xs) 3 = some d := atI_nat (j := 3) rfl
theorem at4 : atI (a :: b :: c :: d :: e :: xs) 4 = some e := atI_nat (j := 4) rfl
theorem at5 : atI (a :: b :: c :: d :: e :: f :: xs) 5 = some f := atI_nat (j := 5) rfl
theorem at6 : atI (a :: b :: c :: d :: e :: f :: g :: xs) 6 = some g := atI_nat (j := 6) rfl
theorem at7 : atI (a :: b :: c :: d :: e :: f :: g :: h :: xs) 7 = some h := atI_nat (j := 7) rfl
end
def iI : D → Bool
  | .int _ => true
  | .bl _ => true
  | _ => false
def iB : D → Bool
  | .bl _ => true
  | _ => false
def iS : D → Bool
  | .str _ => true
  | _ => false
def iT : D → Bool
  | .tup _ => true
  | _ => false
def sg (c : Nat) : D := .str ⟨#[c]⟩
theorem mapL_filter {te : EvF} {tt : EtF} {j : Nat} {ρ : En} {S : Sto} {p : Nat → Bool} : ∀ cs : List Nat, (∀ c ∈ cs, tt (ρ.set j (some (sg c))) S = some (p c, S) ∧ te (ρ.set j (some (sg c))) S = some (sg c, S)) →
    mapL te tt j ρ (cs.map sg) S = some ((cs.filter p).map sg, S)
  | [], _ => rfl
  | c :: cs, hh => by
    obtain ⟨h1, h2⟩ := hh c List.mem_cons_self
    have ih := mapL_filter cs fun x hx => hh x (List.mem_cons_of_mem _ hx)
    rw [List.map_cons]
    unfold mapL
    rw [h1]
    show (if p c = true then _ else _) = _
    cases e : p c with
    | true =>
      rw [if_pos rfl, h2]
      show Option.map _ (mapL te tt j ρ (cs.map sg) S) = _
      rw [ih, List.filter_cons, e]
      rfl
    | false =>
      rw [if_neg (by simp), List.filter_cons, e]
      exact ih
theorem toPA_sg : ∀ cs : List Nat, toPA (cs.map sg) = some (cs.map fun c => PyData.str ⟨#[c]⟩)
  | [] => by rw [List.map_nil, toPA]; rfl
  | c :: cs => by
    rw [List.map_cons, toPA, toPA_sg cs]
    show (toP (.str ⟨#[c]⟩)).bind _ = _
    rw [toP]
    rfl
theorem lay_sg : ∀ {cs : List Nat}, (∀ c ∈ cs, c < 1114112) → PyData.canLayAll0 (cs.map fun c => PyData.str ⟨#[c]⟩) = true ∧ PyData.depthAll (cs.map fun c => PyData.str ⟨#[c]⟩) = 0
  | [], _ => ⟨by rw [List.map_nil, PyData.canLayAll0], by rw [List.map_nil, PyData.depthAll]⟩
  | c :: cs, h => by
    obtain ⟨h1, h2⟩ := lay_sg fun x hx => h x (List.mem_cons_of_mem _ hx)
    have hc := h c List.mem_cons_self
    refine ⟨?_, ?_⟩
    · rw [List.map_cons, PyData.canLayAll0, h1, PyData.canLay0]
      simp [PyData.strOk, hc]
    · rw [List.map_cons, PyData.depthAll, h2, PyData.depth] <;> simp
theorem eq_nil {cs : List Nat} (h : ∀ c ∈ cs, c < 1114112) : eqD (.lst (cs.map sg)) (.lst []) = some (.bl cs.isEmpty) := by
  show eqD0 _ _ = _
  unfold eqD0
  rw [toP, toPA_sg, toP, toPA]
  obtain ⟨h1, h2⟩ := lay_sg h
  have s1 : SeqAt.shaped (.list (cs.map fun c => PyData.str ⟨#[c]⟩)) = true := by
    unfold SeqAt.shaped
    rw [PyData.canLay0, h1, PyData.depth, h2]
    rfl
  have s2 : SeqAt.shaped (.list []) = true := by decide +kernel
  show (if SeqAt.shaped (.list _) = true ∧ SeqAt.shaped (.list []) = true then some (D.bl (PyData.eqv (.list _) (.list []))) else none) = _
  rw [if_pos ⟨s1, s2⟩]
  cases cs with
  | nil => rw [List.map_nil, PyData.eqv, PyData.eqvAll]; rfl
  | cons c cs => rw [List.map_cons, PyData.eqv, PyData.eqvAll]; rfl
theorem e_ninS {x y : Str} : ninD (.str x) (.str y) = if x.cps.size = 1 then some (.bl (!decide (x.cps.getD 0 0 ∈ y.cps.toList))) else none := by
  unfold ninD
  show (match (if x.cps.size = 1 then some (D.bl (decide (x.cps.getD 0 0 ∈ y.cps.toList))) else none) with | some (.bl x) => some (D.bl (!x)) | _ => none) = _
  split <;> rename_i h <;> split at h <;> simp_all
theorem filter_empty {p : Nat → Bool} {cs : List Nat} : (cs.filter p).isEmpty = cs.all fun c => !p c := by
  induction cs with
  | nil => rfl
  | cons c cs ih =>
    rw [List.filter_cons, List.all_cons, ← ih]
    cases p c <;> simp
end M

namespace M
open PySem L2
theorem atI_mem {α : Type} {xs : List α} {r : Int} (h0 : 0 ≤ r) (h1 : r < xs.length) : ∃ d, atI xs r = some d ∧ d ∈ xs := by
  obtain ⟨n, rfl⟩ := Int.eq_ofNat_of_zero_le h0
  have hn : n < xs.length := by omega
  exact ⟨xs[n], atI_nat (List.getElem?_eq_getElem hn), List.getElem_mem hn⟩
theorem wp_at {α : Type} {xs : List α} {r : Int} {Q : α → Prop} (h0 : 0 ≤ r) (h1 : r < xs.length) (h : ∀ d ∈ xs, Q d) : wp (atI xs r) Q := by
  obtain ⟨d, e, m⟩ := atI_mem h0 h1
  exact ⟨d, e, h d m⟩
theorem app_list (a b : Str) : (a ++ b).cps.toList = a.cps.toList ++ b.cps.toList := by
  show (a.cps ++ b.cps).toList = _
  simp
theorem join_empty : ∀ ys : List Str, (Txt.join ("" : Str) ys).cps.toList = (ys.map fun y => y.cps.toList).flatten := by
  intro ys
  rw [show Txt.join ("" : Str) ys = Str.join ("" : Str) ys from TL.join_eq _ _]
  induction ys with
  | nil => rfl
  | cons x r ih =>
    cases r with
    | nil => simp [Str.join]
    | cons z r =>
      show (x ++ ("" : Str) ++ Str.join ("" : Str) (z :: r)).cps.toList = _
      rw [app_list, app_list, ih]
      have : ("" : Str).cps.toList = [] := by decide +kernel
      rw [this]
      simp
theorem strsOf_map : ∀ cs : List Nat, strsOf (cs.map sg) = some (cs.map fun c => (⟨#[c]⟩ : Str))
  | [] => rfl
  | c :: cs => by
    show (strsOf (cs.map sg)).map _ = _
    rw [strsOf_map cs]
    rfl
theorem join_sg (cs : List Nat) : (Txt.join ("" : Str) (cs.map fun c => (⟨#[c]⟩ : Str))).cps.toList = cs := by
  rw [join_empty, List.map_map]
  induction cs with
  | nil => rfl
  | cons c cs ih =>
    rw [List.map_cons, List.flatten_cons, ih]
    rfl
theorem e_join {S : Sto} {cs : List Nat} (h : cs.length ≤ 1000000) : ∃ x, joinD S (.str "") (.lst (cs.map sg)) = some (.str x) ∧ x.cps.toList = cs := by
  refine ⟨Txt.join ("" : Str) (cs.map fun c => (⟨#[c]⟩ : Str)), ?_, join_sg cs⟩
  show (strsOf (cs.map sg)).bind _ = _
  rw [strsOf_map]
  have e : ((cs.map fun c => (⟨#[c]⟩ : Str)).map (·.length)).sum = cs.length := by
    rw [List.map_map]
    clear h
    induction cs with
    | nil => rfl
    | cons c cs ih =>
      rw [List.map_cons, List.sum_cons, ih]
      show 1 + cs.length = cs.length + 1
      omega
  have e2 : ("" : Str).length = 0 := by decide +kernel
  show (if _ then _ else _) = _
  rw [if_pos]
  rw [e, e2]
  omega
theorem foldl_app_list : ∀ (l : List (Array Nat)) (a : Array Nat), (l.foldl (· ++ ·) a).toList = a.toList ++ (l.map (·.toList)).flatten
  | [], a => by simp
  | x :: l, a => by
    rw [List.foldl_cons, foldl_app_list l]
    simp
theorem smul_list (x : Str) (n : Nat) : (smul x n).cps.toList = (List.replicate n x.cps.toList).flatten := by
  show ((List.replicate n x.cps).foldl (· ++ ·) #[]).toList = _
  rw [foldl_app_list]
  simp [List.map_replicate]
theorem len_list (x : Str) : x.length = x.cps.toList.length := by simp [Str.length]
theorem e_mulS {a : Str} {b : Int} (h1 : 1 ≤ b) (h2 : b ≤ 1000000) (h3 : a.length * b.toNat ≤ 1000000) : ∃ x, mulD (.str a) (.int b) = some (.str x) ∧ x.cps.toList = (List.replicate b.toNat a.cps.toList).flatten := by
  have e : mulD (.str a) (.int b) = if 1 ≤ b ∧ b ≤ 1000000 ∧ a.length * b.toNat ≤ 1000000 then some (.str (if b = 1 ∨ a.length = 0 then a else smul a b.toNat)) else if b ≤ 0 ∧ -1000000 ≤ b then some (.str Str.empty) else none := rfl
  rw [e, if_pos ⟨h1, h2, h3⟩]
  refine ⟨_, rfl, ?_⟩
  by_cases z : b = 1 ∨ a.length = 0
  · rw [if_pos z]
    rcases z with z | z
    · rw [z]; simp
    · have : a.cps.toList = [] := by
        rw [len_list] at z
        exact List.length_eq_zero_iff.mp z
      rw [this]
      simp
  · rw [if_neg z, smul_list]
theorem flat_all {p : Nat → Bool} {l : List Nat} (n : Nat) (h : l.all p = true) : (List.replicate n l).flatten.all p = true := by
  induction n with
  | zero => rfl
  | succ n ih => rw [List.replicate_succ, List.flatten_cons, List.all_append, h, ih]; rfl
theorem flat_len {l : List Nat} (n : Nat) : (List.replicate n l).flatten.length = n * l.length := by
  induction n with
  | zero => simp
  | succ n ih => rw [List.replicate_succ, List.flatten_cons, List.length_append, ih, Nat.add_mul]; omega
theorem okS_of {x : Str} (h : x.cps.toList.all sgn = true) : okS x = true := by
  unfold okS
  rw [List.all_eq_true] at h ⊢
  intro c hc
  have := h c hc
  unfold sgn at this
  simp at this ⊢
  omega
end M

namespace M
open PySem L2
section
variable {ρ : En} {S : Sto} {Q : D × Sto → Prop} {B : Bool × Sto → Prop} {O : Out × Sto → Prop} {f g h : EvF} {t : EtF} {fa : EaF} {s1 s2 : StF}
theorem w_app : wp (mApp f g ρ S) Q ↔ wp (f ρ S) fun x => wp (match x.1 with
  | .ref j => (stLst x.2 j).bind fun _ => (g ρ x.2).bind fun y => (stLst y.2 j).bind fun xs => if xs.length < 100000 then some (.non, y.2.set j (.lst (xs ++ [y.1]))) else none
  | _ => none) Q := by unfold mApp; rw [wp_bind] <;> exact Iff.rfl
theorem w_ext : wp (mExt f g ρ S) Q ↔ wp (f ρ S) fun x => wp (match x.1 with
  | .ref j => (stLst x.2 j).bind fun _ => (g ρ x.2).bind fun y => match y.1 with
    | .lst zs => (stLst y.2 j).bind fun xs => if xs.length + zs.length < 100000 then some (.non, y.2.set j (.lst (xs ++ zs))) else none
    | _ => none
  | _ => none) Q := by unfold mExt; rw [wp_bind] <;> exact Iff.rfl
theorem w_pop : wp (mPop f ρ S) Q ↔ wp (f ρ S) fun x => wp (match x.1 with
  | .ref j => (stLst x.2 j).bind fun xs => (xs[xs.length - 1]?).map fun d => (d, x.2.set j (.lst xs.dropLast))
  | _ => none) Q := by unfold mPop; rw [wp_bind] <;> exact Iff.rfl
theorem w_tr : wp (mTr f ρ S) B ↔ wp (f ρ S) fun x => wp (truD x.2 x.1) fun b => B (b, x.2) := by unfold mTr; simp only [wp_bind, wp_map]
theorem w_newc {op : CbF} : wp (mNewC op fa ρ S) Q ↔ wp (fa ρ S) fun x => wp (op x.2 x.1) fun z => wp (match z with
  | .lst ds => some (.ref x.2.length, x.2 ++ [.lst ds])
  | _ => none) Q := by unfold mNewC; simp only [wp_bind] <;> exact Iff.rfl
theorem w_s1 {k : Str → Str → Str} : wp (mS1 k f h ρ S) Q ↔ wp (f ρ S) fun x => wp (match x.1 with
  | .str a => (h ρ x.2).bind fun y => match y.1 with
    | .str b => if a.length ≤ 1000000 then some (.str (k a b), y.2) else none
    | _ => none
  | _ => none) Q := by unfold mS1; rw [wp_bind] <;> exact Iff.rfl
theorem w_repl {y z : Str} : wp (mRepl y z f ρ S) Q ↔ wp (f ρ S) fun x => wp (match x.1 with
  | .str a => if a.length + (a.length + 1) * z.length ≤ 16777216 then some (.str (Txt.replace a y z), x.2) else none
  | _ => none) Q := by unfold mRepl; rw [wp_bind] <;> exact Iff.rfl
theorem w_mu {op : D → Option D} : wp (mU op f ρ S) Q ↔ wp (f ρ S) fun x => wp (op x.1) fun z => Q (z, x.2) := by unfold mU; simp only [wp_bind, wp_map]
theorem w_addn : wp (mAddN f g ρ S) Q ↔ wp (f ρ S) fun x => wp (g ρ x.2) fun y => wp (match x.1, y.1 with
  | .lst a, .lst b => if a.length + b.length ≤ 100000 then some (.ref y.2.length, y.2 ++ [.lst (a ++ b)]) else none
  | _, _ => none) Q := by unfold mAddN; simp only [wp_bind] <;> exact Iff.rfl
theorem w_dget : wp (mDGet f g ρ S) Q ↔ wp (f ρ S) fun x => wp (g ρ x.2) fun y => wp (dctOf y.2 x.1) fun kvs => wp (keyOf y.1) fun k => wp (gv kvs k) fun d => Q (d, y.2) := by unfold mDGet; simp only [wp_bind, wp_map]
theorem w_din : wp (mDIn g f ρ S) Q ↔ wp (g ρ S) fun y => wp (f ρ y.2) fun x => wp (dctOf x.2 x.1) fun kvs => wp (keyOf y.1) fun k => Q (.bl (gv kvs k).isSome, x.2) := by unfold mDIn; simp only [wp_bind, wp_map]
theorem w_dget2 : wp (mDGet2 f g h ρ S) Q ↔ wp (f ρ S) fun x => wp (dctOf x.2 x.1) fun _ => wp (g ρ x.2) fun y => wp (h ρ y.2) fun z => wp (dctOf z.2 x.1) fun kvs => wp (keyOf y.1) fun k => Q ((gv kvs k).getD z.1, z.2) := by unfold mDGet2; simp only [wp_bind, wp_map]
theorem w_dictn : wp (mDictN fa ρ S) Q ↔ wp (fa ρ S) fun x => wp (dictP x.2 x.1) fun z => wp (match z with
  | .dct kvs => some (.ref x.2.length, x.2 ++ [.dct kvs])
  | _ => none) Q := by unfold mDictN; simp only [wp_bind] <;> exact Iff.rfl
theorem w_asgs {g : TgSF} : wp (mAsgS f g ρ S) O ↔ wp (f ρ S) fun x => wp (g ρ x.2 x.1) fun r => O (.nx r.1, r.2) := by unfold mAsgS; simp only [wp_bind, wp_map]
theorem w_attr {cns : List Str} {n : Str} : wp (mAttr cns n f ρ S) Q ↔ wp (f ρ S) fun x => wp (match x.1 with
  | .err cn fs => if cn ∈ cns then (fs.lookup n).map fun d => (d, x.2) else none
  | _ => none) Q := by unfold mAttr; rw [wp_bind] <;> exact Iff.rfl
/-! ### what may raise -/
section
variable {α β : Type} {W : RX β × Sto → Prop} {V : RX α × Sto → Prop} {P : OX × Sto → Prop} {g1 g2 : SxF} {fx fy : RxF D} {ax : RxF (List D)} {tx : RxF Bool}
theorem w_xo {u : En → Sto → Option (α × Sto)} : wp (xo u ρ S) V ↔ wp (u ρ S) fun x => V (.ok x.1, x.2) := by unfold xo; simp only [wp_map]
theorem w_lx : wp (lx s1 ρ S) P ↔ wp (s1 ρ S) fun x => P (outX x.1, x.2) := by unfold lx; simp only [wp_map]
theorem w_bx {o : Option (RX α × Sto)} {k : α → Sto → Option (RX β × Sto)} : wp (bx o k) W ↔ wp o fun x => wp (match x.1 with
  | .ok a => k a x.2
  | .ex cn fs => some (.ex cn fs, x.2)) W := by unfold bx; rw [wp_bind] <;> exact Iff.rfl
theorem w_sxr {o : Option (RX α × Sto)} {k : α → Sto → Option (OX × Sto)} : wp (sxR ρ o k) P ↔ wp o fun x => wp (match x.1 with
  | .ok a => k a x.2
  | .ex cn fs => some (.ex cn fs ρ, x.2)) P := by unfold sxR; rw [wp_bind] <;> exact Iff.rfl
theorem w_xdef {n : Nat} {ds : List D} {W : RX D × Sto → Prop} : wp (mxDef n g1 ds S) W ↔ wp (g1 (ds.map some ++ List.replicate (n - ds.length) none) S) fun x => wp (match x.1 with
  | .rt d => some (.ok d, x.2)
  | .nx _ => some (.ok .non, x.2)
  | .ex cn fs _ => some (.ex cn fs, x.2)
  | _ => none) W := by unfold mxDef; simp only [wp_bind] <;> exact Iff.rfl
theorem w_xseq : wp (mxSeq g1 g2 ρ S) P ↔ wp (g1 ρ S) fun x => wp (match x.1 with | .nx r => g2 r x.2 | o => some (o, x.2)) P := by unfold mxSeq; simp only [wp_bind] <;> exact Iff.rfl
theorem w_xraise {cn n : Str} : wp (mxRaise cn n f ρ S) P ↔ wp (f ρ S) fun x => P (.ex cn [(n, x.1)] ρ, x.2) := by unfold mxRaise; simp only [wp_map]
theorem w_xtry {hs : List HdM} : wp (mxTry g1 hs ρ S) P ↔ wp (g1 ρ S) fun x => wp (match x.1 with
  | .ex cn fs r => handle hs cn fs r x.2
  | o => some (o, x.2)) P := by unfold mxTry; simp only [wp_bind] <;> exact Iff.rfl
theorem w_qus : wp (quS g1 ρ S) O ↔ wp (g1 ρ S) fun x => wp (match x.1 with
  | .nx ρ => some (.nx ρ, x.2)
  | .rt d => some (.rt d, x.2)
  | .bk ρ => some (.bk ρ, x.2)
  | .ct ρ => some (.ct ρ, x.2)
  | .ex _ _ _ => none) O := by unfold quS; simp only [wp_bind] <;> exact Iff.rfl
theorem w_okf {F : FnR} {ds : List D} : wp (okF F ds S) Q ↔ wp (F ds S) fun x => wp (match x.1 with
  | .ok d => some (d, x.2)
  | _ => none) Q := by unfold okF; simp only [wp_bind] <;> exact Iff.rfl
theorem w_xkw {F : FnR} {W : RX D × Sto → Prop} : wp (mxKw F f ρ S) W ↔ wp (f ρ S) fun x => wp (F [x.1] x.2) W := by unfold mxKw; simp only [wp_bind] <;> exact Iff.rfl
end
/-- a while by an invariant and a measure -/
theorem wp_whl {t : EtF} {g : StF} {O : Out × Sto → Prop} (W : Nat → En → Sto → Prop)
    (hs : ∀ m ρ S, W m ρ S → wp (t ρ S) fun b => if b.1 = true then 0 < m ∧ wp (g ρ b.2) fun x => match x.1 with
      | .nx r => ∃ m', m' < m ∧ W m' r x.2
      | .ct r => ∃ m', m' < m ∧ W m' r x.2
      | .bk r => O (.nx r, x.2)
      | .rt v => O (.rt v, x.2) else O (.nx ρ, b.2)) : ∀ (n m : Nat) (ρ : En) (S : Sto), m < n → W m ρ S → wp (whl t g n ρ S) O
  | 0, m, ρ, S, l, w => absurd l (Nat.not_lt_zero m)
  | n + 1, m, ρ, S, l, w => by
    unfold whl
    rw [wp_bind]
    refine wp_mono (hs m ρ S w) fun b q => ?_
    rw [wp_ite]
    by_cases z : b.1 = true
    · rw [if_pos z] at q ⊢
      rw [wp_bind]
      refine wp_mono q.2 fun x q2 => ?_
      obtain ⟨x, S1⟩ := x
      cases x with
      | nx r =>
        obtain ⟨m', hm, w'⟩ := q2
        exact wp_whl W hs n m' r S1 (by omega) w'
      | ct r =>
        obtain ⟨m', hm, w'⟩ := q2
        exact wp_whl W hs n m' r S1 (by omega) w'
      | bk r => exact wp_some.mpr q2
      | rt v => exact wp_some.mpr q2
    · rw [if_neg z] at q ⊢
      exact wp_some.mpr q
theorem stLst_of {S : Sto} {j : Nat} {xs : List D} (h : S[j]? = some (.lst xs)) : stLst S j = some xs := by unfold stLst; rw [h]
end
end M

namespace M
open PySem PySem.Spec L2 W2 RZ

/-! ### a statement that is never reached -/
def mNone : StF := fun _ _ => none
theorem ms_none {X : Cx} {st : Stmt} : MS X st mNone := ⟨fun pins s σ H D I q => by
  obtain ⟨c, ρ, o, S', _, q, _⟩ := q
  cases q⟩

/-! ### lists, also of the store -/
def lsOf (S : Sto) : D → Option (List D)
  | .lst xs => some xs
  | .ref j => stLst S j
  | _ => none
def sqOf (S : Sto) : D → Option (List D)
  | .lst xs => some xs
  | .tup xs => some xs
  | .ref j => stLst S j
  | _ => none
theorem stLst_get {S : Sto} {j : Nat} {xs : List D} (h : stLst S j = some xs) : S[j]? = some (.lst xs) := by
  unfold stLst at h
  split at h
  · cases h; assumption
  · cases h
section
variable {K : PySem.W.Frag} {mg : Str → Option Value} {c : Cfg}
theorem den_ls (k : Ok K mg c) {v : V} {d : D} {xs : List D} (D1 : Den K mg c v d) (h : lsOf c.S d = some xs) : ∃ a vs, v = .ref a ∧ Rd c.H a (.lst vs) ∧ DenA K mg c vs xs := by
  cases d <;> try (cases h)
  · cases D1 with
    | lst s t => exact ⟨_, _, rfl, s.2, t⟩
  · rename_i j
    cases D1 with
    | ref hj =>
      obtain ⟨vs, hv, t⟩ := k.at_ _ _ (stLst_get h)
      exact ⟨_, _, rfl, .inl hv, t⟩
end

/-! ### what two values give, by the store -/
def r2S (K : PySem.W.Frag) (mg : Str → Option Value) (op : Sto → D → D → Option D) : R2 := fun x y H Q => ∃ c a b z, c.H = H ∧ Ok K mg c ∧ Den K mg c x a ∧ Den K mg c y b ∧ op c.S a b = some z ∧ Post K mg c c.S z Q
abbrev OpS (X : Cx) (fn : Value → Value → Sem Value) (op : Sto → D → D → Option D) : Prop := OpR X fn (r2S X.K X.mg op)
def mBinS (op : Sto → D → D → Option D) (f g : EvF) : EvF := fun ρ S => (f ρ S).bind fun x => (g ρ x.2).bind fun y => (op y.2 x.1 y.1).map fun z => (z, y.2)
section
variable {X : Cx} {a b : Expr} {f g : EvF} {pos : Pos} {op : Sto → D → D → Option D}
theorem opS_go {σ : L2.St} {H : Hp} {Q : VK} (q : tM X.K X.mg (mBinS op f g) σ H Q) : tOp (r2S X.K X.mg op) (tM X.K X.mg f) (tM X.K X.mg g) σ H Q := by
  obtain ⟨c, ρ, d, S', ⟨rfl, k, en⟩, q, p⟩ := q
  obtain ⟨x, h1, q⟩ := bd q
  obtain ⟨y, h2, q⟩ := bd q
  obtain ⟨z, h3, q⟩ := mp q
  cases q
  refine ⟨c, ρ, x.1, x.2, .of k en, h1, fun v c1 l1 k1 e1 D1 => ?_⟩
  refine ⟨c1, ρ, y.1, y.2, .of k1 (en.mono l1), by rw [e1]; exact h2, fun w c2 l2 k2 e2 D2 => ?_⟩
  exact ⟨c2, x.1, y.1, d, rfl, k2, D1.mono l2, D2, by rw [e2]; exact h3, by rw [e2]; exact p.mono (l1.trans l2)⟩
theorem me_binS {o : Operator} (ho : OpS X (binaryOp o) op) (ha : ME X a f) (hb : ME X b g) : ME X (.BinOp a o b pos) (mBinS op f g) :=
  pe_imp (pe_op ho ha hb) fun _ _ _ => opS_go
theorem me_cmpS {o : CmpOp} (ho : OpS X (compareOp o) op) (ha : ME X a f) (hb : ME X b g) (hm : behindInMarks o b = false) : ME X (.Compare a [o] [b] pos) (mBinS op f g) :=
  pe_imp (pe_cmpR ho ha hb hm) fun _ _ _ => opS_go
theorem mt_cmpS {o : CmpOp} (ho : OpS X (compareOp o) op) (ha : ME X a f) (hb : ME X b g) (hm : behindInMarks o b = false) : MT X (.Compare a [o] [b] pos) (mTv (mBinS op f g)) :=
  mt_of (pt_cmpR ho ha hb hm) fun _ _ _ => opS_go
end
/-- + of lists, one of which may be a thing of the store -/
def addS (S : Sto) (a b : D) : Option D := (lsOf S a).bind fun xs => (lsOf S b).bind fun ys => if xs.length + ys.length ≤ 100000 then some (.lst (xs ++ ys)) else none
theorem od_addS {X : Cx} : OpS X (binaryOp .Add) addS := by
  rintro pins s σ H x y v u Q I rx ry ⟨c, a, b, z, rfl, k, Da, Db, e, P⟩
  unfold addS at e
  obtain ⟨i, h1, e⟩ := bd e
  obtain ⟨j, h2, e⟩ := bd e
  by_cases l : i.length + j.length ≤ 100000
  · rw [if_pos l] at e; cases e
    obtain ⟨p1, vs1, rfl, s1, t1⟩ := den_ls k Da h1
    obtain ⟨p2, vs2, rfl, s2, t2⟩ := den_ls k Db h2
    obtain ⟨z1, its, n, r, g⟩ := s1.ok I.hok
    obtain ⟨z2, its2, n2, r2, g2⟩ := s2.ok I.hok
    cases rx
    cases ry
    have q1 := r.length
    have q2 := r2.length
    have q3 := t1.length
    have q4 := t2.length
    refine PySem.P.add_list g g2 ?_ (by rw [List.size_toArray, List.size_toArray, sizeLine_eq]; omega)
    rw [show its.toArray ++ its2.toArray = (its ++ its2).toArray by simp]
    exact ⟨.ref _, _, I.lnew (t' := s.toks) (r.append r2) (by rw [List.length_append, sizeLine_eq]; omega), rfl, post_lst P k (t1.app t2) _ I.fresh⟩
  · rw [if_neg l] at e; cases e

/-! ### equality that looks into the store -/
mutual
def toPS (S : Sto) : D → Option PyData
  | .non => some .none
  | .bl b => some (.bool b)
  | .int i => some (.int i)
  | .str x => some (.str x)
  | .lst ds => (toPSA S ds).map .list
  | .tup ds => (toPSA S ds).map .tuple
  | .ref j => (stLst S j).bind fun ds => (toPA ds).map .list
  | .dct _ => none
  | .fn _ => none
  | .ty _ => none
  | .seq _ => none
  | .cls _ => none
  | .err _ _ => none
def toPSA (S : Sto) : List D → Option (List PyData)
  | [] => some []
  | d :: ds => (toPS S d).bind fun x => (toPSA S ds).map fun r => x :: r
end
section
variable {X : Cx}
mutual
theorem den_dpS {K : PySem.W.Frag} {mg : Str → Option Value} {c : Cfg} (k : Ok K mg c) : ∀ {d : D} {v : V} {x : PyData}, Den K mg c v d → toPS c.S d = some x → Dp K c.H v x
  | .non, _, _, h, e => by cases h; rw [toPS] at e; cases e; exact .non
  | .bl b, _, _, h, e => by cases h; rw [toPS] at e; cases e; exact .bl b
  | .int b, _, _, h, e => by cases h; rw [toPS] at e; cases e; exact .int b
  | .str b, _, _, h, e => by cases h; rw [toPS] at e; cases e; exact .str b
  | .lst ds, _, _, h, e => by
    cases h with
    | lst s t =>
      rw [toPS] at e
      obtain ⟨xs, e1, rfl⟩ := mp e
      exact .lst s.get (den_dpSA k t e1)
  | .tup ds, _, _, h, e => by
    cases h with
    | tup s t =>
      rw [toPS] at e
      obtain ⟨xs, e1, rfl⟩ := mp e
      exact .tup s.get (den_dpSA k t e1)
  | .ref j, _, _, h, e => by
    rw [toPS] at e
    obtain ⟨ds, e0, e⟩ := bd e
    obtain ⟨xs, e1, rfl⟩ := mp e
    cases h with
    | ref hj =>
      obtain ⟨vs, hv, t⟩ := k.at_ _ _ (stLst_get e0)
      exact .lst (.inl (.inl hv)) (den_dpA t e1)
  | .dct _, _, _, _, e => by rw [toPS] at e; cases e
  | .fn _, _, _, _, e => by rw [toPS] at e; cases e
  | .ty _, _, _, _, e => by rw [toPS] at e; cases e
  | .seq _, _, _, _, e => by rw [toPS] at e; cases e
  | .cls _, _, _, _, e => by rw [toPS] at e; cases e
  | .err _ _, _, _, _, e => by rw [toPS] at e; cases e
theorem den_dpSA {K : PySem.W.Frag} {mg : Str → Option Value} {c : Cfg} (k : Ok K mg c) : ∀ {ds : List D} {vs : List V} {xs : List PyData}, DenA K mg c vs ds → toPSA c.S ds = some xs → DpAll K c.H vs xs
  | [], _, _, h, e => by cases h; rw [toPSA] at e; cases e; exact .nil
  | d :: ds, _, _, h, e => by
    cases h with
    | cons a b =>
      rw [toPSA] at e
      obtain ⟨x, e1, e⟩ := bd e
      obtain ⟨xs, e2, rfl⟩ := mp e
      exact .cons (den_dpS k a e1) (den_dpSA k b e2)
end
def eqS (S : Sto) (a b : D) : Option D := (toPS S a).bind fun x => (toPS S b).bind fun y => if SeqAt.shaped x = true ∧ SeqAt.shaped y = true then some (.bl (PyData.eqv x y)) else none
def neS (S : Sto) (a b : D) : Option D := (toPS S a).bind fun x => (toPS S b).bind fun y => if SeqAt.shaped x = true ∧ SeqAt.shaped y = true then some (.bl (!PyData.eqv x y)) else none
theorem od_eqS (hr : Rg X.A) : OpS X (compareOp .Eq) eqS := by
  rintro pins s σ H x y v u Q I rx ry ⟨c, a, b, z, rfl, k, Da, Db, e, P⟩
  unfold eqS at e
  obtain ⟨p, h1, e⟩ := bd e
  obtain ⟨q, h2, e⟩ := bd e
  by_cases l : SeqAt.shaped p = true ∧ SeqAt.shaped q = true
  · rw [if_pos l] at e; cases e
    exact op_eqD hr.units pins s σ _ _ _ v u Q I rx ry ⟨_, _, den_dpS k Da h1, den_dpS k Db h2, l.1, l.2, P.here k (.bl _)⟩
  · rw [if_neg l] at e; cases e
theorem od_neS (hr : Rg X.A) : OpS X (compareOp .NotEq) neS := by
  rintro pins s σ H x y v u Q I rx ry ⟨c, a, b, z, rfl, k, Da, Db, e, P⟩
  unfold neS at e
  obtain ⟨p, h1, e⟩ := bd e
  obtain ⟨q, h2, e⟩ := bd e
  by_cases l : SeqAt.shaped p = true ∧ SeqAt.shaped q = true
  · rw [if_pos l] at e; cases e
    exact op_neD hr.units pins s σ _ _ _ v u Q I rx ry ⟨_, _, den_dpS k Da h1, den_dpS k Db h2, l.1, l.2, P.here k (.bl _)⟩
  · rw [if_neg l] at e; cases e
end

/-! ### isinstance with two classes -/
def tyN (S : Sto) : D → Option String
  | .non => some "NoneType"
  | .bl _ => some "bool"
  | .int _ => some "int"
  | .str _ => some "str"
  | .lst _ => some "list"
  | .tup _ => some "tuple"
  | .dct _ => some "dict"
  | .ref j => match S[j]? with
    | some (.lst _) => some "list"
    | some (.dct _) => some "dict"
    | _ => none
  | _ => none
def Seven (t : String) : Prop := t = "NoneType" ∨ t = "bool" ∨ t = "int" ∨ t = "str" ∨ t = "list" ∨ t = "tuple" ∨ t = "dict"
theorem den_tyN {K : PySem.W.Frag} {mg : Str → Option Value} {c : Cfg} {v : V} {d : D} {t : String} (k : Ok K mg c) (h : Den K mg c v d) (e : tyN c.S d = some t) : TyX K c.H v (.type t) ∧ Seven t := by
  cases d with
  | non => cases h; cases e; exact ⟨.base .non, by simp [Seven]⟩
  | bl x => cases h; cases e; exact ⟨.base (.bl x), by simp [Seven]⟩
  | int x => cases h; cases e; exact ⟨.base (.int x), by simp [Seven]⟩
  | str x => cases h; cases e; exact ⟨.base (.str x), by simp [Seven]⟩
  | lst x => cases e; cases h with | lst s u => exact ⟨tyx_lst s, by simp [Seven]⟩
  | tup x => cases e; cases h with | tup s u => exact ⟨tyx_tup s, by simp [Seven]⟩
  | dct x => cases e; cases h with | dct n s u => exact ⟨.base (.dK s), by simp [Seven]⟩
  | ref j =>
    cases h with
    | ref hj =>
      have e' : (match c.S[j]? with | some (.lst _) => some "list" | some (.dct _) => some "dict" | _ => none) = some t := e
      clear e
      split at e'
      · rename_i xs hS
        cases e'
        obtain ⟨vs, hv, _⟩ := k.at_ _ _ hS
        exact ⟨.base (.lst hv), by simp [Seven]⟩
      · rename_i xs hS
        cases e'
        obtain ⟨vs, hv, _⟩ := k.at_ _ _ hS
        exact ⟨.base (.dK hv), by simp [Seven]⟩
      · cases e'
  | fn x => cases e
  | ty x => cases e
  | seq x => cases e
  | cls x => cases e
  | err x y => cases e
theorem kit_lt {K : PySem.W.Frag} {t : String} (h : Seven t) : PySem.W.kitAny K (.type t) [.type "list", .type "tuple"] = some (t == "list" || t == "tuple") := by
  have go : ∀ p q, kitB t "list" = some p → kitB t "tuple" = some q → PySem.W.kitAny K (.type t) [.type "list", .type "tuple"] = some (p || q) := by
    intro p q h1 h2
    refine kitAny_cons (kit_ty h1) (fun hp => ?_) fun hp => by rw [hp]; rfl
    refine kitAny_cons (kit_ty h2) (fun hq => ?_) fun hq => by rw [hq, Bool.or_true]
    rw [hp, hq]
    exact kitAny_nil
  rcases h with rfl | rfl | rfl | rfl | rfl | rfl | rfl <;> exact go _ _ (by decide +kernel) (by decide +kernel)
def mIsLT (f : EvF) : EvF := fun ρ S => (f ρ S).bind fun x => (tyN x.2 x.1).map fun t => (.bl (t == "list" || t == "tuple"), x.2)
theorem me_isLT {X : Cx} {e : Expr} {f : EvF} {n : Nat} {p p1 p2 tp pos : Pos} (hg : Gl X "isinstance") (hm : X.mg "isinstance" = none) (hl : Gl X "list") (ml : X.mg "list" = none) (ht : Gl X "tuple") (mt : X.mg "tuple" = none) (he : ME X e f)
    (n1 : starEach [e, .Tuple [.Name "list" p1, .Name "tuple" p2] n tp] X.env = (false, eval e X.env) :: starEach [.Tuple [.Name "list" p1, .Name "tuple" p2] n tp] X.env := by rfl)
    (n2 : (backTo pos (starEach [.Tuple [.Name "list" p1, .Name "tuple" p2] n tp] X.env)).any (·.1) = false := by rfl) :
    ME X (.Call (.Name "isinstance" p) [e, .Tuple [.Name "list" p1, .Name "tuple" p2] n tp] [] pos) (mIsLT f) := by
  have b1 : PE X (.Name "list" p1) (tC (.ty "list")) := pe_bltn (v := .ty "list") (u := .type "list") hl ml (by decide +kernel) rfl (by decide) (by decide)
  have b2 : PE X (.Name "tuple" p2) (tC (.ty "tuple")) := pe_bltn (v := .ty "tuple") (u := .type "tuple") ht mt (by decide +kernel) rfl (by decide) (by decide)
  refine pe_imp (pe_callB call_isiT hg hm PyProof.Rows.boot_isinstance (pa_cons he (pa_cons (pe_tup (pa_cons b1 (pa_cons b2 pa_nil))) pa_nil) n1) (by decide) (by decide) n1 n2) ?_
  rintro σ H Q ⟨c, ρ, d, S', ⟨rfl, k, en⟩, q, P⟩
  obtain ⟨⟨x, S1⟩, h1, q⟩ := bd q
  obtain ⟨t, h2, q⟩ := mp q
  cases q
  refine ⟨c, ρ, x, S1, .of k en, h1, fun v c1 l1 k1 e1 D1 => ⟨by show 2 ≤ sizeLine; rw [sizeLine_eq]; omega, fun T hT => ?_⟩⟩
  have lw := lay_le (o := .tup [.ty "list", .ty "tuple"]) hT
  have k2 := lay_ok (o := .tup [.ty "list", .ty "tuple"]) k1 hT
  obtain ⟨ty, sv⟩ := den_tyN k2 (D1.mono lw) (show tyN c1.S x = some t by rw [e1]; exact h2)
  exact ⟨v, T, [.ty "list", .ty "tuple"], .type t, [.type "list", .type "tuple"], _, rfl, upd_same, .cons (.ty _) (.cons (.ty _) .nil), ty, kit_lt sv, P _ (c1.lay T (.tup [.ty "list", .ty "tuple"])) (l1.trans lw) k2 e1 (.bl _)⟩

/-! ### slices of what may lie in the store -/
def mSlR (f : EvF) (l h : EoF) : EvF := fun ρ S => (f ρ S).bind fun x => (l ρ x.2).bind fun y => (h ρ y.2).bind fun z => (lsOf z.2 x.1).map fun w => (.lst (cut w y.1 z.1), z.2)
theorem me_slR {X : Cx} {e : Expr} {f : EvF} {l h : EoF} (hx : PE X e (tSl (rSl3 X.K) (tM X.K X.mg f) (tO X.K X.mg l) (tO X.K X.mg h))) : ME X e (mSlR f l h) := pe_imp hx <| by
  rintro σ H Q ⟨c, ρ, d, S', ⟨rfl, k, en⟩, q, p⟩
  obtain ⟨⟨x, S1⟩, h1, q⟩ := bd q
  obtain ⟨⟨y, S2⟩, h2, q⟩ := bd q
  obtain ⟨⟨z, S3⟩, h3, q⟩ := bd q
  obtain ⟨w, h4, q⟩ := mp q
  cases q
  refine ⟨c, ρ, x, S1, .of k en, h1, fun v c1 l1 k1 e1 D1 => ⟨c1, ρ, y, S2, .of k1 (en.mono l1), by rw [e1]; exact h2, fun c2 l2 k2 e2 => ?_⟩⟩
  refine ⟨c2, ρ, z, S3, .of k2 (en.mono (l1.trans l2)), by rw [e2]; exact h3, fun c3 l3 k3 e3 => ?_⟩
  have P := p.mono ((l1.trans l2).trans l3)
  subst e3
  obtain ⟨a, vs, rfl, s, t⟩ := den_ls k3 (D1.mono (l2.trans l3)) h4
  exact .inl (.inl ⟨a, vs, rfl, .inl s, post_lst P k3 (den_cut t)⟩)

/-! ### zfill -/
def mZf (f h : EvF) : EvF := fun ρ S => (f ρ S).bind fun x => match x.1 with
  | .str a => (h ρ x.2).bind fun y => match y.1 with
    | .int i => if i ≤ 1000000 ∧ -1000000 ≤ i then some (.str (Txt.zfill a i), y.2) else none
    | _ => none
  | _ => none
theorem padOk {i : Int} (h : i ≤ 1000000 ∧ -1000000 ≤ i) : PadOk i = true := by
  unfold PadOk fitsSsize Builtin.Str.tooLong
  simp only [Bool.and_eq_true, Bool.not_eq_true', decide_eq_true_eq, Bool.or_eq_false_iff, decide_eq_false_iff_not, sizeLine_eq]
  omega
theorem me_zf {X : Cx} {e : Expr} {f h : EvF} (he : PE X e (tBM X.K "str" (fun x xs H Q => ∃ (a : Str) (i : Int), x = .str a ∧ xs = [.int i] ∧ PadOk i = true ∧ Q (.str (Txt.zfill a i)) H) (tM X.K X.mg f) (tAs X.K X.mg (mCons h mNil)))) : ME X e (mZf f h) := pe_imp he <| by
  rintro σ H Q ⟨c, ρ, d, S', ⟨rfl, k, en⟩, q, p⟩
  obtain ⟨⟨x, S1⟩, h1, q2⟩ := bd q
  clear q
  refine ⟨c, ρ, x, S1, .of k en, h1, fun v c1 l1 k1 e1 D1 => ?_⟩
  cases x <;> try (cases q2)
  rename_i a
  obtain ⟨⟨y, S2⟩, h2, q2⟩ := bd (show (h ρ S1).bind _ = some (d, S') from q2)
  cases y <;> try (cases q2)
  rename_i b
  have q3 : (if b ≤ 1000000 ∧ -1000000 ≤ b then some (D.str (Txt.zfill a b), S2) else none) = some (d, S') := q2
  by_cases z : b ≤ 1000000 ∧ -1000000 ≤ b
  · rw [if_pos z] at q3
    cases q3
    cases D1
    refine ⟨rfl, c1, ρ, _, _, .of k1 (en.mono l1), by rw [e1]; exact one_arg h2, fun vs c2 l2 k2 e2 D2 => ?_⟩
    obtain ⟨w, rfl, dw⟩ := da1 D2
    cases dw
    exact ⟨a, b, rfl, rfl, padOk z, p _ c2 (l1.trans l2) k2 e2 (.str _)⟩
  · rw [if_neg z] at q3; cases q3

/-! ### a walk over a list, a tuple or a thing of the store, which must stay while it is walked -/
def holdsG (g : Option Nat) (ds : List D) (S : Sto) : Prop := match g with
  | none => True
  | some j => S[j]? = some (.lst ds)
def EnumG (K : PySem.W.Frag) (mg : Str → Option Value) (c : Cfg) (J : It) (ds : List D) (g : Option Nat) : Prop := ∀ i c1, Lw c c1 → Ok K mg c1 → holdsG g ds c1.S →
  (∀ d, ds[i]? = some d → J.go i c1.H ∧ ∀ x H', J.yld i c1.H x H' → ∃ c2, c2.H = H' ∧ Le c1 c2 ∧ Ok K mg c2 ∧ c2.S = c1.S ∧ Den K mg c2 x d) ∧ (ds.length ≤ i → J.stop i c1.H)
abbrev SqF := En → Sto → Option ((List D × Option Nat) × Sto)
def tIG (K : PySem.W.Frag) (mg : Str → Option Value) (f : SqF) : TI := fun σ H R => ∃ c ρ ds g S', At K mg c ρ σ H ∧ f ρ c.S = some ((ds, g), S') ∧ ∀ J c1, Le c c1 → Ok K mg c1 → c1.S = S' → EnumG K mg c1 J ds g → R J c1.H
abbrev MIG (X : Cx) (tg it : Expr) (f : SqF) : Prop := PI X tg it (tIG X.K X.mg f)
def sQ (f : EvF) : SqF := fun ρ S => (f ρ S).bind fun x => match x.1 with
  | .lst ds => some ((ds, none), x.2)
  | .tup ds => some ((ds, none), x.2)
  | .ref j => (stLst x.2 j).map fun ds => ((ds, some j), x.2)
  | _ => none
/-- what is walked is a list or a tuple -/
def iSq (K : PySem.W.Frag) (tl : TE) : TI := fun σ H R => tl σ H fun x H1 => (∃ a, x = .ref a ∧ (∃ xs, SqL K H1 a xs) ∧ R (Itl K a) H1) ∨ (∃ a, x = .ref a ∧ (∃ xs, SqT K H1 a xs) ∧ R (Itt K a) H1)
theorem pi_sq {X : Cx} {tg l : Expr} {tl : TE} (hl : PE X l tl) : PI X tg l (iSq X.K tl) := ⟨fun pins s σ H R I h => thn (hl.run pins s σ H _ I h) fun v s1 w => by
  obtain ⟨x, H1, I1, r1, w⟩ := w
  have fp : ∀ b ∈ [s1.heap.objs.size], FpOk X pins H1 b := fun b hb => by
    rw [List.mem_singleton.mp hb]
    exact I1.fpOk (Nat.le_refl _) (I1.hok.fresh (Nat.le_refl _))
  rcases w with ⟨a, rfl, ⟨xs, hq⟩, q⟩ | ⟨a, rfl, ⟨xs, hq⟩, q⟩
  · cases r1
    obtain ⟨ys, rv, p, _⟩ := I1.list hq
    exact wpAny_pyIter_list p.isList ⟨s1.heap.objs.size, [s1.heap.objs.size], _, _, H1, rfl, I1.kept (t' := s1.toks) fun b o e => Heap.get?_push_of_some _ e, turn_list a _, ⟨_, Heap.get?_push_size _ rfl, rfl, rfl⟩, fp, q⟩
  · cases r1
    obtain ⟨ys, rv, p, _⟩ := I1.tuple hq
    exact wpAny_pyIter_tuple (show s1.heap.IsTuple a ys.toArray from p) ⟨s1.heap.objs.size, [s1.heap.objs.size], _, _, H1, rfl, I1.kept (t' := s1.toks) fun b o e => Heap.get?_push_of_some _ e, turn_tuple a _, ⟨_, Heap.get?_push_size _ rfl, rfl, rfl⟩, fp, q⟩⟩
section
variable {X : Cx} {tg it : Expr} {f : EvF}
theorem enumG_of {K : PySem.W.Frag} {mg : Str → Option Value} {c : Cfg} {J : It} {ds : List D} (h : Enum K mg c J ds) : EnumG K mg c J ds none := fun i c1 l k _ => h i c1 l k
theorem enumG_ref {K : PySem.W.Frag} {mg : Str → Option Value} {c : Cfg} {j : Nat} {ds : List D} (hj : j < c.S.length) : EnumG K mg c (Itl K (c.π j)) ds (some j) := by
  intro i c1 l k hg
  obtain ⟨vs, hv, t⟩ := k.at_ _ _ (show c1.S[j]? = some (.lst ds) from hg)
  rw [l.pi j hj] at hv
  have s1 : SqL K c1.H (c.π j) vs := .inl (.inl hv)
  refine ⟨fun d e => ?_, fun h => ⟨vs, s1, by rw [t.length]; exact h⟩⟩
  obtain ⟨v, h1, h2⟩ := t.get e
  refine ⟨⟨vs, v, s1, h1⟩, ?_⟩
  rintro x H' ⟨rfl, q⟩
  have w := q vs s1
  rw [h1] at w
  cases w
  exact ⟨c1, rfl, .refl _, k, rfl, h2⟩
theorem mi_sq (h : PI X tg it (iSq X.K (tM X.K X.mg f))) : MIG X tg it (sQ f) := pi_imp h <| by
  rintro σ H R ⟨c, ρ, ds, g, S', ⟨rfl, k, en⟩, q, p⟩
  obtain ⟨⟨x, S1⟩, h1, q⟩ := bd q
  refine ⟨c, ρ, x, S1, .of k en, h1, fun v c1 l1 k1 e1 D1 => ?_⟩
  cases x <;> try (cases q)
  · cases D1 with
    | lst s t => exact .inl ⟨_, rfl, ⟨_, s.get⟩, p _ c1 l1 k1 e1 (enumG_of (enum_l (.inl s) t))⟩
  · cases D1 with
    | tup s t => exact .inr ⟨_, rfl, ⟨_, s.get⟩, p _ c1 l1 k1 e1 (enumG_of (enum_t s t))⟩
  · rename_i j
    obtain ⟨xs, h2, q⟩ := mp (show (stLst S1 j).map _ = some ((ds, g), S') from q)
    cases q
    cases D1 with
    | ref hj =>
      obtain ⟨vs, hv, t⟩ := k1.at_ _ _ (show c1.S[j]? = some (.lst ds) by rw [e1]; exact stLst_get h2)
      exact .inl ⟨_, rfl, ⟨_, .inl (.inl hv)⟩, p _ c1 l1 k1 e1 (enumG_ref hj)⟩
end
open Classical in
noncomputable def loopG (tg : TgF) (gd : StF) (all : List D) (g : Option Nat) : List D → StF
  | [], ρ, S => if holdsG g all S then some (.nx ρ, S) else none
  | d :: ds, ρ, S => if holdsG g all S then (tg ρ d).bind fun ρ1 => (gd ρ1 S).bind fun x => match x.1 with
    | .nx ρ' => loopG tg gd all g ds ρ' x.2
    | .ct ρ' => loopG tg gd all g ds ρ' x.2
    | .bk ρ' => some (.nx ρ', x.2)
    | .rt d => some (.rt d, x.2)
    else none
noncomputable def mForG (sr : SqF) (tg : TgF) (gd : StF) : StF := fun ρ S => (sr ρ S).bind fun x => loopG tg gd x.1.1 x.1.2 x.1.1 ρ x.2
theorem loopG_in {tg : TgF} {gd : StF} {all ds : List D} {g : Option Nat} {ρ : En} {S : Sto} {z : Out × Sto} (q : loopG tg gd all g ds ρ S = some z) : holdsG g all S := by
  cases ds with
  | nil =>
    unfold loopG at q
    by_cases h : holdsG g all S
    · exact h
    · rw [if_neg h] at q; cases q
  | cons d ds =>
    unfold loopG at q
    by_cases h : holdsG g all S
    · exact h
    · rw [if_neg h] at q; cases q
theorem loopG_nil {tg : TgF} {gd : StF} {all : List D} {g : Option Nat} {ρ : En} {S : Sto} (h : holdsG g all S) : loopG tg gd all g [] ρ S = some (.nx ρ, S) := by
  unfold loopG
  rw [if_pos h]
theorem loopG_cons {tg : TgF} {gd : StF} {all ds : List D} {d : D} {g : Option Nat} {ρ : En} {S : Sto} (h : holdsG g all S) : loopG tg gd all g (d :: ds) ρ S = (tg ρ d).bind fun ρ1 => (gd ρ1 S).bind fun x => match x.1 with
    | .nx ρ' => loopG tg gd all g ds ρ' x.2
    | .ct ρ' => loopG tg gd all g ds ρ' x.2
    | .bk ρ' => some (.nx ρ', x.2)
    | .rt d => some (.rt d, x.2) := by
  rw [loopG, if_pos h]
section
variable {X : Cx} {st : Stmt} {sr : SqF} {tg : TgF} {gd : StF}
theorem ms_forG (h : PS X st (tFor (tIG X.K X.mg sr) (tG X.K X.mg tg) (tS X.K X.mg gd))) : MS X st (mForG sr tg gd) := ps_imp h <| by
  rintro Dd σ H ⟨c, ρ, o, S', ⟨rfl, k, en⟩, q, p⟩
  obtain ⟨⟨⟨ds, g⟩, S1⟩, h1, q⟩ := bd q
  refine ⟨c, ρ, ds, g, S1, .of k en, h1, fun J c1 l1 k1 e1 En => ?_⟩
  let W : Nat → L2.St → Hp → Prop := fun i σ H => ∃ c2 ρ2, At X.K X.mg c2 ρ2 σ H ∧ Le c1 c2 ∧ i ≤ ds.length ∧ loopG tg gd ds g (ds.drop i) ρ2 c2.S = some (o, S')
  refine ⟨fun i m σ H => m = ds.length - i ∧ W i σ H, ⟨_, rfl, c1, ρ, .of k1 (en.mono l1), .refl _, Nat.zero_le _, by rw [e1]; exact q⟩, ?_⟩
  rintro i m σ' H' ⟨rfl, c2, ρ2, ⟨rfl, k2, en2⟩, l2, hi, q2⟩
  have hG := loopG_in q2
  obtain ⟨Eg, Es⟩ := En i c2 l2.lw k2 hG
  rcases Nat.lt_or_ge i ds.length with z | z
  · right
    obtain ⟨hg, hy⟩ := Eg _ (List.getElem?_eq_getElem z)
    rw [List.drop_eq_getElem_cons z, loopG_cons hG] at q2
    obtain ⟨ρ3, g1, q2⟩ := bd q2
    obtain ⟨⟨x, S3⟩, g2, q2⟩ := bd q2
    refine ⟨hg, W (i + 1), fun σ3 H3 w => ⟨ds.length - (i + 1), by omega, rfl, w⟩, fun v H3 y => ?_⟩
    obtain ⟨c3, rfl, l3, k3, e3, D3⟩ := hy v H3 y
    refine ⟨c3, ρ2, _, ρ3, .of k3 (en2.mono l3), D3, g1, fun σ4 en4 => ⟨c3, ρ3, x, S3, .of k3 en4, by rw [e3]; exact g2, fun c4 l4 k4 e4 => ?_⟩⟩
    have l5 := l2.trans (l3.trans l4)
    cases x with
    | nx ρ' => exact fun σ5 en5 => ⟨c4, ρ', .of k4 en5, l5, z, by rw [e4]; exact q2⟩
    | ct ρ' => exact fun σ5 en5 => ⟨c4, ρ', .of k4 en5, l5, z, by rw [e4]; exact q2⟩
    | bk ρ' => cases q2; exact p c4 (l1.trans l5) k4 e4
    | rt d => cases q2; exact p c4 (l1.trans l5) k4 e4
  · left
    refine ⟨Es z, ?_⟩
    rw [List.drop_eq_nil_of_le z, loopG_nil hG] at q2
    cases q2
    exact p c2 (l1.trans l2) k2 rfl σ' en2
end
open Classical in
noncomputable def mapG (te : EvF) (tt : EtF) (j : Nat) (all : List D) (g : Option Nat) (ρ : En) : List D → Sto → Option (List D × Sto)
  | [], S => if holdsG g all S then some ([], S) else none
  | d :: ds, S => if holdsG g all S then (tt (ρ.set j (some d)) S).bind fun b => if b.1 = true then
      (te (ρ.set j (some d)) b.2).bind fun y => (mapG te tt j all g ρ ds y.2).map fun r => (y.1 :: r.1, r.2)
    else mapG te tt j all g ρ ds b.2
    else none
noncomputable def mLcG (sr : SqF) (j : Nat) (tt : EtF) (te : EvF) : EvF := fun ρ S => (sr ρ S).bind fun x => (mapG te tt j x.1.1 x.1.2 (ρ.set j none) x.1.1 x.2).bind fun r => if r.1.length ≤ 100000 then some (.lst r.1, r.2) else none
theorem mapG_in {te : EvF} {tt : EtF} {j : Nat} {all ds : List D} {g : Option Nat} {ρ : En} {S : Sto} {z : List D × Sto} (q : mapG te tt j all g ρ ds S = some z) : holdsG g all S := by
  cases ds with
  | nil =>
    unfold mapG at q
    by_cases h : holdsG g all S
    · exact h
    · rw [if_neg h] at q; cases q
  | cons d ds =>
    unfold mapG at q
    by_cases h : holdsG g all S
    · exact h
    · rw [if_neg h] at q; cases q
theorem mapG_nil {te : EvF} {tt : EtF} {j : Nat} {all : List D} {g : Option Nat} {ρ : En} {S : Sto} (h : holdsG g all S) : mapG te tt j all g ρ [] S = some ([], S) := by
  rw [mapG, if_pos h]
theorem mapG_cons {te : EvF} {tt : EtF} {j : Nat} {all ds : List D} {d : D} {g : Option Nat} {ρ : En} {S : Sto} (h : holdsG g all S) : mapG te tt j all g ρ (d :: ds) S = (tt (ρ.set j (some d)) S).bind fun b => if b.1 = true then
      (te (ρ.set j (some d)) b.2).bind fun y => (mapG te tt j all g ρ ds y.2).map fun r => (y.1 :: r.1, r.2)
    else mapG te tt j all g ρ ds b.2 := by
  rw [mapG, if_pos h]
section
variable {X : Cx} {e : Expr} {sr : SqF} {tt : EtF} {te : EvF} {j : Nat}
theorem lcG_go {σ : L2.St} {H : Hp} {Q : VK} (h : tM X.K X.mg (mLcG sr j tt te) σ H Q) : tLc (tIG X.K X.mg sr) (gName j) (tT X.K X.mg tt) (tM X.K X.mg te) [j] σ H Q := by
  obtain ⟨c, ρ, d, S', ⟨rfl, k, en⟩, q, p⟩ := h
  obtain ⟨⟨⟨ds, g⟩, S1⟩, h1, q⟩ := bd q
  obtain ⟨⟨rs, S2⟩, h2, q⟩ := bd q
  have hz : rs.length ≤ 100000 := by
    by_cases z : rs.length ≤ 100000
    · exact z
    · rw [if_neg z] at q; cases q
  rw [if_pos hz] at q
  cases q
  refine ⟨c, ρ, ds, g, S1, .of k en, h1, fun J c1 l1 k1 e1 En Dl hD => ?_⟩
  let ρ0 := ρ.set j none
  -- while the list grows, Dl is shut out
  let W : Nat → Hp → Prop := fun i H => ∃ (c2 : Cfg) (acc : List V) (as bs : List D), c2.H = H ∧ Ok X.K X.mg c2 ∧ Lw c1 c2 ∧ (∀ a o, ¬ c1.Rg a → c1.H a = some o → c2.H a = some o ∧ ¬ c2.Rg a) ∧ c2.T = (fun a => c1.T a ∨ a = Dl) ∧
    c2.H Dl = some (.lst acc) ∧ DenA X.K X.mg c2 acc as ∧ i ≤ ds.length ∧ mapG te tt j ds g ρ0 (ds.drop i) c2.S = some (bs, S2) ∧ as ++ bs = rs
  have c1n : ¬ c1.Rg Dl := fun q => ok_some k1 q hD
  have l0 : Lw c1 { c1 with H := upd c1.H Dl (.lst []), T := fun a => c1.T a ∨ a = Dl } := ⟨Nat.le_refl _, fun _ _ => rfl, fun a o n e => ⟨by show upd c1.H Dl _ a = _; rw [upd_ne (ne_of_none e hD)]; exact e, fun q => q.elim (fun q => n (.inl q)) fun q => q.elim (fun q => n (.inr q)) fun q => ne_of_none e hD q⟩⟩
  refine ⟨fun i m H => m = ds.length - i ∧ W i H, ⟨_, rfl, { c1 with H := upd c1.H Dl (.lst []), T := fun a => c1.T a ∨ a = Dl }, [], [], rs, rfl, ?_, l0, ?_, rfl, upd_same, .nil, Nat.zero_le _, by rw [← e1] at h2; exact h2, rfl⟩, ?_⟩
  · refine ⟨fun i xs q => ?_, k1.inj, fun a t => ?_⟩
    · obtain ⟨u, q1, _⟩ := rg_mu k1 ⟨i, lt_of_get q, rfl⟩
      exact ob_mw k1 l0 (upd_ne (ne_of_none q1 hD)) (k1.at_ i xs q)
    · rcases t with t | t
      · obtain ⟨n, xs, e⟩ := k1.nT a t
        exact ⟨n, xs, (upd_ne (ne_of_none e hD)).trans e⟩
      · rw [t]
        exact ⟨c1n, [], upd_same⟩
  · exact fun a o n e => ⟨by show upd c1.H Dl _ a = _; rw [upd_ne (ne_of_none e hD)]; exact e, n⟩
  rintro i m H' ⟨rfl, c2, acc, as, bs, rfl, k2, lw, kp, hT, hDl, Da, hi, q2, hr⟩
  have nD : ¬ c2.Rg Dl := (k2.nT Dl (by rw [hT]; exact .inr rfl)).1
  have hG := mapG_in q2
  obtain ⟨Eg, Es⟩ := En i c2 lw k2 hG
  rcases Nat.lt_or_ge i ds.length with z | z
  · right
    obtain ⟨hg, hy⟩ := Eg _ (List.getElem?_eq_getElem z)
    rw [List.drop_eq_getElem_cons z, mapG_cons hG] at q2
    obtain ⟨⟨b, S3⟩, g1, q2⟩ := bd q2
    refine ⟨hg, W (i + 1), fun H3 w => ⟨ds.length - (i + 1), by omega, rfl, w⟩, fun v H3 y => ?_⟩
    obtain ⟨c3, rfl, l3, k3, e3, D3⟩ := hy v H3 y
    refine ⟨wipe_one σ j v, ?_⟩
    have en0 : EnD X.K X.mg c2 (wipe σ [j]) ρ0 := (EnD.mw ((l1.lw).trans lw) en).wipe [j]
    have en3 : EnD X.K X.mg c3 ((wipe σ [j]).set j (some v)) (ρ0.set j (some ds[i])) := (en0.mono l3).set D3
    refine ⟨c3, _, b, S3, .of k3 en3, by rw [e3]; exact g1, fun c4 l4 k4 e4 => ?_⟩
    have l24 : Le c2 c4 := l3.trans l4
    cases b with
    | false =>
      have q2 : mapG te tt j ds g ρ0 (ds.drop (i + 1)) S3 = some (bs, S2) := q2
      refine ⟨c4, acc, as, bs, rfl, k4, lw.trans l24.lw, fun a o n e => ?_, l24.T.trans hT, (l24.keep Dl _ nD hDl).1, Da.mono l24, z, by rw [e4]; exact q2, hr⟩
      obtain ⟨a1, a2⟩ := kp a o n e
      exact l24.keep a o a2 a1
    | true =>
      obtain ⟨⟨y, S4⟩, g2, q2⟩ := bd q2
      obtain ⟨⟨ys, S5⟩, g3, q2⟩ := mp q2
      cases q2
      refine ⟨c4, _, y, S4, .of k4 (en3.mono l4), by rw [e4]; exact g2, fun u c5 l5 k5 e5 D5 => ?_⟩
      have l25 : Le c2 c5 := l24.trans l5
      obtain ⟨hDl5, nD5⟩ := l25.keep Dl _ nD hDl
      have hlen : acc.length < sizeLine := by
        have w : as.length ≤ rs.length := by rw [← hr]; simp
        rw [Da.length]
        exact Nat.lt_of_le_of_lt (Nat.le_trans w hz) (by decide)
      refine ⟨acc, hDl5, hlen, ?_⟩
      have lw6 : Lw c5 { c5 with H := upd c5.H Dl (.lst (acc ++ [u])) } := ⟨Nat.le_refl _, fun _ _ => rfl, fun a o n e => ⟨(upd_ne (fun q => n (.inr (by rw [l25.T, hT]; exact .inr q)))).trans e, n⟩⟩
      refine ⟨{ c5 with H := upd c5.H Dl (.lst (acc ++ [u])) }, acc ++ [u], as ++ [y], ys, rfl, ?_, (lw.trans l25.lw).trans lw6, fun a o n e => ?_, l25.T.trans hT, upd_same, ((Da.mono l25).mw lw6).app (.cons (D5.mw lw6) .nil), z, by show mapG te tt j ds g ρ0 _ c5.S = _; rw [e5]; exact g3, by rw [List.append_assoc]; exact hr⟩
      · refine ⟨fun i xs q => ?_, k5.inj, fun a t => ⟨(k5.nT a t).1, ?_⟩⟩
        · exact ob_mw k5 lw6 (upd_ne (fun q' => nD5 ⟨i, lt_of_get q, q'⟩)) (k5.at_ i xs q)
        · by_cases z : a = Dl
          · rw [z]; exact ⟨_, upd_same⟩
          · obtain ⟨_, xs, e⟩ := k5.nT a t
            exact ⟨xs, (upd_ne z).trans e⟩
      · have ne : a ≠ Dl := fun q => by rw [q, hD] at e; cases e
        obtain ⟨a1, a2⟩ := kp a o n e
        obtain ⟨b1, b2⟩ := l25.keep a o a2 a1
        exact ⟨(upd_ne ne).trans b1, b2⟩
  · left
    refine ⟨Es z, ?_⟩
    rw [List.drop_eq_nil_of_le z, mapG_nil hG] at q2
    cases q2
    rw [List.append_nil] at hr
    subst hr
    -- Dl is let in again
    have lw7 : Lw c2 { c2 with T := c1.T } := ⟨Nat.le_refl _, fun _ _ => rfl, fun a o n e => ⟨e, fun q => q.elim (fun q => n (.inl q)) fun q => n (.inr (by rw [hT]; exact .inl q))⟩⟩
    have nT1 : ¬ c1.T Dl := fun t => by
      obtain ⟨_, xs, e⟩ := k1.nT Dl t
      rw [hD] at e; cases e
    refine p _ { c2 with T := c1.T } ?_ ?_ rfl (.lst ⟨fun q => q.elim nD nT1, .inl hDl⟩ (Da.mw lw7))
    · exact ⟨Nat.le_trans l1.len lw.len, fun j h => (lw.pi j (Nat.lt_of_lt_of_le h l1.len)).trans (l1.pi j h), fun a o n e => let ⟨x1, x2⟩ := l1.keep a o n e; kp a o x2 x1, l1.T⟩
    · exact ⟨fun i xs q => ob_mw k2 lw7 rfl (k2.at_ i xs q), k2.inj, fun a t => k2.nT a (by rw [hT]; exact .inl t)⟩
theorem me_lcG (h : PE X e (tLc (tIG X.K X.mg sr) (gName j) (tT X.K X.mg tt) (tM X.K X.mg te) [j])) : ME X e (mLcG sr j tt te) := pe_imp h fun _ _ _ => lcG_go
end
end M

namespace M
open PySem PySem.Spec L2 W2 RZ

/-! ### a def of two parameters that is called by their names, the second one first -/
structure CalR (P : Program) (w : World) (K : PySem.W.Frag) (mg : Str → Option Value) (base : Heap) (k : Nat) (x p q : Str) (F : Fn) : Prop where
  ex : ∃ (f : Addr) (fd : FuncData), mg x = some (.ref f) ∧ PySem.W.keepIn K (.ref f) = true ∧ (∀ (s : Shared) (u v : Value), BindsTo s fd ⟨[], [(q, u), (p, v)]⟩ [(p, v), (q, u)]) ∧ FnG P w K mg base k f fd [p, q] (spM K mg 2 F)
theorem calR_mk {P : Program} {w : World} {K : PySem.W.Frag} {mg : Str → Option Value} {base : Heap} {x p q : Str} {st : Stmt} {f : Addr} {fd : FuncData} {k : Nat} {F : Fn} (Z : Fun K x x st f fd) (m : mg x = some (.ref f))
    (b : ∀ (s : Shared) (u v : Value), BindsTo s fd ⟨[], [(q, u), (p, v)]⟩ [(p, v), (q, u)]) (G : FnG P w K mg base k f fd [p, q] (spM K mg 2 F)) : CalR P w K mg base k x p q F := ⟨⟨f, fd, m, Z.kp, b, G⟩⟩
def mKwR (F : Fn) (f g : EvF) : EvF := fun ρ S => (f ρ S).bind fun x => (g ρ x.2).bind fun y => F [y.1, x.1] y.2
section
variable {X : Cx} {pos p kpos kpos2 : Pos} {e e2 : Expr} {f g : EvF} {k : Nat} {x y z : Str} {F : Fn}
theorem me_kwR (C : CalR X.prog X.w X.K X.mg X.base k x y z F) (hr : Rm k X.A) (hg : Gl X x) (he : ME X e f) (he2 : ME X e2 g)
    (hall : (backToKw pos (keywordEach [⟨some z, e, kpos⟩, ⟨some y, e2, kpos2⟩] X.env)).all (·.1.isSome) = true := by rfl) (hks : (backToKw pos (keywordEach [⟨some z, e, kpos⟩, ⟨some y, e2, kpos2⟩] X.env)).filterMap (·.1) = [z, y] := by rfl)
    (hdb : (x == ("__debug__" : Str)) = false := by decide) (hpl : ((backTo pos (starEach [] X.env)).any (·.1) || (backToKw pos (keywordEach [⟨some z, e, kpos⟩, ⟨some y, e2, kpos2⟩] X.env)).any (·.1.isNone)) = false := by rfl) :
    ME X (.Call (.Name x p) [] [⟨some z, e, kpos⟩, ⟨some y, e2, kpos2⟩] pos) (mKwR F f g) := by
  obtain ⟨fa, fd, hm, hk, hb, G⟩ := C.ex
  constructor
  rintro pins s σ H Q I ⟨c, ρ, d, S', ⟨rfl, k, en⟩, q, P⟩
  obtain ⟨⟨a, S1⟩, h1, q⟩ := bd q
  obtain ⟨⟨b, S2⟩, h2, q1⟩ := bd q
  refine wpAny_Call_Name_kw (ld_glob I hg hm ?_ hdb)
  refine PySem.W.callWith_KW0 (h₀ := X.base) I.ok.mod.kin hk hall ?_ hpl
  refine thn ((pk_cons he (pk_cons he2 pk_nil)).run pos pins s σ c.H (fun vs H' => ∃ v1 v2, vs = [v1, v2] ∧ spM X.K X.mg 2 F [v2, v1] H' Q E0) I ?_) ?_
  · refine ⟨c, ρ, a, S1, .of k en, h1, fun v c1 l1 k1 e1 D1 => ⟨c1, ρ, b, S2, .of k1 (en.mono l1), by rw [e1]; exact h2, fun w c2 l2 k2 e2 D2 => ⟨v, w, rfl, rfl, c2, [b, a], d, S', rfl, k2, .cons D2 (.cons (D1.mono l2) .nil), by rw [e2]; exact q1, P.mono (l1.trans l2)⟩⟩⟩
  · rintro ws s2 ⟨zs, H2, I2, rz, v1, v2, rfl, hsp⟩
    refine ⟨I2.kIn, ?_⟩
    rw [hks]
    obtain ⟨u1, u2, rfl, r1, r2⟩ := vals2 rz
    refine wpAny_call (codeAny_mono (run_X (us := [u2, u1]) (vs := [v2, v1]) (ar := ⟨[], [(z, u1), (y, u2)]⟩) G hr takes_none5 (hb s2 u1 u2) I2 (.cons r2 (.cons r1 .nil)) hsp) fun r s' hq => ?_)
    match r, hq with
    | .error _, hq => exact hq
    | .ok (.ret u), hq => exact hq
end

/-! ### list(range(n)) -/
def mLr (fa : EvF) : EvF := fun ρ S => (fa ρ S).bind fun x => match x.1 with
  | .int n => if n ≤ 1000000 ∧ -1000000 ≤ n then some (.lst (upto n.toNat), x.2) else none
  | _ => none
theorem rg_den {K : PySem.W.Frag} {mg : Str → Option Value} {c : Cfg} (n : Int) : DenA K mg c (rgV 0 n) (upto n.toNat) := by
  unfold rgV upto
  rw [Int.sub_zero]
  generalize List.range n.toNat = l
  induction l with
  | nil => exact .nil
  | cons i l ih => exact .cons (by show Den K mg c (V.int (0 + (i : Int))) (.int (i : Int)); rw [Int.zero_add]; exact .int _) ih
theorem me_lr {X : Cx} {a : Expr} {f : EvF} {p p2 pos pos2 : Pos} (hc : X.calm = true) (hg : Gl X "list") (hm : X.mg "list" = none) (hg2 : Gl X "range") (hm2 : X.mg "range" = none) (ha : ME X a f)
    (na : starEach [a] X.env = (false, eval a X.env) :: starEach [] X.env := by rfl) (nb : starEach [.Call (.Name "range" p2) [a] [] pos2] X.env = (false, eval (.Call (.Name "range" p2) [a] [] pos2) X.env) :: starEach [] X.env := by rfl) :
    ME X (.Call (.Name "list" p) [.Call (.Name "range" p2) [a] [] pos2] [] pos) (mLr f) := by
  refine pe_imp (pe_listRg hc hg hm (prg_1 hg2 hm2 ha na) nb) ?_
  rintro σ H Q ⟨c, ρ, d, S', ⟨rfl, k, en⟩, q, P⟩
  obtain ⟨⟨x, S1⟩, h1, q⟩ := bd q
  obtain ⟨n, rfl⟩ : ∃ n, x = .int n := by cases x <;> first | exact ⟨_, rfl⟩ | cases q
  have q2 : (if n ≤ 1000000 ∧ -1000000 ≤ n then some (D.lst (upto n.toNat), S1) else none) = some (d, S') := q
  by_cases z : n ≤ 1000000 ∧ -1000000 ≤ n
  · rw [if_pos z] at q2
    cases q2
    refine ⟨c, ρ, _, _, .of k en, h1, fun v c1 l1 k1 e1 D1 => ?_⟩
    cases D1
    exact ⟨n, rfl, ⟨by omega, by omega, by omega, by omega, by omega⟩, post_lst (by rw [e1]; exact P.mono l1) k1 (rg_den n)⟩
  · rw [if_neg z] at q2; cases q2

/-! ### [..] * n -/
def mMulL (fa : EaF) (g : EvF) : EvF := fun ρ S => (fa ρ S).bind fun x => (g ρ x.2).bind fun y => match y.1 with
  | .int k => if 0 ≤ k ∧ k ≤ 10000 ∧ x.1.length ≤ 10 then some (.lst (List.replicate k.toNat x.1).flatten, y.2) else none
  | _ => none
theorem me_mulL {X : Cx} {es : List Expr} {b : Expr} {fa : EaF} {g : EvF} {pos lpos : Pos} (ha : MA X es fa) (hb : ME X b g) : ME X (.BinOp (.List es lpos) .Mult b pos) (mMulL fa g) := by
  refine pe_imp (pe_op op_rep (pe_lst ha) hb) ?_
  rintro σ H Q ⟨c, ρ, d, S', ⟨rfl, k, en⟩, q, P⟩
  obtain ⟨⟨x, S1⟩, h1, q⟩ := bd q
  obtain ⟨⟨y, S2⟩, h2, q⟩ := bd q
  obtain ⟨n, rfl⟩ : ∃ n, y = .int n := by cases y <;> first | exact ⟨_, rfl⟩ | cases q
  have q2 : (if 0 ≤ n ∧ n ≤ 10000 ∧ x.length ≤ 10 then some (D.lst (List.replicate n.toNat x).flatten, S2) else none) = some (d, S') := q
  by_cases z : 0 ≤ n ∧ n ≤ 10000 ∧ x.length ≤ 10
  · rw [if_pos z] at q2
    cases q2
    refine ⟨c, ρ, x, S1, .of k en, h1, fun vs c1 l1 k1 e1 D1 => ⟨by rw [D1.length, sizeLine_eq]; omega, fun p hp => ?_⟩⟩
    have l2 := lay_le (o := .lst vs) hp
    have k2 := lay_ok (o := .lst vs) k1 hp
    refine ⟨c1.lay p (.lst vs), ρ, .int n, _, .of k2 ((en.mono l1).mono l2), by show g ρ c1.S = _; rw [e1]; exact h2, fun w c3 l3 k3 e3 D3 => ?_⟩
    cases D3
    have np : ¬ (c1.lay p (.lst vs)).Rg p := fun q => ok_some k1 (show c1.Rg p from q) hp
    have h3 := (l3.keep p (.lst vs) np upd_same).1
    refine ⟨p, n, vs, rfl, rfl, h3, by omega, by omega, ?_, post_lst (by rw [e3]; exact P.mono ((l1.trans l2).trans l3)) k3 (den_rep ((D1.mono l2).mono l3) _)⟩
    rw [D1.length, sizeLine_eq]
    have : x.length * n.toNat ≤ 10 * 10000 := Nat.mul_le_mul z.2.2 (by omega)
    omega
  · rw [if_neg z] at q2; cases q2
end M

namespace K04
open PySem L2 M
noncomputable section
/-! The mirror of the linked text: made by gen2.py -/
def m_is_integer : Fn := mDef 1
  (mRet (mAnd (mCb isD2 (mCons (mVar 0) (mCons (mC (.ty "int")) mNil))) (mNot (mCb isD2 (mCons (mVar 0) (mCons (mC (.ty "bool")) mNil))))))
def m_is_between : Fn := mDef 3
  (mRet (mAnd (mCall m_is_integer (mCons (mVar 0) mNil)) (mChain leD leD (mVar 1) (mVar 0) (mVar 2))))
def m_has_word : Fn := mDef 1
  (mRet (mAnd (mCb isD2 (mCons (mVar 0) (mCons (mC (.ty "tuple")) mNil))) (mAnd (mBin gtD (mCb lenD (mCons (mVar 0) mNil)) (mC (.int 0))) (mCb isD2 (mCons (mIx (mVar 0) (mC (.int 0))) (mCons (mC (.ty "str")) mNil))))))
def m_is_signs : Fn := mDef 1
  (mRet (mAnd (mCb isD2 (mCons (mVar 0) (mCons (mC (.ty "str")) mNil))) (mAnd (mMs Txt.isascii (mVar 0)) (mMs Txt.isprintable (mVar 0)))))
def m_is_text : Fn := mDef 2
  (mRet (mAnd (mCb isD2 (mCons (mVar 0) (mCons (mC (.ty "str")) mNil))) (mAnd (mBin leD (mCb lenD (mCons (mVar 0) mNil)) (mVar 1)) (mCall m_is_signs (mCons (mVar 0) mNil)))))
def m_is_name : Fn := mDef 1
  (mRet (mAnd (mCall m_is_text (mCons (mVar 0) (mCons (mC (.int 8)) mNil))) (mAnd (mMs Txt.isalpha (mVar 0)) (mMs Txt.islower (mVar 0)))))
def m__is_name : Fn := mDef 1
  (mRet (mCall m_is_name (mCons (mVar 0) mNil)))
def m__is_name_or_none : Fn := mDef 1
  (mRet (mOr (mBin isD (mVar 0) (mC .non)) (mCall m_is_name (mCons (mVar 0) mNil))))
def m__is_bool : Fn := mDef 1
  (mRet (mCb isD2 (mCons (mVar 0) (mCons (mC (.ty "bool")) mNil))))
def m__is_count : Fn := mDef 1
  (mRet (mCall m_is_between (mCons (mVar 0) (mCons (mC (.int 0)) (mCons (mC (.int 999999999999)) mNil)))))
def m__is_body : Fn := mDef 1
  (mRet (mCall m_is_text (mCons (mVar 0) (mCons (mC (.int 40)) mNil))))
def m__is_priority : Fn := mDef 1
  (mRet (mCall m_is_between (mCons (mVar 0) (mCons (mC (.int 0)) (mCons (mC (.int 3)) mNil)))))
def m__is_wait : Fn := mDef 1
  (mRet (mCall m_is_between (mCons (mVar 0) (mCons (mC (.int 0)) (mCons (mC (.int 50)) mNil)))))
def m__is_number : Fn := mDef 1
  (mRet (mCall m_is_between (mCons (mVar 0) (mCons (mC (.int 1)) (mCons (mC (.int 999999999999)) mNil)))))
def m__is_tries : Fn := mDef 1
  (mRet (mCall m_is_between (mCons (mVar 0) (mCons (mC (.int 0)) (mCons (mC (.int 4)) mNil)))))
def tblF (Y_is_token Y__is_made Y_is_sending : Fn) : Str → Option Fn := fun z =>
  if z = "_is_name" then some m__is_name else
  if z = "_is_name_or_none" then some m__is_name_or_none else
  if z = "_is_bool" then some m__is_bool else
  if z = "_is_count" then some m__is_count else
  if z = "_is_body" then some m__is_body else
  if z = "_is_priority" then some m__is_priority else
  if z = "_is_wait" then some m__is_wait else
  if z = "_is_number" then some m__is_number else
  if z = "_is_tries" then some m__is_tries else
  if z = "is_token" then some Y_is_token else
  if z = "_is_made" then some Y__is_made else
  if z = "is_sending" then some Y_is_sending else
   none
def b_fits (Y_fits Y_is_item Y_is_token Y_is_sending Y__is_made : Fn) : Fn := mDef 4
  (mSeq (mIfS (mTor (mTnot (mTv (mCb isD2 (mCons (mVar 0) (mCons (mC (.ty "tuple")) mNil))))) (mTv (mBin neD (mCb lenD (mCons (mVar 0) mNil)) (mCb lenD (mCons (mVar 1) mNil))))) (mRet (mC (.bl false))) mSkip)
  (mSeq (mFor (sZ (mCons (mVar 1) (mCons (mVar 0) mNil))) (gT [2, 3]) (mIfS (mTnot (mTv (mHeld 2 (tblF Y_is_token Y__is_made Y_is_sending) (mCons (mVar 3) mNil)))) (mRet (mC (.bl false))) mSkip))
  (mRet (mC (.bl true)))))
def d_ITEM : D := (.tup [(.fn "_is_name"), (.fn "_is_name"), (.fn "_is_body"), (.fn "_is_priority"), (.fn "_is_wait"), (.fn "_is_wait")])
def b_is_item (Y_fits Y_is_item Y_is_token Y_is_sending Y__is_made : Fn) : Fn := mDef 1
  (mRet (mCall Y_fits (mCons (mVar 0) (mCons (mC d_ITEM) mNil))))
def d_TOKEN : D := (.tup [(.fn "_is_number"), (.fn "_is_number")])
def b_is_token (Y_fits Y_is_item Y_is_token Y_is_sending Y__is_made : Fn) : Fn := mDef 1
  (mRet (mCall Y_fits (mCons (mVar 0) (mCons (mC d_TOKEN) mNil))))
def b_is_sending (Y_fits Y_is_item Y_is_token Y_is_sending Y__is_made : Fn) : Fn := mDef 1
  (mRet (mAnd (mCall Y__is_made (mCons (mVar 0) mNil)) (mBin gtD (mCb lenD (mCons (mVar 0) mNil)) (mC (.int 0)))))
def b__is_made (Y_fits Y_is_item Y_is_token Y_is_sending Y__is_made : Fn) : Fn := mDef 2
  (mSeq (mIfS (mTor (mTnot (mTv (mCb isD2 (mCons (mVar 0) (mCons (mC (.ty "tuple")) mNil))))) (mTv (mBin gtD (mCb lenD (mCons (mVar 0) mNil)) (mC (.int 4))))) (mRet (mC (.bl false))) mSkip)
  (mRet (mCb allD (mCons (mLc (sT (mVar 0)) 1 mYes (mCall Y_is_item (mCons (mVar 1) mNil))) mNil))))
def scc0 : Nat → Fn × Fn × Fn × Fn × Fn
  | 0 => (fn0, fn0, fn0, fn0, fn0)
  | n + 1 => (b_fits (scc0 n).1 (scc0 n).2.1 (scc0 n).2.2.1 (scc0 n).2.2.2.1 (scc0 n).2.2.2.2,
    b_is_item (scc0 n).1 (scc0 n).2.1 (scc0 n).2.2.1 (scc0 n).2.2.2.1 (scc0 n).2.2.2.2,
    b_is_token (scc0 n).1 (scc0 n).2.1 (scc0 n).2.2.1 (scc0 n).2.2.2.1 (scc0 n).2.2.2.2,
    b_is_sending (scc0 n).1 (scc0 n).2.1 (scc0 n).2.2.1 (scc0 n).2.2.2.1 (scc0 n).2.2.2.2,
    b__is_made (scc0 n).1 (scc0 n).2.1 (scc0 n).2.2.1 (scc0 n).2.2.2.1 (scc0 n).2.2.2.2)
def m_fits (n : Nat) : Fn := (scc0 n).1
def m_is_item (n : Nat) : Fn := (scc0 n).2.1
def m_is_token (n : Nat) : Fn := (scc0 n).2.2.1
def m_is_sending (n : Nat) : Fn := (scc0 n).2.2.2.1
def m__is_made (n : Nat) : Fn := (scc0 n).2.2.2.2
theorem m_fits_succ (n : Nat) : m_fits (n + 1) = b_fits (m_fits n) (m_is_item n) (m_is_token n) (m_is_sending n) (m__is_made n) := rfl
theorem m_is_item_succ (n : Nat) : m_is_item (n + 1) = b_is_item (m_fits n) (m_is_item n) (m_is_token n) (m_is_sending n) (m__is_made n) := rfl
theorem m_is_token_succ (n : Nat) : m_is_token (n + 1) = b_is_token (m_fits n) (m_is_item n) (m_is_token n) (m_is_sending n) (m__is_made n) := rfl
theorem m_is_sending_succ (n : Nat) : m_is_sending (n + 1) = b_is_sending (m_fits n) (m_is_item n) (m_is_token n) (m_is_sending n) (m__is_made n) := rfl
theorem m__is_made_succ (n : Nat) : m__is_made (n + 1) = b__is_made (m_fits n) (m_is_item n) (m_is_token n) (m_is_sending n) (m__is_made n) := rfl
def d_COMMANDS : Kvs := [("topic", (.tup [(.fn "_is_name"), (.fn "_is_bool")])),
  ("group", (.tup [(.fn "_is_name"), (.fn "_is_name"), (.fn "_is_name_or_none")])),
  ("send", (.tup [(.fn "_is_name"), (.fn "_is_number"), (.fn "is_sending")])),
  ("done", (.tup [(.fn "_is_name"), (.fn "_is_number"), (.fn "is_token"), (.fn "_is_made")])),
  ("failed", (.tup [(.fn "_is_name"), (.fn "_is_number"), (.fn "_is_tries")])),
  ("now", (.tup [(.fn "_is_count")]))]
def m_is_command : Fn := mDef 1
  (mSeq (mIfS (mTor (mTnot (mTv (mCall m_has_word (mCons (mVar 0) mNil)))) (mTv (mU (ninKd d_COMMANDS) (mIx (mVar 0) (mC (.int 0)))))) (mRet (mC (.bl false))) mSkip)
  (mSeq (mIfS (mTnot (mTv (mCall (m_fits 8) (mCons (mSl (mVar 0) (mP (mC (.int 1))) mNoP) (mCons (mU (ixKd d_COMMANDS) (mIx (mVar 0) (mC (.int 0)))) mNil))))) (mRet (mC (.bl false))) mSkip)
  (mRet (mOr (mBin neD (mIx (mVar 0) (mC (.int 0))) (mC (.str "group"))) (mBin neD (mIx (mVar 0) (mC (.int 2))) (mIx (mVar 0) (mC (.int 3))))))))
def m__law_cell : Fn := mDef 2
  (mRet (mIf (mTv (mBin ltD (mVar 1) (mCb lenD (mCons (mVar 0) mNil)))) (mIx (mVar 0) (mVar 1)) (mBin addD (mBin mulD (mC (.int 5003)) (mVar 1)) (mBin modD (mCb sumD (mCons (mSl (mVar 0) mNoP (mP (mC (.int 1)))) mNil)) (mC (.int 1000081))))))
def m__law_box : Fn := mDef 1
  (mRet (mNew (mCons (mCb absD (mCons (mVar 0) mNil)) (mCons (mBin geD (mCb absD (mCons (mVar 0) mNil)) (mBin powD (mC (.int 10)) (mC (.int 18)))) (mCons (mBin modD (mCb intD (mCons (mCb absD (mCons (mVar 0) mNil)) mNil)) (mC (.int 2147483629))) (mCons (mC (.int 0)) mNil))))))
def m__law_take : Fn := mDef 4
  (mSeq (mIfS (mTand (mTv (mIx (mVar 0) (mC (.int 1)))) (mTv (mBin gtD (mIx (mVar 0) (mC (.int 0))) (mC (.int 0))))) (mSeq (mAsg (mBin modD (mCb intD (mCons (mIx (mVar 0) (mC (.int 0))) mNil)) (mVar 1)) (gN 3))
  (mSeq (mSetI (mBin fdvD (mIx (mVar 0) (mC (.int 0))) (mVar 1)) (mVar 0) (mC (.int 0)))
  (mRet (mVar 3)))) mSkip)
  (mSeq (mSetI (mBin addD (mIx (mVar 0) (mC (.int 3))) (mC (.int 1))) (mVar 0) (mC (.int 3)))
  (mSeq (mAsg (mBin modD (mCb intD (mCons (mBin powD (mBin addD (mBin addD (mIx (mVar 0) (mC (.int 2))) (mBin mulD (mC (.int 15485863)) (mIx (mVar 0) (mC (.int 3))))) (mC (.int 179424697))) (mC (.int 5))) mNil)) (mC (.int 2147483647))) (gN 2))
  (mRet (mBin modD (mBin fdvD (mBin modD (mCb intD (mCons (mBin powD (mBin addD (mBin mulD (mVar 2) (mC (.int 48271))) (mBin mulD (mC (.int 104723)) (mIx (mVar 0) (mC (.int 3))))) (mC (.int 3))) mNil)) (mC (.int 2147483587))) (mC (.int 64))) (mVar 1))))))
def m__law_name : Fn := mDef 4
  (mSeq (mAsg (mTup (mCons (mC (.str "abcdefghijklmnopqrstuvwxyz")) (mCons (mBin addD (mC (.int 1)) (mCall m__law_take (mCons (mVar 0) (mCons (mC (.int 8)) mNil)))) mNil))) (gT [1, 2]))
  (mSeq (mIfS (mTv (mBin eqD (mCall m__law_take (mCons (mVar 0) (mCons (mC (.int 4)) mNil))) (mC (.int 0)))) (mRet (mBin mulD (mIx (mVar 1) (mCall m__law_take (mCons (mVar 0) (mCons (mC (.int 26)) mNil)))) (mVar 2))) mSkip)
  (mRet (mM1 joinD (mC (.str "")) (mLc (sR (mCons (mVar 2) mNil)) 3 mYes (mIx (mVar 1) (mCall m__law_take (mCons (mVar 0) (mCons (mC (.int 26)) mNil)))))))))
def m__law_text : Fn := mDef 5
  (mSeq (mAsg (mC (.str " !\"#$&'()*+,-./0123456789:;<=>?@ABCDEFGHIJKLMNOPQRSTUVWXYZ[\\]^_`abcdefghijklmnopqrstuvwxyz{|}~")) (gN 2))
  (mSeq (mAsg (mIx (mLst (mCons (mC (.int 0)) (mCons (mC (.int 1)) (mCons (mC (.int 2)) (mCons (mC (.int 3)) (mCons (mC (.int 7)) (mCons (mBin subD (mVar 1) (mC (.int 1))) (mCons (mVar 1) mNil)))))))) (mCall m__law_take (mCons (mVar 0) (mCons (mC (.int 7)) mNil)))) (gN 3))
  (mRet (mM1 joinD (mC (.str "")) (mLc (sR (mCons (mVar 3) mNil)) 4 mYes (mIx (mVar 2) (mCall m__law_take (mCons (mVar 0) (mCons (mC (.int 94)) mNil)))))))))
def m__law_item : Fn := mDef 3
  (mSeq (mAsg (mLst (mCons (mC (.int 0)) (mCons (mC (.int 1)) (mCons (mC (.int 49)) (mCons (mC (.int 50)) (mCons (mCall m__law_take (mCons (mVar 0) (mCons (mC (.int 51)) mNil))) mNil)))))) (gN 1))
  (mSeq (mAsg (mTup (mCons (mCall m__law_name (mCons (mVar 0) mNil)) (mCons (mCall m__law_name (mCons (mVar 0) mNil)) (mCons (mCall m__law_text (mCons (mVar 0) (mCons (mC (.int 40)) mNil))) (mCons (mCall m__law_take (mCons (mVar 0) (mCons (mC (.int 4)) mNil))) mNil))))) (gN 2))
  (mRet (mBin addD (mVar 2) (mTup (mCons (mIx (mVar 1) (mCall m__law_take (mCons (mVar 0) (mCons (mC (.int 5)) mNil)))) (mCons (mIx (mVar 1) (mCall m__law_take (mCons (mVar 0) (mCons (mC (.int 5)) mNil)))) mNil)))))))
def m__law_odd : Fn := mDef 2
  (mSeq (mAsg (mLst (mCons (mC .non) (mCons (mC (.bl true)) (mCons (mC (.bl false)) (mCons (mC (.int 0)) (mCons (mC (.int 1)) (mCons (mNeg (mC (.int 1))) (mCons (mC (.int 2)) (mCons (mC (.int 3)) (mCons (mC (.int 4)) (mCons (mC (.int 5)) (mCons (mC (.int 50)) (mCons (mC (.int 51)) (mCons (mBin subD (mBin powD (mC (.int 10)) (mC (.int 12))) (mC (.int 1))) (mCons (mBin powD (mC (.int 10)) (mC (.int 12))) (mCons (mNeg (mBin powD (mC (.int 10)) (mC (.int 12)))) (mCons (mC (.str "")) (mCons (mC (.str "a")) (mCons (mC (.str "abcdefgh")) mNil))))))))))))))))))) (gN 1))
  (mSeq (mAsg (mBin addD (mVar 1) (mLst (mCons (mC (.str "abcdefghi")) (mCons (mC (.str "aB")) (mCons (mC (.str "a1")) (mCons (mC (.str "a b")) (mCons (mC (.str "ab\n")) (mCons (mBin mulD (mC (.str "x")) (mC (.int 40))) (mCons (mBin mulD (mC (.str "x")) (mC (.int 41))) (mCons (mBin mulD (mC (.str "x")) (mC (.int 60))) (mCons (mC (.str "a\tb")) (mCons (mTup mNil) (mCons (mLst mNil) (mCons (mTup (mCons (mC (.int 1)) (mCons (mC (.int 1)) mNil))) (mCons (mLst (mCons (mC (.int 1)) (mCons (mC (.int 1)) mNil))) mNil))))))))))))))) (gN 1))
  (mRet (mIx (mBin addD (mVar 1) (mLst (mCons (mTup (mCons (mC (.str "a")) mNil)) (mCons mD0 (mCons (mTup (mCons (mC (.int 0)) (mCons (mC (.int 1)) mNil))) (mCons (mTup (mCons (mC (.int 1)) (mCons (mC (.int 0)) mNil))) (mCons (mTup (mCons (mC (.int 1)) (mCons (mC (.bl true)) mNil))) (mCons (mTup (mCons (mC (.int 1)) (mCons (mC (.int 1)) (mCons (mC (.int 1)) mNil)))) mNil)))))))) (mCall m__law_take (mCons (mVar 0) (mCons (mC (.int 37)) mNil)))))))
def m__law_within : Fn := mDef 3
  (mRet (mAnd (mCb isD2 (mCons (mVar 0) (mCons (mC (.ty "int")) mNil))) (mAnd (mNot (mCb isD2 (mCons (mVar 0) (mCons (mC (.ty "bool")) mNil)))) (mChain leD leD (mVar 1) (mVar 0) (mVar 2)))))
def m__law_is_name : Fn := mDef 2
  (mSeq (mIfS (mTor (mTnot (mTv (mCb isD2 (mCons (mVar 0) (mCons (mC (.ty "str")) mNil))))) (mTor (mTv (mBin ltD (mCb lenD (mCons (mVar 0) mNil)) (mC (.int 1)))) (mTv (mBin gtD (mCb lenD (mCons (mVar 0) mNil)) (mC (.int 8)))))) (mRet (mC (.bl false))) mSkip)
  (mRet (mBin eqNil (mLc (sS (mVar 0)) 1 (mTv (mBin ninD (mVar 1) (mC (.str "abcdefghijklmnopqrstuvwxyz")))) (mVar 1)) (mLst mNil))))
def m__law_is_body : Fn := mDef 2
  (mSeq (mIfS (mTor (mTnot (mTv (mCb isD2 (mCons (mVar 0) (mCons (mC (.ty "str")) mNil))))) (mTv (mBin gtD (mCb lenD (mCons (mVar 0) mNil)) (mC (.int 40))))) (mRet (mC (.bl false))) mSkip)
  (mRet (mBin eqNil (mLc (sS (mVar 0)) 1 (mTor (mTv (mBin ltD (mVar 1) (mC (.str " ")))) (mTv (mBin gtD (mVar 1) (mC (.str "~"))))) (mVar 1)) (mLst mNil))))
def m__law_is_token : Fn := mDef 1
  (mSeq (mIfS (mTor (mTnot (mTv (mCb isD2 (mCons (mVar 0) (mCons (mC (.ty "tuple")) mNil))))) (mTv (mBin neD (mCb lenD (mCons (mVar 0) mNil)) (mC (.int 2))))) (mRet (mC (.bl false))) mSkip)
  (mRet (mAnd (mCall m__law_within (mCons (mIx (mVar 0) (mC (.int 0))) (mCons (mC (.int 1)) (mCons (mBin subD (mBin powD (mC (.int 10)) (mC (.int 12))) (mC (.int 1))) mNil)))) (mCall m__law_within (mCons (mIx (mVar 0) (mC (.int 1))) (mCons (mC (.int 1)) (mCons (mBin subD (mBin powD (mC (.int 10)) (mC (.int 12))) (mC (.int 1))) mNil)))))))
def m__law_is_item : Fn := mDef 1
  (mSeq (mIfS (mTor (mTnot (mTv (mCb isD2 (mCons (mVar 0) (mCons (mC (.ty "tuple")) mNil))))) (mTv (mBin neD (mCb lenD (mCons (mVar 0) mNil)) (mC (.int 6))))) (mRet (mC (.bl false))) mSkip)
  (mSeq (mIfS (mTor (mTnot (mTv (mCall m__law_is_name (mCons (mIx (mVar 0) (mC (.int 0))) mNil)))) (mTor (mTnot (mTv (mCall m__law_is_name (mCons (mIx (mVar 0) (mC (.int 1))) mNil)))) (mTnot (mTv (mCall m__law_is_body (mCons (mIx (mVar 0) (mC (.int 2))) mNil)))))) (mRet (mC (.bl false))) mSkip)
  (mRet (mAnd (mCall m__law_within (mCons (mIx (mVar 0) (mC (.int 3))) (mCons (mC (.int 0)) (mCons (mC (.int 3)) mNil)))) (mAnd (mCall m__law_within (mCons (mIx (mVar 0) (mC (.int 4))) (mCons (mC (.int 0)) (mCons (mC (.int 50)) mNil)))) (mCall m__law_within (mCons (mIx (mVar 0) (mC (.int 5))) (mCons (mC (.int 0)) (mCons (mC (.int 50)) mNil)))))))))
def m__law_items : Fn := mDef 4
  (mSeq (mAsg (mLc (sR (mCons (mBin addD (mVar 1) (mCall m__law_take (mCons (mVar 0) (mCons (mBin subD (mC (.int 5)) (mVar 1)) mNil)))) mNil)) 3 mYes (mCall m__law_item (mCons (mVar 0) mNil))) (gN 2))
  (mRet (mCb tupD (mCons (mVar 2) mNil))))
def m__law_number : Fn := mDef 1
  (mRet (mIx (mLst (mCons (mC (.int 1)) (mCons (mC (.int 2)) (mCons (mBin subD (mBin powD (mC (.int 10)) (mC (.int 12))) (mC (.int 1))) (mCons (mBin addD (mC (.int 1)) (mCall m__law_take (mCons (mVar 0) (mCons (mC (.int 100000)) mNil)))) mNil))))) (mCall m__law_take (mCons (mVar 0) (mCons (mC (.int 4)) mNil)))))
def m__law_token : Fn := mDef 1
  (mRet (mTup (mCons (mCall m__law_number (mCons (mVar 0) mNil)) (mCons (mCall m__law_number (mCons (mVar 0) mNil)) mNil))))
def m__law_command : Fn := mDef 5
  (mSeq (mPar [2, 3] (mCons (mCall m__law_name (mCons (mVar 0) mNil)) (mCons (mCall m__law_name (mCons (mVar 0) mNil)) mNil)))
  (mSeq (mIfS (mTv (mBin eqD (mVar 1) (mC (.int 0)))) (mRet (mTup (mCons (mC (.str "topic")) (mCons (mVar 2) (mCons (mBin eqD (mCall m__law_take (mCons (mVar 0) (mCons (mC (.int 2)) mNil))) (mC (.int 0))) mNil))))) mSkip)
  (mSeq (mIfS (mTv (mBin eqD (mVar 1) (mC (.int 1)))) (mSeq (mAsg (mCall m__law_name (mCons (mVar 0) mNil)) (gN 4))
  (mRet (mTup (mCons (mC (.str "group")) (mCons (mVar 2) (mCons (mVar 3) (mCons (mIf (mTor (mTv (mBin eqD (mVar 4) (mVar 3))) (mTv (mBin eqD (mCall m__law_take (mCons (mVar 0) (mCons (mC (.int 2)) mNil))) (mC (.int 0))))) (mC .non) (mVar 4)) mNil))))))) mSkip)
  (mSeq (mIfS (mTv (mBin eqD (mVar 1) (mC (.int 2)))) (mRet (mTup (mCons (mC (.str "send")) (mCons (mVar 2) (mCons (mCall m__law_number (mCons (mVar 0) mNil)) (mCons (mCall m__law_items (mCons (mVar 0) (mCons (mC (.int 1)) mNil))) mNil)))))) mSkip)
  (mSeq (mIfS (mTv (mBin eqD (mVar 1) (mC (.int 3)))) (mRet (mTup (mCons (mC (.str "done")) (mCons (mVar 2) (mCons (mCall m__law_number (mCons (mVar 0) mNil)) (mCons (mCall m__law_token (mCons (mVar 0) mNil)) (mCons (mCall m__law_items (mCons (mVar 0) (mCons (mC (.int 0)) mNil))) mNil))))))) mSkip)
  (mSeq (mIfS (mTv (mBin eqD (mVar 1) (mC (.int 4)))) (mRet (mTup (mCons (mC (.str "failed")) (mCons (mVar 2) (mCons (mCall m__law_number (mCons (mVar 0) mNil)) (mCons (mCall m__law_take (mCons (mVar 0) (mCons (mC (.int 5)) mNil))) mNil)))))) mSkip)
  (mRet (mTup (mCons (mC (.str "now")) (mCons (mIx (mLst (mCons (mC (.int 0)) (mCons (mC (.int 4)) (mCons (mBin subD (mBin powD (mC (.int 10)) (mC (.int 12))) (mC (.int 1))) (mCons (mCall m__law_take (mCons (mVar 0) (mCons (mC (.int 100000)) mNil))) mNil))))) (mCall m__law_take (mCons (mVar 0) (mCons (mC (.int 4)) mNil)))) mNil))))))))))
def m__law_are_items : Fn := mDef 3
  (mSeq (mIfS (mTor (mTnot (mTv (mCb isD2 (mCons (mVar 0) (mCons (mC (.ty "tuple")) mNil))))) (mTor (mTv (mBin ltD (mCb lenD (mCons (mVar 0) mNil)) (mVar 1))) (mTv (mBin gtD (mCb lenD (mCons (mVar 0) mNil)) (mC (.int 4)))))) (mRet (mC (.bl false))) mSkip)
  (mRet (mBin eqNil (mLc (sT (mVar 0)) 2 (mTnot (mTv (mCall m__law_is_item (mCons (mVar 2) mNil)))) (mVar 2)) (mLst mNil))))
def m__law_is_command : Fn := mDef 4
  (mSeq (mIfS (mTor (mTnot (mTv (mCb isD2 (mCons (mVar 0) (mCons (mC (.ty "tuple")) mNil))))) (mTv (mBin ltD (mCb lenD (mCons (mVar 0) mNil)) (mC (.int 2))))) (mRet (mC (.bl false))) mSkip)
  (mSeq (mPar [1, 2, 3] (mCons (mIx (mVar 0) (mC (.int 0))) (mCons (mCb lenD (mCons (mVar 0) mNil)) (mCons (mBin subD (mBin powD (mC (.int 10)) (mC (.int 12))) (mC (.int 1))) mNil))))
  (mSeq (mIfS (mTv (mBin eqE (mVar 1) (mC (.str "now")))) (mRet (mAnd (mBin eqD (mVar 2) (mC (.int 2))) (mCall m__law_within (mCons (mIx (mVar 0) (mC (.int 1))) (mCons (mC (.int 0)) (mCons (mVar 3) mNil)))))) mSkip)
  (mSeq (mIfS (mTor (mTnot (mTv (mCall m__law_is_name (mCons (mIx (mVar 0) (mC (.int 1))) mNil)))) (mTv (mBin ltD (mVar 2) (mC (.int 3))))) (mRet (mC (.bl false))) mSkip)
  (mSeq (mIfS (mTv (mBin eqE (mVar 1) (mC (.str "topic")))) (mRet (mAnd (mBin eqD (mVar 2) (mC (.int 3))) (mCb isD2 (mCons (mIx (mVar 0) (mC (.int 2))) (mCons (mC (.ty "bool")) mNil))))) mSkip)
  (mSeq (mIfS (mTv (mBin eqE (mVar 1) (mC (.str "group")))) (mSeq (mIfS (mTor (mTv (mBin neD (mVar 2) (mC (.int 4)))) (mTnot (mTv (mCall m__law_is_name (mCons (mIx (mVar 0) (mC (.int 2))) mNil))))) (mRet (mC (.bl false))) mSkip)
  (mRet (mOr (mBin isD (mIx (mVar 0) (mC (.int 3))) (mC .non)) (mAnd (mCall m__law_is_name (mCons (mIx (mVar 0) (mC (.int 3))) mNil)) (mBin neD (mIx (mVar 0) (mC (.int 3))) (mIx (mVar 0) (mC (.int 2)))))))) mSkip)
  (mSeq (mIfS (mTnot (mTv (mCall m__law_within (mCons (mIx (mVar 0) (mC (.int 2))) (mCons (mC (.int 1)) (mCons (mVar 3) mNil)))))) (mRet (mC (.bl false))) mSkip)
  (mSeq (mIfS (mTv (mBin eqE (mVar 1) (mC (.str "send")))) (mRet (mAnd (mBin eqD (mVar 2) (mC (.int 4))) (mCall m__law_are_items (mCons (mIx (mVar 0) (mC (.int 3))) (mCons (mC (.int 1)) mNil))))) mSkip)
  (mSeq (mIfS (mTv (mBin eqE (mVar 1) (mC (.str "done")))) (mRet (mAnd (mBin eqD (mVar 2) (mC (.int 5))) (mAnd (mCall m__law_is_token (mCons (mIx (mVar 0) (mC (.int 3))) mNil)) (mCall m__law_are_items (mCons (mIx (mVar 0) (mC (.int 4))) (mCons (mC (.int 0)) mNil)))))) mSkip)
  (mRet (mAnd (mBin eqE (mVar 1) (mC (.str "failed"))) (mAnd (mBin eqD (mVar 2) (mC (.int 4))) (mCall m__law_within (mCons (mIx (mVar 0) (mC (.int 3))) (mCons (mC (.int 0)) (mCons (mC (.int 4)) mNil))))))))))))))))
def m__law_shape : Fn := mDef 3
  (mSeq (mAsg (mLst (mCons (mCb listD (mCons (mVar 1) mNil)) (mCons (mBin addD (mVar 1) (mTup (mCons (mC (.int 0)) mNil))) (mCons (mSl (mVar 1) mNoP (mP (mNeg (mC (.int 1))))) (mCons (mTup (mCons (mVar 1) mNil)) (mCons (mC .non) (mCons (mC (.str "send")) (mCons (mCb dictD (mCons (mLst (mCons (mTup (mCons (mC (.str "a")) (mCons (mVar 1) mNil))) mNil)) mNil)) (mCons (mTup mNil) (mCons (mBin addD (mVar 1) (mSl (mVar 1) (mP (mNeg (mC (.int 1)))) mNoP)) mNil)))))))))) (gN 2))
  (mRet (mIx (mVar 2) (mCall m__law_take (mCons (mVar 0) (mCons (mC (.int 9)) mNil))))))
def m__law_spoiled : Fn := mDef 3
  (mSeq (mAsg (mCall m__law_take (mCons (mVar 0) (mCons (mCb lenD (mCons (mVar 1) mNil)) mNil))) (gN 2))
  (mRet (mBin addD (mBin addD (mSl (mVar 1) mNoP (mP (mVar 2))) (mTup (mCons (mCall m__law_odd (mCons (mVar 0) mNil)) mNil))) (mSl (mVar 1) (mP (mBin addD (mVar 2) (mC (.int 1)))) mNoP))))
def m__law_within_last : Fn := mDef 6
  (mSeq (mAsg (mIx (mVar 1) (mNeg (mC (.int 1)))) (gN 2))
  (mSeq (mIfS (mTor (mTnot (mTv (mCb isD2 (mCons (mVar 2) (mCons (mC (.ty "tuple")) mNil))))) (mTv (mBin eqD (mCb lenD (mCons (mVar 2) mNil)) (mC (.int 0))))) (mRet (mBin addD (mSl (mVar 1) mNoP (mP (mNeg (mC (.int 1))))) (mTup (mCons (mCall m__law_odd (mCons (mVar 0) mNil)) mNil)))) mSkip)
  (mSeq (mPar [4, 5] (mCons (mCall m__law_take (mCons (mVar 0) (mCons (mCb lenD (mCons (mVar 2) mNil)) mNil))) (mCons (mCall m__law_take (mCons (mVar 0) (mCons (mC (.int 4)) mNil))) mNil)))
  (mSeq (mAsg (mIx (mVar 2) (mVar 4)) (gN 3))
  (mSeq (mIfS (mTv (mBin eqD (mVar 5) (mC (.int 0)))) (mRet (mBin addD (mSl (mVar 1) mNoP (mP (mNeg (mC (.int 1))))) (mTup (mCons (mCb listD (mCons (mVar 2) mNil)) mNil)))) mSkip)
  (mSeq (mIfS (mTv (mBin eqD (mVar 5) (mC (.int 1)))) (mRet (mBin addD (mSl (mVar 1) mNoP (mP (mNeg (mC (.int 1))))) (mTup (mCons (mBin addD (mVar 2) (mVar 2)) mNil)))) mSkip)
  (mSeq (mIfS (mTand (mTv (mCb isD2 (mCons (mVar 3) (mCons (mC (.ty "tuple")) mNil)))) (mTand (mTv (mBin gtD (mCb lenD (mCons (mVar 3) mNil)) (mC (.int 0)))) (mTv (mBin eqD (mVar 5) (mC (.int 2)))))) (mAsg (mCall m__law_spoiled (mCons (mVar 0) (mCons (mVar 3) mNil))) (gN 3)) (mIfS (mTv (mCb isD2 (mCons (mVar 3) (mCons (mC (.ty "tuple")) mNil)))) (mAsg (mCall m__law_shape (mCons (mVar 0) (mCons (mVar 3) mNil))) (gN 3)) (mAsg (mCall m__law_odd (mCons (mVar 0) mNil)) (gN 3))))
  (mRet (mBin addD (mSl (mVar 1) mNoP (mP (mNeg (mC (.int 1))))) (mTup (mCons (mBin addD (mBin addD (mSl (mVar 2) mNoP (mP (mVar 4))) (mTup (mCons (mVar 3) mNil))) (mSl (mVar 2) (mP (mBin addD (mVar 4) (mC (.int 1)))) mNoP)) mNil)))))))))))
def m__law_told : Fn := mDef 2
  (mRet (mIf (mTv (mVar 1)) (mBin isD (mVar 0) (mC (.bl true))) (mBin isD (mVar 0) (mC (.bl false)))))
def m__law_renamed : Fn := mDef 3
  (mSeq (mAsg (mLst (mCons (mC (.str "topic")) (mCons (mC (.str "group")) (mCons (mC (.str "send")) (mCons (mC (.str "done")) (mCons (mC (.str "failed")) (mCons (mC (.str "now")) (mCons (mC (.str "fail")) (mCons (mC (.str "Send")) (mCons (mC (.str "")) (mCons (mC (.str "want")) (mCons (mC .non) (mCons (mC (.int 0)) (mCons (mTup (mCons (mC (.str "now")) mNil)) mNil)))))))))))))) (gN 2))
  (mRet (mBin addD (mTup (mCons (mIx (mVar 2) (mCall m__law_take (mCons (mVar 0) (mCons (mC (.int 13)) mNil)))) mNil)) (mSl (mVar 1) (mP (mC (.int 1))) mNoP))))
def m__law_right : Fn := mDef 3
  (mSeq (mPar [1, 2] (mCons (mCb reprR (mCons (mVar 0) mNil)) (mCons (mCall m__law_is_command (mCons (mVar 0) mNil)) mNil)))
  (mSeq (mIfS (mTor (mTnot (mTv (mCall m__law_told (mCons (mCall m_is_command (mCons (mVar 0) mNil)) (mCons (mVar 2) mNil))))) (mTnot (mTv (mCall m__law_told (mCons (mKw m_is_command (mVar 0)) (mCons (mVar 2) mNil)))))) (mRet (mC (.bl false))) mSkip)
  (mRet (mBin eqD (mCb reprR (mCons (mVar 0) mNil)) (mVar 1)))))
def t_law_0 : StF :=
  (mRet (mC (.bl false)))
def t_law_1 : StF :=
  (mAsg (mBin addD (mVar 4) (mLst (mCons (mBin addD (mSl (mVar 3) mNoP (mP (mC (.int 3)))) (mTup (mCons (mIx (mVar 3) (mC (.int 2))) mNil))) (mCons (mBin addD (mSl (mVar 3) mNoP (mP (mC (.int 3)))) (mTup (mCons (mIx (mVar 3) (mC (.int 1))) mNil))) mNil)))) (gN 4))
def t_law_2 : StF :=
  (mAsg (mBin addD (mVar 4) (mLst (mCons (mBin addD (mSl (mVar 3) mNoP (mP (mC (.int 3)))) (mTup (mCons (mTup mNil) mNil))) (mCons (mBin addD (mBin addD (mSl (mVar 3) mNoP (mP (mC (.int 2)))) (mTup (mCons (mC (.int 0)) mNil))) (mSl (mVar 3) (mP (mC (.int 3))) mNoP)) mNil)))) (gN 4))
def t_law_3 : StF :=
  (mAsg (mBin addD (mVar 4) (mLst (mCons (mBin addD (mSl (mVar 3) mNoP (mP (mC (.int 4)))) (mTup (mCons (mTup mNil) mNil))) (mCons (mBin addD (mBin addD (mSl (mVar 3) mNoP (mP (mC (.int 3)))) (mTup (mCons (mTup (mCons (mC (.int 0)) (mCons (mC (.int 1)) mNil))) mNil))) (mSl (mVar 3) (mP (mC (.int 4))) mNoP)) mNil)))) (gN 4))
def t_law_4 : StF :=
  (mAsg (mBin addD (mVar 4) (mLst (mCons (mBin addD (mSl (mVar 3) mNoP (mP (mC (.int 4)))) (mTup (mCons (mBin mulT (mTup (mCons (mCall m__law_item (mCons (mVar 2) mNil)) mNil)) (mC (.int 5))) mNil))) mNil))) (gN 4))
def t_law_5 : StF :=
  (mAsg (mBin addD (mVar 4) (mLst (mCons (mBin addD (mSl (mVar 3) mNoP (mP (mC (.int 3)))) (mTup (mCons (mC (.int 5)) mNil))) (mCons (mBin addD (mSl (mVar 3) mNoP (mP (mC (.int 3)))) (mTup (mCons (mNeg (mC (.int 1))) mNil))) (mCons (mBin addD (mSl (mVar 3) mNoP (mP (mC (.int 3)))) (mTup (mCons (mC (.int 4)) mNil))) mNil))))) (gN 4))
def t_law_6 : StF :=
  (mRet (mC (.bl false)))
def t_law_7 : StF :=
  (mIfS (mTnot (mTv (mCall m__law_right (mCons (mVar 5) mNil)))) t_law_6 mSkip)
def t_law_8 : StF :=
  (mFor (sL (mBin addD (mLst (mCons (mVar 3) mNil)) (mVar 4))) (gN 5) t_law_7)
def t_law_9 : StF :=
  (mSeq (mIfS (mTv (mBin eqD (mVar 6) (mC (.int 4)))) t_law_5 mSkip)
  t_law_8)
def t_law_10 : StF :=
  (mSeq (mIfS (mTv (mBin eqD (mVar 6) (mC (.int 3)))) t_law_4 mSkip)
  t_law_9)
def t_law_11 : StF :=
  (mSeq (mIfS (mTand (mTv (mBin eqD (mVar 6) (mC (.int 3)))) (mTv (mBin eqD (mVar 7) (mC (.int 0))))) t_law_3 mSkip)
  t_law_10)
def t_law_12 : StF :=
  (mSeq (mIfS (mTand (mTv (mBin eqD (mVar 6) (mC (.int 2)))) (mTv (mBin eqD (mVar 7) (mC (.int 0))))) t_law_2 mSkip)
  t_law_11)
def t_law_13 : StF :=
  (mSeq (mIfS (mTv (mBin eqD (mVar 6) (mC (.int 1)))) t_law_1 mSkip)
  t_law_12)
def t_law_14 : StF :=
  (mSeq (mAsg (mBin addD (mVar 4) (mLst (mCons (mCall m__law_renamed (mCons (mVar 2) (mCons (mVar 3) mNil))) mNil))) (gN 4))
  t_law_13)
def t_law_15 : StF :=
  (mSeq (mAsg (mLst (mCons (mCall m__law_spoiled (mCons (mVar 2) (mCons (mVar 3) mNil))) (mCons (mCall m__law_shape (mCons (mVar 2) (mCons (mVar 3) mNil))) (mCons (mCall m__law_within_last (mCons (mVar 2) (mCons (mVar 3) mNil))) mNil)))) (gN 4))
  t_law_14)
def t_law_16 : StF :=
  (mSeq (mIfS (mTnot (mTv (mCall m__law_is_command (mCons (mVar 3) mNil)))) t_law_0 mSkip)
  t_law_15)
def t_law_17 : StF :=
  (mSeq (mAsg (mCall m__law_command (mCons (mVar 2) (mCons (mVar 6) mNil))) (gN 3))
  t_law_16)
def t_law_18 : StF :=
  (mSeq (mPar [6, 7] (mCons (mCall m__law_take (mCons (mVar 2) (mCons (mC (.int 6)) mNil))) (mCons (mCall m__law_take (mCons (mVar 2) (mCons (mC (.int 2)) mNil))) mNil)))
  t_law_17)
def t_law_19 : StF :=
  (mSeq (mAsg (mCall m__law_box (mCons (mCall m__law_cell (mCons (mVar 0) (mCons (mVar 1) mNil))) mNil)) (gN 2))
  t_law_18)
def t_law_20 : StF :=
  (mRet (mC (.bl true)))
def t_law_21 : StF :=
  (mSeq (mFor (sR (mCons (mCb max2D (mCons (mC (.int 4)) (mCons (mCb min2D (mCons (mC (.int 12)) (mCons (mCb lenD (mCons (mVar 0) mNil)) mNil))) mNil))) mNil)) (gN 1) t_law_19)
  t_law_20)
def m_law : Fn := mDef 8
  t_law_21
end
end K04

namespace K04
open PySem L2 W2 RZ M
def top (i : Nat) : Stmt := PySem.Challenge.pw_inorderonce_k04_commands.main.body.getD i (.Pass ⟨0, 0, 0, 0⟩)
structure Txt (w : World) (K : PySem.W.Frag) (mg : Str → Option Value) : Prop where
  n_abs : mg "abs" = none
  n_all : mg "all" = none
  n_bool : mg "bool" = none
  n_dict : mg "dict" = none
  n_int : mg "int" = none
  n_isinstance : mg "isinstance" = none
  n_len : mg "len" = none
  n_list : mg "list" = none
  n_max : mg "max" = none
  n_min : mg "min" = none
  n_range : mg "range" = none
  n_repr : mg "repr" = none
  n_str : mg "str" = none
  n_sum : mg "sum" = none
  n_tuple : mg "tuple" = none
  n_zip : mg "zip" = none
  c_COMMANDS : Tab w K mg "COMMANDS" d_COMMANDS
  c_GREATEST : ∃ t, mg "GREATEST" = some (.int 999999999999 t)
  c_HIGHEST_PRIORITY : ∃ t, mg "HIGHEST_PRIORITY" = some (.int 3 t)
  c_ITEM : ∃ a, mg "ITEM" = some (.ref a) ∧ ∀ c, Den K mg c (.ref a) d_ITEM
  c_LONGEST_WAIT : ∃ t, mg "LONGEST_WAIT" = some (.int 50 t)
  c_MOST_OF_BODY : ∃ t, mg "MOST_OF_BODY" = some (.int 40 t)
  c_MOST_OF_ITEMS : ∃ t, mg "MOST_OF_ITEMS" = some (.int 4 t)
  c_MOST_OF_NAME : ∃ t, mg "MOST_OF_NAME" = some (.int 8 t)
  c_MOST_TRIES : ∃ t, mg "MOST_TRIES" = some (.int 4 t)
  c_TOKEN : ∃ a, mg "TOKEN" = some (.ref a) ∧ ∀ c, Den K mg c (.ref a) d_TOKEN
section
variable {P : Program} {w : World} {K : PySem.W.Frag} {mg : Str → Option Value} {base : Heap}
abbrev s_is_integer : Stmt := top 1
abbrev n_is_integer : List Str := ["value"]
theorem sc_is_integer : FnScope n_is_integer ["value"] (defScope s_is_integer) := ⟨rfl, rfl, rfl, by decide +kernel, rfl, by decide +kernel, by decide +kernel⟩
theorem ok_is_integer {f : Addr} {fd : FuncData} (T : Txt w K mg) (Z : Fun K "is_integer" "is_integer" s_is_integer f fd) : FnG P w K mg base 1 f fd ["value"] (spM K mg 1 m_is_integer) := by
  exact def_ok Z sc_is_integer fun c A o s H E hr =>
  (mss_one (ms_ret (me_and (me_cb (pe_callB cd_isi (by rfl) T.n_isinstance (by decide +kernel) (ma_cons (me_var 0) (ma_cons (me_ty "int" (by rfl) T.n_int (by decide +kernel)) ma_nil)))) (me_one (me_not (me_cb (pe_callB cd_isi (by rfl) T.n_isinstance (by decide +kernel) (ma_cons (me_var 0) (ma_cons (me_ty "bool" (by rfl) T.n_bool (by decide +kernel)) ma_nil)))))))))
abbrev s_is_between : Stmt := top 2
abbrev n_is_between : List Str := ["value", "least", "most"]
theorem sc_is_between : FnScope n_is_between ["value", "least", "most"] (defScope s_is_between) := ⟨rfl, rfl, rfl, by decide +kernel, rfl, by decide +kernel, by decide +kernel⟩
theorem ok_is_between {f : Addr} {fd : FuncData} (T : Txt w K mg) (Z : Fun K "is_between" "is_between" s_is_between f fd) (C_is_integer : Cal P w K mg base 1 "is_integer" 1 m_is_integer) : FnG P w K mg base 2 f fd ["value", "least", "most"] (spM K mg 3 m_is_between) := by
  exact def_ok Z sc_is_between fun c A o s H E hr =>
  (mss_one (ms_ret (me_and (me_call C_is_integer (hr.mono (by decide)) (by rfl) (ma_cons (me_var 0) ma_nil) (mcons_len mnil_len)) (me_one (me_chain od_le od_le (me_var 1) (me_var 0) (me_var 2))))))
abbrev s_has_word : Stmt := top 3
abbrev n_has_word : List Str := ["value"]
theorem sc_has_word : FnScope n_has_word ["value"] (defScope s_has_word) := ⟨rfl, rfl, rfl, by decide +kernel, rfl, by decide +kernel, by decide +kernel⟩
theorem ok_has_word {f : Addr} {fd : FuncData} (T : Txt w K mg) (Z : Fun K "has_word" "has_word" s_has_word f fd) : FnG P w K mg base 1 f fd ["value"] (spM K mg 1 m_has_word) := by
  exact def_ok Z sc_has_word fun c A o s H E hr =>
  (mss_one (ms_ret (me_and (me_cb (pe_callB cd_isi (by rfl) T.n_isinstance (by decide +kernel) (ma_cons (me_var 0) (ma_cons (me_ty "tuple" (by rfl) T.n_tuple (by decide +kernel)) ma_nil)))) (me_and (me_cmp od_gt (me_cb (pe_callB cd_len (by rfl) T.n_len (by decide +kernel) (ma_cons (me_var 0) ma_nil))) me_int (nomark _)) (me_one (me_cb (pe_callB cd_isi (by rfl) T.n_isinstance (by decide +kernel) (ma_cons (me_ix (pe_ix ix_seq (me_var 0) me_int (fun _ _ => rfl))) (ma_cons (me_ty "str" (by rfl) T.n_str (by decide +kernel)) ma_nil)))))))))
abbrev s_is_signs : Stmt := top 7
abbrev n_is_signs : List Str := ["value"]
theorem sc_is_signs : FnScope n_is_signs ["value"] (defScope s_is_signs) := ⟨rfl, rfl, rfl, by decide +kernel, rfl, by decide +kernel, by decide +kernel⟩
theorem ok_is_signs {f : Addr} {fd : FuncData} (T : Txt w K mg) (Z : Fun K "is_signs" "is_signs" s_is_signs f fd) : FnG P w K mg base 1 f fd ["value"] (spM K mg 1 m_is_signs) := by
  exact def_ok Z sc_is_signs fun c A o s H E hr =>
  (mss_one (ms_ret (me_and (me_cb (pe_callB cd_isi (by rfl) T.n_isinstance (by decide +kernel) (ma_cons (me_var 0) (ma_cons (me_ty "str" (by rfl) T.n_str (by decide +kernel)) ma_nil)))) (me_and (me_ms (pe_bm0 PySem.F.plainAttrs_str PySem.F.slot_str_isascii PySem.F.type_str_isascii mt_isascii (me_var 0))) (me_one (me_ms (pe_bm0 PySem.F.plainAttrs_str PySem.F.slot_str_isprintable PySem.F.type_str_isprintable mt_isprintable (me_var 0))))))))
abbrev s_is_text : Stmt := top 8
abbrev n_is_text : List Str := ["value", "most"]
theorem sc_is_text : FnScope n_is_text ["value", "most"] (defScope s_is_text) := ⟨rfl, rfl, rfl, by decide +kernel, rfl, by decide +kernel, by decide +kernel⟩
theorem ok_is_text {f : Addr} {fd : FuncData} (T : Txt w K mg) (Z : Fun K "is_text" "is_text" s_is_text f fd) (C_is_signs : Cal P w K mg base 1 "is_signs" 1 m_is_signs) : FnG P w K mg base 2 f fd ["value", "most"] (spM K mg 2 m_is_text) := by
  exact def_ok Z sc_is_text fun c A o s H E hr =>
  (mss_one (ms_ret (me_and (me_cb (pe_callB cd_isi (by rfl) T.n_isinstance (by decide +kernel) (ma_cons (me_var 0) (ma_cons (me_ty "str" (by rfl) T.n_str (by decide +kernel)) ma_nil)))) (me_and (me_cmp od_le (me_cb (pe_callB cd_len (by rfl) T.n_len (by decide +kernel) (ma_cons (me_var 0) ma_nil))) (me_var 1) (nomark _)) (me_one (me_call C_is_signs (hr.mono (by decide)) (by rfl) (ma_cons (me_var 0) ma_nil) (mcons_len mnil_len)))))))
abbrev s_is_name : Stmt := top 9
abbrev n_is_name : List Str := ["value"]
theorem sc_is_name : FnScope n_is_name ["value"] (defScope s_is_name) := ⟨rfl, rfl, rfl, by decide +kernel, rfl, by decide +kernel, by decide +kernel⟩
theorem ok_is_name {f : Addr} {fd : FuncData} (T : Txt w K mg) (Z : Fun K "is_name" "is_name" s_is_name f fd) (C_is_text : Cal P w K mg base 2 "is_text" 2 m_is_text) : FnG P w K mg base 3 f fd ["value"] (spM K mg 1 m_is_name) := by
  obtain ⟨t_MOST_OF_NAME, h_MOST_OF_NAME⟩ := T.c_MOST_OF_NAME
  exact def_ok Z sc_is_name fun c A o s H E hr =>
  (mss_one (ms_ret (me_and (me_call C_is_text (hr.mono (by decide)) (by rfl) (ma_cons (me_var 0) (ma_cons (me_gint (by rfl) h_MOST_OF_NAME) ma_nil)) (mcons_len (mcons_len mnil_len))) (me_and (me_ms (pe_bm0 PySem.F.plainAttrs_str PySem.F.slot_str_isalpha PySem.F.type_str_isalpha mt_isalpha (me_var 0))) (me_one (me_ms (pe_bm0 PySem.F.plainAttrs_str PySem.F.slot_str_islower PySem.F.type_str_islower mt_islower (me_var 0))))))))
abbrev s__is_name : Stmt := top 21
abbrev n__is_name : List Str := ["value"]
theorem sc__is_name : FnScope n__is_name ["value"] (defScope s__is_name) := ⟨rfl, rfl, rfl, by decide +kernel, rfl, by decide +kernel, by decide +kernel⟩
theorem ok__is_name {f : Addr} {fd : FuncData} (T : Txt w K mg) (Z : Fun K "_is_name" "_is_name" s__is_name f fd) (C_is_name : Cal P w K mg base 3 "is_name" 1 m_is_name) : FnG P w K mg base 4 f fd ["value"] (spM K mg 1 m__is_name) := by
  exact def_ok Z sc__is_name fun c A o s H E hr =>
  (mss_one (ms_ret (me_call C_is_name (hr.mono (by decide)) (by rfl) (ma_cons (me_var 0) ma_nil) (mcons_len mnil_len))))
abbrev s__is_name_or_none : Stmt := top 22
abbrev n__is_name_or_none : List Str := ["value"]
theorem sc__is_name_or_none : FnScope n__is_name_or_none ["value"] (defScope s__is_name_or_none) := ⟨rfl, rfl, rfl, by decide +kernel, rfl, by decide +kernel, by decide +kernel⟩
theorem ok__is_name_or_none {f : Addr} {fd : FuncData} (T : Txt w K mg) (Z : Fun K "_is_name_or_none" "_is_name_or_none" s__is_name_or_none f fd) (C_is_name : Cal P w K mg base 3 "is_name" 1 m_is_name) : FnG P w K mg base 4 f fd ["value"] (spM K mg 1 m__is_name_or_none) := by
  exact def_ok Z sc__is_name_or_none fun c A o s H E hr =>
  (mss_one (ms_ret (me_or (me_cmp od_is (me_var 0) me_non (nomark _)) (me_one (me_call C_is_name (hr.mono (by decide)) (by rfl) (ma_cons (me_var 0) ma_nil) (mcons_len mnil_len))))))
abbrev s__is_bool : Stmt := top 23
abbrev n__is_bool : List Str := ["value"]
theorem sc__is_bool : FnScope n__is_bool ["value"] (defScope s__is_bool) := ⟨rfl, rfl, rfl, by decide +kernel, rfl, by decide +kernel, by decide +kernel⟩
theorem ok__is_bool {f : Addr} {fd : FuncData} (T : Txt w K mg) (Z : Fun K "_is_bool" "_is_bool" s__is_bool f fd) : FnG P w K mg base 1 f fd ["value"] (spM K mg 1 m__is_bool) := by
  exact def_ok Z sc__is_bool fun c A o s H E hr =>
  (mss_one (ms_ret (me_cb (pe_callB cd_isi (by rfl) T.n_isinstance (by decide +kernel) (ma_cons (me_var 0) (ma_cons (me_ty "bool" (by rfl) T.n_bool (by decide +kernel)) ma_nil))))))
abbrev s__is_count : Stmt := top 24
abbrev n__is_count : List Str := ["value"]
theorem sc__is_count : FnScope n__is_count ["value"] (defScope s__is_count) := ⟨rfl, rfl, rfl, by decide +kernel, rfl, by decide +kernel, by decide +kernel⟩
theorem ok__is_count {f : Addr} {fd : FuncData} (T : Txt w K mg) (Z : Fun K "_is_count" "_is_count" s__is_count f fd) (C_is_between : Cal P w K mg base 2 "is_between" 3 m_is_between) : FnG P w K mg base 3 f fd ["value"] (spM K mg 1 m__is_count) := by
  obtain ⟨t_GREATEST, h_GREATEST⟩ := T.c_GREATEST
  exact def_ok Z sc__is_count fun c A o s H E hr =>
  (mss_one (ms_ret (me_call C_is_between (hr.mono (by decide)) (by rfl) (ma_cons (me_var 0) (ma_cons me_int (ma_cons (me_gint (by rfl) h_GREATEST) ma_nil))) (mcons_len (mcons_len (mcons_len mnil_len))))))
abbrev s__is_body : Stmt := top 26
abbrev n__is_body : List Str := ["value"]
theorem sc__is_body : FnScope n__is_body ["value"] (defScope s__is_body) := ⟨rfl, rfl, rfl, by decide +kernel, rfl, by decide +kernel, by decide +kernel⟩
theorem ok__is_body {f : Addr} {fd : FuncData} (T : Txt w K mg) (Z : Fun K "_is_body" "_is_body" s__is_body f fd) (C_is_text : Cal P w K mg base 2 "is_text" 2 m_is_text) : FnG P w K mg base 3 f fd ["value"] (spM K mg 1 m__is_body) := by
  obtain ⟨t_MOST_OF_BODY, h_MOST_OF_BODY⟩ := T.c_MOST_OF_BODY
  exact def_ok Z sc__is_body fun c A o s H E hr =>
  (mss_one (ms_ret (me_call C_is_text (hr.mono (by decide)) (by rfl) (ma_cons (me_var 0) (ma_cons (me_gint (by rfl) h_MOST_OF_BODY) ma_nil)) (mcons_len (mcons_len mnil_len)))))
abbrev s__is_priority : Stmt := top 27
abbrev n__is_priority : List Str := ["value"]
theorem sc__is_priority : FnScope n__is_priority ["value"] (defScope s__is_priority) := ⟨rfl, rfl, rfl, by decide +kernel, rfl, by decide +kernel, by decide +kernel⟩
theorem ok__is_priority {f : Addr} {fd : FuncData} (T : Txt w K mg) (Z : Fun K "_is_priority" "_is_priority" s__is_priority f fd) (C_is_between : Cal P w K mg base 2 "is_between" 3 m_is_between) : FnG P w K mg base 3 f fd ["value"] (spM K mg 1 m__is_priority) := by
  obtain ⟨t_HIGHEST_PRIORITY, h_HIGHEST_PRIORITY⟩ := T.c_HIGHEST_PRIORITY
  exact def_ok Z sc__is_priority fun c A o s H E hr =>
  (mss_one (ms_ret (me_call C_is_between (hr.mono (by decide)) (by rfl) (ma_cons (me_var 0) (ma_cons me_int (ma_cons (me_gint (by rfl) h_HIGHEST_PRIORITY) ma_nil))) (mcons_len (mcons_len (mcons_len mnil_len))))))
abbrev s__is_wait : Stmt := top 28
abbrev n__is_wait : List Str := ["value"]
theorem sc__is_wait : FnScope n__is_wait ["value"] (defScope s__is_wait) := ⟨rfl, rfl, rfl, by decide +kernel, rfl, by decide +kernel, by decide +kernel⟩
theorem ok__is_wait {f : Addr} {fd : FuncData} (T : Txt w K mg) (Z : Fun K "_is_wait" "_is_wait" s__is_wait f fd) (C_is_between : Cal P w K mg base 2 "is_between" 3 m_is_between) : FnG P w K mg base 3 f fd ["value"] (spM K mg 1 m__is_wait) := by
  obtain ⟨t_LONGEST_WAIT, h_LONGEST_WAIT⟩ := T.c_LONGEST_WAIT
  exact def_ok Z sc__is_wait fun c A o s H E hr =>
  (mss_one (ms_ret (me_call C_is_between (hr.mono (by decide)) (by rfl) (ma_cons (me_var 0) (ma_cons me_int (ma_cons (me_gint (by rfl) h_LONGEST_WAIT) ma_nil))) (mcons_len (mcons_len (mcons_len mnil_len))))))
abbrev s__is_number : Stmt := top 25
abbrev n__is_number : List Str := ["value"]
theorem sc__is_number : FnScope n__is_number ["value"] (defScope s__is_number) := ⟨rfl, rfl, rfl, by decide +kernel, rfl, by decide +kernel, by decide +kernel⟩
theorem ok__is_number {f : Addr} {fd : FuncData} (T : Txt w K mg) (Z : Fun K "_is_number" "_is_number" s__is_number f fd) (C_is_between : Cal P w K mg base 2 "is_between" 3 m_is_between) : FnG P w K mg base 3 f fd ["value"] (spM K mg 1 m__is_number) := by
  obtain ⟨t_GREATEST, h_GREATEST⟩ := T.c_GREATEST
  exact def_ok Z sc__is_number fun c A o s H E hr =>
  (mss_one (ms_ret (me_call C_is_between (hr.mono (by decide)) (by rfl) (ma_cons (me_var 0) (ma_cons me_int (ma_cons (me_gint (by rfl) h_GREATEST) ma_nil))) (mcons_len (mcons_len (mcons_len mnil_len))))))
abbrev s__is_tries : Stmt := top 29
abbrev n__is_tries : List Str := ["value"]
theorem sc__is_tries : FnScope n__is_tries ["value"] (defScope s__is_tries) := ⟨rfl, rfl, rfl, by decide +kernel, rfl, by decide +kernel, by decide +kernel⟩
theorem ok__is_tries {f : Addr} {fd : FuncData} (T : Txt w K mg) (Z : Fun K "_is_tries" "_is_tries" s__is_tries f fd) (C_is_between : Cal P w K mg base 2 "is_between" 3 m_is_between) : FnG P w K mg base 3 f fd ["value"] (spM K mg 1 m__is_tries) := by
  obtain ⟨t_MOST_TRIES, h_MOST_TRIES⟩ := T.c_MOST_TRIES
  exact def_ok Z sc__is_tries fun c A o s H E hr =>
  (mss_one (ms_ret (me_call C_is_between (hr.mono (by decide)) (by rfl) (ma_cons (me_var 0) (ma_cons me_int (ma_cons (me_gint (by rfl) h_MOST_TRIES) ma_nil))) (mcons_len (mcons_len (mcons_len mnil_len))))))
abbrev s_fits : Stmt := top 4
abbrev n_fits : List Str := ["value", "form", "judge", "part"]
theorem sc_fits : FnScope n_fits ["value", "form"] (defScope s_fits) := ⟨rfl, rfl, rfl, by decide +kernel, rfl, by decide +kernel, by decide +kernel⟩
theorem ok_fits {f : Addr} {fd : FuncData} (T : Txt w K mg) (Z : Fun K "fits" "fits" s_fits f fd) {k : Nat} (hk : 4 ≤ k) (Y_fits Y_is_item Y_is_token Y_is_sending Y__is_made : Fn) (C_tblF : ∀ z F, (tblF Y_is_token Y__is_made Y_is_sending) z = some F → Cal P w K mg base k z 1 F) : FnG P w K mg base (k + 1) f fd ["value", "form"] (spM K mg 2 (b_fits Y_fits Y_is_item Y_is_token Y_is_sending Y__is_made)) := by
  exact def_ok Z sc_fits fun c A o s H E hr =>
  (mss_cons (ms_if (mt_w (mw_or (mt_not (mt_val (me_cb (pe_callB cd_isi (by rfl) T.n_isinstance (by decide +kernel) (ma_cons (me_var 0) (ma_cons (me_ty "tuple" (by rfl) T.n_tuple (by decide +kernel)) ma_nil)))))) (mw_or1 (mt_cmp (od_ne hr.rg) (me_cb (pe_callB cd_len (by rfl) T.n_len (by decide +kernel) (ma_cons (me_var 0) ma_nil))) (me_cb (pe_callB cd_len (by rfl) T.n_len (by decide +kernel) (ma_cons (me_var 1) ma_nil))) (nomark _))))) (mss_one (ms_ret me_bl)) mss_nil)
  (mss_cons (ms_for (ps_for PassesOwn.never rfl (mi_zip (pi_zipA (by rfl) T.n_zip (ma_cons (me_var 1) (ma_cons (me_var 0) ma_nil)))) (mg_tup rfl (gs_cons (i := 2) (pgs_cons (pg_name (i := 2) sc_fits.nd rfl (Or.inl rfl)) (gs_cons (i := 3) (pgs_cons (pg_name (i := 3) sc_fits.nd rfl (Or.inl rfl)) gs_nil)))) (pg_tup rfl (gs_cons (i := 2) (pgs_cons (pg_name (i := 2) sc_fits.nd rfl (Or.inl rfl)) (gs_cons (i := 3) (pgs_cons (pg_name (i := 3) sc_fits.nd rfl (Or.inl rfl)) gs_nil)))))) (mss_one (ms_if (mt_not (mt_val (me_held (tbl := (tblF Y_is_token Y__is_made Y_is_sending)) C_tblF hr rfl (Or.inl rfl) (ma_cons (me_var 3) ma_nil) (mcons_len mnil_len)))) (mss_one (ms_ret me_bl)) mss_nil))))
  (mss_one (ms_ret me_bl))))
abbrev s_is_item : Stmt := top 17
abbrev n_is_item : List Str := ["value"]
theorem sc_is_item : FnScope n_is_item ["value"] (defScope s_is_item) := ⟨rfl, rfl, rfl, by decide +kernel, rfl, by decide +kernel, by decide +kernel⟩
theorem ok_is_item {f : Addr} {fd : FuncData} (T : Txt w K mg) (Z : Fun K "is_item" "is_item" s_is_item f fd) {k : Nat} (hk : 4 ≤ k) (Y_fits Y_is_item Y_is_token Y_is_sending Y__is_made : Fn) (C_fits : Cal P w K mg base k "fits" 2 Y_fits) : FnG P w K mg base (k + 1) f fd ["value"] (spM K mg 1 (b_is_item Y_fits Y_is_item Y_is_token Y_is_sending Y__is_made)) := by
  obtain ⟨a_ITEM, h_ITEM, q_ITEM⟩ := T.c_ITEM
  exact def_ok Z sc_is_item fun c A o s H E hr =>
  (mss_one (ms_ret (me_call C_fits hr (by rfl) (ma_cons (me_var 0) (ma_cons (me_gref (by rfl) h_ITEM q_ITEM) ma_nil)) (mcons_len (mcons_len mnil_len)))))
abbrev s_is_token : Stmt := top 18
abbrev n_is_token : List Str := ["value"]
theorem sc_is_token : FnScope n_is_token ["value"] (defScope s_is_token) := ⟨rfl, rfl, rfl, by decide +kernel, rfl, by decide +kernel, by decide +kernel⟩
theorem ok_is_token {f : Addr} {fd : FuncData} (T : Txt w K mg) (Z : Fun K "is_token" "is_token" s_is_token f fd) {k : Nat} (hk : 4 ≤ k) (Y_fits Y_is_item Y_is_token Y_is_sending Y__is_made : Fn) (C_fits : Cal P w K mg base k "fits" 2 Y_fits) : FnG P w K mg base (k + 1) f fd ["value"] (spM K mg 1 (b_is_token Y_fits Y_is_item Y_is_token Y_is_sending Y__is_made)) := by
  obtain ⟨a_TOKEN, h_TOKEN, q_TOKEN⟩ := T.c_TOKEN
  exact def_ok Z sc_is_token fun c A o s H E hr =>
  (mss_one (ms_ret (me_call C_fits hr (by rfl) (ma_cons (me_var 0) (ma_cons (me_gref (by rfl) h_TOKEN q_TOKEN) ma_nil)) (mcons_len (mcons_len mnil_len)))))
abbrev s_is_sending : Stmt := top 20
abbrev n_is_sending : List Str := ["value"]
theorem sc_is_sending : FnScope n_is_sending ["value"] (defScope s_is_sending) := ⟨rfl, rfl, rfl, by decide +kernel, rfl, by decide +kernel, by decide +kernel⟩
theorem ok_is_sending {f : Addr} {fd : FuncData} (T : Txt w K mg) (Z : Fun K "is_sending" "is_sending" s_is_sending f fd) {k : Nat} (hk : 4 ≤ k) (Y_fits Y_is_item Y_is_token Y_is_sending Y__is_made : Fn) (C__is_made : Cal P w K mg base k "_is_made" 1 Y__is_made) : FnG P w K mg base (k + 1) f fd ["value"] (spM K mg 1 (b_is_sending Y_fits Y_is_item Y_is_token Y_is_sending Y__is_made)) := by
  exact def_ok Z sc_is_sending fun c A o s H E hr =>
  (mss_one (ms_ret (me_and (me_call C__is_made hr (by rfl) (ma_cons (me_var 0) ma_nil) (mcons_len mnil_len)) (me_one (me_cmp od_gt (me_cb (pe_callB cd_len (by rfl) T.n_len (by decide +kernel) (ma_cons (me_var 0) ma_nil))) me_int (nomark _))))))
abbrev s__is_made : Stmt := top 30
abbrev n__is_made : List Str := ["value", "part"]
theorem sc__is_made : FnScope n__is_made ["value"] (defScope s__is_made) := ⟨rfl, rfl, rfl, by decide +kernel, rfl, by decide +kernel, by decide +kernel⟩
theorem ok__is_made {f : Addr} {fd : FuncData} (T : Txt w K mg) (Z : Fun K "_is_made" "_is_made" s__is_made f fd) {k : Nat} (hk : 4 ≤ k) (Y_fits Y_is_item Y_is_token Y_is_sending Y__is_made : Fn) (C_is_item : Cal P w K mg base k "is_item" 1 Y_is_item) : FnG P w K mg base (k + 1) f fd ["value"] (spM K mg 1 (b__is_made Y_fits Y_is_item Y_is_token Y_is_sending Y__is_made)) := by
  obtain ⟨t_MOST_OF_ITEMS, h_MOST_OF_ITEMS⟩ := T.c_MOST_OF_ITEMS
  exact def_ok Z sc__is_made fun c A o s H E hr =>
  (mss_cons (ms_if (mt_w (mw_or (mt_not (mt_val (me_cb (pe_callB cd_isi (by rfl) T.n_isinstance (by decide +kernel) (ma_cons (me_var 0) (ma_cons (me_ty "tuple" (by rfl) T.n_tuple (by decide +kernel)) ma_nil)))))) (mw_or1 (mt_cmp od_gt (me_cb (pe_callB cd_len (by rfl) T.n_len (by decide +kernel) (ma_cons (me_var 0) ma_nil))) (me_gint (by rfl) h_MOST_OF_ITEMS) (nomark _))))) (mss_one (ms_ret me_bl)) mss_nil)
  (mss_one (ms_ret (me_cb (pe_callB (cd_all rfl) (by rfl) T.n_all (by decide +kernel) (ma_cons (me_lc (pe_lc (own := [("part", 1)]) rfl sc__is_made.nd (mi_tup (pi_tup (me_var 0))) (blkOk_by (N := n__is_made) (sc := defScope s__is_made) (by decide +kernel)) (fun _ _ _ _ _ => pg_name (i := 1) sc__is_made.nd rfl (Or.inl rfl)) (fun _ _ _ _ _ => mts_nil) (fun _ _ _ _ _ => (me_call C_is_item hr (by rfl) (ma_cons (me_var 1) ma_nil) (mcons_len mnil_len))))) ma_nil))))))
abbrev s_is_command : Stmt := top 19
abbrev n_is_command : List Str := ["value"]
theorem sc_is_command : FnScope n_is_command ["value"] (defScope s_is_command) := ⟨rfl, rfl, rfl, by decide +kernel, rfl, by decide +kernel, by decide +kernel⟩
theorem ok_is_command {f : Addr} {fd : FuncData} (T : Txt w K mg) (Z : Fun K "is_command" "is_command" s_is_command f fd) (C_has_word : Cal P w K mg base 1 "has_word" 1 m_has_word) (C_fits : Cal P w K mg base 12 "fits" 2 (m_fits 8)) : FnG P w K mg base 13 f fd ["value"] (spM K mg 1 m_is_command) := by
  exact def_ok Z sc_is_command fun c A o s H E hr =>
  (mss_cons (ms_if (mt_w (mw_or (mt_not (mt_val (me_call C_has_word (hr.mono (by decide)) (by rfl) (ma_cons (me_var 0) ma_nil) (mcons_len mnil_len)))) (mw_or1 (mt_ninKd T.c_COMMANDS (by rfl) (me_ix (pe_ix ix_seq (me_var 0) me_int (fun _ _ => rfl))))))) (mss_one (ms_ret me_bl)) mss_nil)
  (mss_cons (ms_if (mt_not (mt_val (me_call C_fits (hr.mono (by decide)) (by rfl) (ma_cons (me_sl (pe_slice sl3 (me_var 0) (mo_some me_int) mo_none)) (ma_cons (me_ixKd T.c_COMMANDS (by rfl) (me_ix (pe_ix ix_seq (me_var 0) me_int (fun _ _ => rfl))) (fun _ _ => rfl)) ma_nil)) (mcons_len (mcons_len mnil_len))))) (mss_one (ms_ret me_bl)) mss_nil)
  (mss_one (ms_ret (me_or (me_cmp (od_ne hr.rg) (me_ix (pe_ix ix_seq (me_var 0) me_int (fun _ _ => rfl))) me_str (nomark _)) (me_one (me_cmp (od_ne hr.rg) (me_ix (pe_ix ix_seq (me_var 0) me_int (fun _ _ => rfl))) (me_ix (pe_ix ix_seq (me_var 0) me_int (fun _ _ => rfl))) (nomark _))))))))
abbrev s__law_cell : Stmt := top 35
abbrev n__law_cell : List Str := ["_law_script", "_law_k"]
theorem sc__law_cell : FnScope n__law_cell ["_law_script", "_law_k"] (defScope s__law_cell) := ⟨rfl, rfl, rfl, by decide +kernel, rfl, by decide +kernel, by decide +kernel⟩
theorem ok__law_cell {f : Addr} {fd : FuncData} (T : Txt w K mg) (Z : Fun K "_law_cell" "_law_cell" s__law_cell f fd) : FnG P w K mg base 1 f fd ["_law_script", "_law_k"] (spM K mg 2 m__law_cell) := by
  exact def_ok Z sc__law_cell fun c A o s H E hr =>
  (mss_one (ms_ret (me_if (mt_cmp od_lt (me_var 1) (me_cb (pe_callB cd_len (by rfl) T.n_len (by decide +kernel) (ma_cons (me_var 0) ma_nil))) (nomark _)) (me_ix (pe_ix ix_seq (me_var 0) (me_var 1) (fun _ _ => rfl))) (me_bin od_add (me_bin od_mul me_int (me_var 1)) (me_bin od_mod (me_cb (pe_callB (cd_sum rfl) (by rfl) T.n_sum (by decide +kernel) (ma_cons (me_sl (pe_slice sl3 (me_var 0) mo_none (mo_some me_int))) ma_nil))) me_int)))))
abbrev s__law_box : Stmt := top 36
abbrev n__law_box : List Str := ["_law_great"]
theorem sc__law_box : FnScope n__law_box ["_law_great"] (defScope s__law_box) := ⟨rfl, rfl, rfl, by decide +kernel, rfl, by decide +kernel, by decide +kernel⟩
theorem ok__law_box {f : Addr} {fd : FuncData} (T : Txt w K mg) (Z : Fun K "_law_box" "_law_box" s__law_box f fd) : FnG P w K mg base 1 f fd ["_law_great"] (spM K mg 1 m__law_box) := by
  exact def_ok Z sc__law_box fun c A o s H E hr =>
  (mss_one (ms_ret (me_new (ma_cons (me_cb (pe_callB cd_abs (by rfl) T.n_abs (by decide +kernel) (ma_cons (me_var 0) ma_nil))) (ma_cons (me_cmp od_ge (me_cb (pe_callB cd_abs (by rfl) T.n_abs (by decide +kernel) (ma_cons (me_var 0) ma_nil))) (me_bin od_pow me_int me_int) (nomark _)) (ma_cons (me_bin od_mod (me_cb (pe_callTy cd_int (by rfl) T.n_int (by decide +kernel) (ma_cons (me_cb (pe_callB cd_abs (by rfl) T.n_abs (by decide +kernel) (ma_cons (me_var 0) ma_nil))) ma_nil))) me_int) (ma_cons me_int ma_nil)))))))
abbrev s__law_take : Stmt := top 37
abbrev n__law_take : List Str := ["_law_box_here", "_law_many", "_law_mixed", "_law_digit"]
theorem sc__law_take : FnScope n__law_take ["_law_box_here", "_law_many"] (defScope s__law_take) := ⟨rfl, rfl, rfl, by decide +kernel, rfl, by decide +kernel, by decide +kernel⟩
theorem ok__law_take {f : Addr} {fd : FuncData} (T : Txt w K mg) (Z : Fun K "_law_take" "_law_take" s__law_take f fd) : FnG P w K mg base 1 f fd ["_law_box_here", "_law_many"] (spM K mg 2 m__law_take) := by
  exact def_ok Z sc__law_take fun c A o s H E hr =>
  (mss_cons (ms_if (mt_w (mw_and (mt_val (me_ix (pe_ix ix_seq (me_var 0) me_int (fun _ _ => rfl)))) (mw_and1 (mt_cmp od_gt (me_ix (pe_ix ix_seq (me_var 0) me_int (fun _ _ => rfl))) me_int (nomark _))))) (mss_cons (ms_asg (ps_asg (me_bin od_mod (me_cb (pe_callTy cd_int (by rfl) T.n_int (by decide +kernel) (ma_cons (me_ix (pe_ix ix_seq (me_var 0) me_int (fun _ _ => rfl))) ma_nil))) (me_var 1)) (mg_name (i := 3) sc__law_take.nd rfl (Or.inl rfl))))
  (mss_cons (ms_setI (ps_asg (me_bin od_fdv (me_ix (pe_ix ix_seq (me_var 0) me_int (fun _ _ => rfl))) (me_var 1)) (pg_sub (me_var 0) me_int set_list)))
  (mss_one (ms_ret (me_var 3))))) mss_nil)
  (mss_cons (ms_setI (ps_asg (me_bin od_add (me_ix (pe_ix ix_seq (me_var 0) me_int (fun _ _ => rfl))) me_int) (pg_sub (me_var 0) me_int set_list)))
  (mss_cons (ms_asg (ps_asg (me_bin od_mod (me_cb (pe_callTy cd_int (by rfl) T.n_int (by decide +kernel) (ma_cons (me_bin od_pow (me_bin od_add (me_bin od_add (me_ix (pe_ix ix_seq (me_var 0) me_int (fun _ _ => rfl))) (me_bin od_mul me_int (me_ix (pe_ix ix_seq (me_var 0) me_int (fun _ _ => rfl))))) me_int) me_int) ma_nil))) me_int) (mg_name (i := 2) sc__law_take.nd rfl (Or.inl rfl))))
  (mss_one (ms_ret (me_bin od_mod (me_bin od_fdv (me_bin od_mod (me_cb (pe_callTy cd_int (by rfl) T.n_int (by decide +kernel) (ma_cons (me_bin od_pow (me_bin od_add (me_bin od_mul (me_var 2) me_int) (me_bin od_mul me_int (me_ix (pe_ix ix_seq (me_var 0) me_int (fun _ _ => rfl))))) me_int) ma_nil))) me_int) me_int) (me_var 1)))))))
abbrev s__law_name : Stmt := top 38
abbrev n__law_name : List Str := ["_law_box_here", "_law_letters", "_law_many", "_law_k"]
theorem sc__law_name : FnScope n__law_name ["_law_box_here"] (defScope s__law_name) := ⟨rfl, rfl, rfl, by decide +kernel, rfl, by decide +kernel, by decide +kernel⟩
theorem ok__law_name {f : Addr} {fd : FuncData} (T : Txt w K mg) (Z : Fun K "_law_name" "_law_name" s__law_name f fd) (C__law_take : Cal P w K mg base 1 "_law_take" 2 m__law_take) : FnG P w K mg base 2 f fd ["_law_box_here"] (spM K mg 1 m__law_name) := by
  exact def_ok Z sc__law_name fun c A o s H E hr =>
  (mss_cons (ms_asg (ps_asg (me_tup (ma_cons me_str (ma_cons (me_bin od_add me_int (me_call C__law_take (hr.mono (by decide)) (by rfl) (ma_cons (me_var 0) (ma_cons me_int ma_nil)) (mcons_len (mcons_len mnil_len)))) ma_nil))) (mg_tup rfl (gs_cons (i := 1) (pgs_cons (pg_name (i := 1) sc__law_name.nd rfl (Or.inr rfl)) (gs_cons (i := 2) (pgs_cons (pg_name (i := 2) sc__law_name.nd rfl (Or.inl rfl)) gs_nil)))) (pg_tup rfl (gs_cons (i := 1) (pgs_cons (pg_name (i := 1) sc__law_name.nd rfl (Or.inr rfl)) (gs_cons (i := 2) (pgs_cons (pg_name (i := 2) sc__law_name.nd rfl (Or.inl rfl)) gs_nil))))))))
  (mss_cons (ms_if (mt_cmp (od_eq hr.rg) (me_call C__law_take (hr.mono (by decide)) (by rfl) (ma_cons (me_var 0) (ma_cons me_int ma_nil)) (mcons_len (mcons_len mnil_len))) me_int (nomark _)) (mss_one (ms_ret (me_bin od_mul (me_ix (pe_ix ix_seq (me_var 1) (me_call C__law_take (hr.mono (by decide)) (by rfl) (ma_cons (me_var 0) (ma_cons me_int ma_nil)) (mcons_len (mcons_len mnil_len))) (fun _ _ => rfl))) (me_var 2)))) mss_nil)
  (mss_one (ms_ret (me_join (pe_join me_str (me_lc (pe_lc (own := [("_law_k", 3)]) rfl sc__law_name.nd (mi_range (pi_range1 (by rfl) T.n_range (ma_cons (me_var 2) ma_nil))) (blkOk_by (N := n__law_name) (sc := defScope s__law_name) (by decide +kernel)) (fun _ _ _ _ _ => pg_name (i := 3) sc__law_name.nd rfl (Or.inl rfl)) (fun _ _ _ _ _ => mts_nil) (fun _ _ _ _ _ => (me_ix (pe_ix ix_seq (me_var 1) (me_call C__law_take (hr.mono (by decide)) (by rfl) (ma_cons (me_var 0) (ma_cons me_int ma_nil)) (mcons_len (mcons_len mnil_len))) (fun _ _ => rfl))))))))))))
abbrev s__law_text : Stmt := top 39
abbrev n__law_text : List Str := ["_law_box_here", "_law_most", "_law_signs", "_law_many", "_law_k"]
theorem sc__law_text : FnScope n__law_text ["_law_box_here", "_law_most"] (defScope s__law_text) := ⟨rfl, rfl, rfl, by decide +kernel, rfl, by decide +kernel, by decide +kernel⟩
theorem ok__law_text {f : Addr} {fd : FuncData} (T : Txt w K mg) (Z : Fun K "_law_text" "_law_text" s__law_text f fd) (C__law_take : Cal P w K mg base 1 "_law_take" 2 m__law_take) : FnG P w K mg base 2 f fd ["_law_box_here", "_law_most"] (spM K mg 2 m__law_text) := by
  exact def_ok Z sc__law_text fun c A o s H E hr =>
  (mss_cons (ms_asg (ps_asg me_str (mg_name (i := 2) sc__law_text.nd rfl (Or.inr rfl))))
  (mss_cons (ms_asg (ps_asg (me_ix (pe_ix ix_seq (me_lst (ma_cons me_int (ma_cons me_int (ma_cons me_int (ma_cons me_int (ma_cons me_int (ma_cons (me_bin od_sub (me_var 1) me_int) (ma_cons (me_var 1) ma_nil)))))))) (me_call C__law_take (hr.mono (by decide)) (by rfl) (ma_cons (me_var 0) (ma_cons me_int ma_nil)) (mcons_len (mcons_len mnil_len))) (fun _ _ => rfl))) (mg_name (i := 3) sc__law_text.nd rfl (Or.inl rfl))))
  (mss_one (ms_ret (me_join (pe_join me_str (me_lc (pe_lc (own := [("_law_k", 4)]) rfl sc__law_text.nd (mi_range (pi_range1 (by rfl) T.n_range (ma_cons (me_var 3) ma_nil))) (blkOk_by (N := n__law_text) (sc := defScope s__law_text) (by decide +kernel)) (fun _ _ _ _ _ => pg_name (i := 4) sc__law_text.nd rfl (Or.inl rfl)) (fun _ _ _ _ _ => mts_nil) (fun _ _ _ _ _ => (me_ix (pe_ix ix_seq (me_var 2) (me_call C__law_take (hr.mono (by decide)) (by rfl) (ma_cons (me_var 0) (ma_cons me_int ma_nil)) (mcons_len (mcons_len mnil_len))) (fun _ _ => rfl))))))))))))
abbrev s__law_item : Stmt := top 40
abbrev n__law_item : List Str := ["_law_box_here", "_law_times", "_law_head"]
theorem sc__law_item : FnScope n__law_item ["_law_box_here"] (defScope s__law_item) := ⟨rfl, rfl, rfl, by decide +kernel, rfl, by decide +kernel, by decide +kernel⟩
theorem ok__law_item {f : Addr} {fd : FuncData} (T : Txt w K mg) (Z : Fun K "_law_item" "_law_item" s__law_item f fd) (C__law_take : Cal P w K mg base 1 "_law_take" 2 m__law_take) (C__law_text : Cal P w K mg base 2 "_law_text" 2 m__law_text) (C__law_name : Cal P w K mg base 2 "_law_name" 1 m__law_name) : FnG P w K mg base 3 f fd ["_law_box_here"] (spM K mg 1 m__law_item) := by
  exact def_ok Z sc__law_item fun c A o s H E hr =>
  (mss_cons (ms_asg (ps_asg (me_lst (ma_cons me_int (ma_cons me_int (ma_cons me_int (ma_cons me_int (ma_cons (me_call C__law_take (hr.mono (by decide)) (by rfl) (ma_cons (me_var 0) (ma_cons me_int ma_nil)) (mcons_len (mcons_len mnil_len))) ma_nil)))))) (mg_name (i := 1) sc__law_item.nd rfl (Or.inl rfl))))
  (mss_cons (ms_asg (ps_asg (me_tup (ma_cons (me_call C__law_name (hr.mono (by decide)) (by rfl) (ma_cons (me_var 0) ma_nil) (mcons_len mnil_len)) (ma_cons (me_call C__law_name (hr.mono (by decide)) (by rfl) (ma_cons (me_var 0) ma_nil) (mcons_len mnil_len)) (ma_cons (me_call C__law_text (hr.mono (by decide)) (by rfl) (ma_cons (me_var 0) (ma_cons me_int ma_nil)) (mcons_len (mcons_len mnil_len))) (ma_cons (me_call C__law_take (hr.mono (by decide)) (by rfl) (ma_cons (me_var 0) (ma_cons me_int ma_nil)) (mcons_len (mcons_len mnil_len))) ma_nil))))) (mg_name (i := 2) sc__law_item.nd rfl (Or.inl rfl))))
  (mss_one (ms_ret (me_bin od_add (me_var 2) (me_tup (ma_cons (me_ix (pe_ix ix_seq (me_var 1) (me_call C__law_take (hr.mono (by decide)) (by rfl) (ma_cons (me_var 0) (ma_cons me_int ma_nil)) (mcons_len (mcons_len mnil_len))) (fun _ _ => rfl))) (ma_cons (me_ix (pe_ix ix_seq (me_var 1) (me_call C__law_take (hr.mono (by decide)) (by rfl) (ma_cons (me_var 0) (ma_cons me_int ma_nil)) (mcons_len (mcons_len mnil_len))) (fun _ _ => rfl))) ma_nil))))))))
abbrev s__law_odd : Stmt := top 41
abbrev n__law_odd : List Str := ["_law_box_here", "_law_menu"]
theorem sc__law_odd : FnScope n__law_odd ["_law_box_here"] (defScope s__law_odd) := ⟨rfl, rfl, rfl, by decide +kernel, rfl, by decide +kernel, by decide +kernel⟩
theorem ok__law_odd {f : Addr} {fd : FuncData} (T : Txt w K mg) (Z : Fun K "_law_odd" "_law_odd" s__law_odd f fd) (C__law_take : Cal P w K mg base 1 "_law_take" 2 m__law_take) : FnG P w K mg base 2 f fd ["_law_box_here"] (spM K mg 1 m__law_odd) := by
  exact def_ok Z sc__law_odd fun c A o s H E hr =>
  (mss_cons (ms_asg (ps_asg (me_lst (ma_cons me_non (ma_cons me_bl (ma_cons me_bl (ma_cons me_int (ma_cons me_int (ma_cons (me_neg (pe_un un_neg me_int)) (ma_cons me_int (ma_cons me_int (ma_cons me_int (ma_cons me_int (ma_cons me_int (ma_cons me_int (ma_cons (me_bin od_sub (me_bin od_pow me_int me_int) me_int) (ma_cons (me_bin od_pow me_int me_int) (ma_cons (me_neg (pe_un un_neg (me_bin od_pow me_int me_int))) (ma_cons me_str (ma_cons me_str (ma_cons me_str ma_nil))))))))))))))))))) (mg_name (i := 1) sc__law_odd.nd rfl (Or.inl rfl))))
  (mss_cons (ms_asg (ps_asg (me_bin od_add (me_var 1) (me_lst (ma_cons me_str (ma_cons me_str (ma_cons me_str (ma_cons me_str (ma_cons me_str (ma_cons (me_bin od_mul me_str me_int) (ma_cons (me_bin od_mul me_str me_int) (ma_cons (me_bin od_mul me_str me_int) (ma_cons me_str (ma_cons (me_tup ma_nil) (ma_cons (me_lst ma_nil) (ma_cons (me_tup (ma_cons me_int (ma_cons me_int ma_nil))) (ma_cons (me_lst (ma_cons me_int (ma_cons me_int ma_nil))) ma_nil))))))))))))))) (mg_name (i := 1) sc__law_odd.nd rfl (Or.inl rfl))))
  (mss_one (ms_ret (me_ix (pe_ix ix_seq (me_bin od_add (me_var 1) (me_lst (ma_cons (me_tup (ma_cons me_str ma_nil)) (ma_cons me_d0 (ma_cons (me_tup (ma_cons me_int (ma_cons me_int ma_nil))) (ma_cons (me_tup (ma_cons me_int (ma_cons me_int ma_nil))) (ma_cons (me_tup (ma_cons me_int (ma_cons me_bl ma_nil))) (ma_cons (me_tup (ma_cons me_int (ma_cons me_int (ma_cons me_int ma_nil)))) ma_nil)))))))) (me_call C__law_take (hr.mono (by decide)) (by rfl) (ma_cons (me_var 0) (ma_cons me_int ma_nil)) (mcons_len (mcons_len mnil_len))) (fun _ _ => rfl)))))))
abbrev s__law_within : Stmt := top 42
abbrev n__law_within : List Str := ["_law_value", "_law_least", "_law_most"]
theorem sc__law_within : FnScope n__law_within ["_law_value", "_law_least", "_law_most"] (defScope s__law_within) := ⟨rfl, rfl, rfl, by decide +kernel, rfl, by decide +kernel, by decide +kernel⟩
theorem ok__law_within {f : Addr} {fd : FuncData} (T : Txt w K mg) (Z : Fun K "_law_within" "_law_within" s__law_within f fd) : FnG P w K mg base 1 f fd ["_law_value", "_law_least", "_law_most"] (spM K mg 3 m__law_within) := by
  exact def_ok Z sc__law_within fun c A o s H E hr =>
  (mss_one (ms_ret (me_and (me_cb (pe_callB cd_isi (by rfl) T.n_isinstance (by decide +kernel) (ma_cons (me_var 0) (ma_cons (me_ty "int" (by rfl) T.n_int (by decide +kernel)) ma_nil)))) (me_and (me_not (me_cb (pe_callB cd_isi (by rfl) T.n_isinstance (by decide +kernel) (ma_cons (me_var 0) (ma_cons (me_ty "bool" (by rfl) T.n_bool (by decide +kernel)) ma_nil))))) (me_one (me_chain od_le od_le (me_var 1) (me_var 0) (me_var 2)))))))
abbrev s__law_is_name : Stmt := top 43
abbrev n__law_is_name : List Str := ["_law_value", "_law_sign"]
theorem sc__law_is_name : FnScope n__law_is_name ["_law_value"] (defScope s__law_is_name) := ⟨rfl, rfl, rfl, by decide +kernel, rfl, by decide +kernel, by decide +kernel⟩
theorem ok__law_is_name {f : Addr} {fd : FuncData} (T : Txt w K mg) (Z : Fun K "_law_is_name" "_law_is_name" s__law_is_name f fd) : FnG P w K mg base 1 f fd ["_law_value"] (spM K mg 1 m__law_is_name) := by
  exact def_ok Z sc__law_is_name fun c A o s H E hr =>
  (mss_cons (ms_if (mt_w (mw_or (mt_not (mt_val (me_cb (pe_callB cd_isi (by rfl) T.n_isinstance (by decide +kernel) (ma_cons (me_var 0) (ma_cons (me_ty "str" (by rfl) T.n_str (by decide +kernel)) ma_nil)))))) (mw_or (mt_cmp od_lt (me_cb (pe_callB cd_len (by rfl) T.n_len (by decide +kernel) (ma_cons (me_var 0) ma_nil))) me_int (nomark _)) (mw_or1 (mt_cmp od_gt (me_cb (pe_callB cd_len (by rfl) T.n_len (by decide +kernel) (ma_cons (me_var 0) ma_nil))) me_int (nomark _)))))) (mss_one (ms_ret me_bl)) mss_nil)
  (mss_one (ms_ret (me_cmp (od_eqNil hr.rg) (me_lc (pe_lc (own := [("_law_sign", 1)]) rfl sc__law_is_name.nd (mi_str (pi_str (me_var 0))) (blkOk_by (N := n__law_is_name) (sc := defScope s__law_is_name) (by decide +kernel)) (fun _ _ _ _ _ => pg_name (i := 1) sc__law_is_name.nd rfl (Or.inl rfl)) (fun _ _ _ _ _ => (pts_one (mt_cmp od_nin (me_var 1) me_str (by rfl)))) (fun _ _ _ _ _ => (me_var 1)))) (me_lst ma_nil) (nomark _)))))
abbrev s__law_is_body : Stmt := top 44
abbrev n__law_is_body : List Str := ["_law_value", "_law_sign"]
theorem sc__law_is_body : FnScope n__law_is_body ["_law_value"] (defScope s__law_is_body) := ⟨rfl, rfl, rfl, by decide +kernel, rfl, by decide +kernel, by decide +kernel⟩
theorem ok__law_is_body {f : Addr} {fd : FuncData} (T : Txt w K mg) (Z : Fun K "_law_is_body" "_law_is_body" s__law_is_body f fd) : FnG P w K mg base 1 f fd ["_law_value"] (spM K mg 1 m__law_is_body) := by
  exact def_ok Z sc__law_is_body fun c A o s H E hr =>
  (mss_cons (ms_if (mt_w (mw_or (mt_not (mt_val (me_cb (pe_callB cd_isi (by rfl) T.n_isinstance (by decide +kernel) (ma_cons (me_var 0) (ma_cons (me_ty "str" (by rfl) T.n_str (by decide +kernel)) ma_nil)))))) (mw_or1 (mt_cmp od_gt (me_cb (pe_callB cd_len (by rfl) T.n_len (by decide +kernel) (ma_cons (me_var 0) ma_nil))) me_int (nomark _))))) (mss_one (ms_ret me_bl)) mss_nil)
  (mss_one (ms_ret (me_cmp (od_eqNil hr.rg) (me_lc (pe_lc (own := [("_law_sign", 1)]) rfl sc__law_is_body.nd (mi_str (pi_str (me_var 0))) (blkOk_by (N := n__law_is_body) (sc := defScope s__law_is_body) (by decide +kernel)) (fun _ _ _ _ _ => pg_name (i := 1) sc__law_is_body.nd rfl (Or.inl rfl)) (fun _ _ _ _ _ => (pts_one (mt_w (mw_or (mt_cmp od_lt (me_var 1) me_str (nomark _)) (mw_or1 (mt_cmp od_gt (me_var 1) me_str (nomark _))))))) (fun _ _ _ _ _ => (me_var 1)))) (me_lst ma_nil) (nomark _)))))
abbrev s__law_is_token : Stmt := top 45
abbrev n__law_is_token : List Str := ["_law_value"]
theorem sc__law_is_token : FnScope n__law_is_token ["_law_value"] (defScope s__law_is_token) := ⟨rfl, rfl, rfl, by decide +kernel, rfl, by decide +kernel, by decide +kernel⟩
theorem ok__law_is_token {f : Addr} {fd : FuncData} (T : Txt w K mg) (Z : Fun K "_law_is_token" "_law_is_token" s__law_is_token f fd) (C__law_within : Cal P w K mg base 1 "_law_within" 3 m__law_within) : FnG P w K mg base 2 f fd ["_law_value"] (spM K mg 1 m__law_is_token) := by
  exact def_ok Z sc__law_is_token fun c A o s H E hr =>
  (mss_cons (ms_if (mt_w (mw_or (mt_not (mt_val (me_cb (pe_callB cd_isi (by rfl) T.n_isinstance (by decide +kernel) (ma_cons (me_var 0) (ma_cons (me_ty "tuple" (by rfl) T.n_tuple (by decide +kernel)) ma_nil)))))) (mw_or1 (mt_cmp (od_ne hr.rg) (me_cb (pe_callB cd_len (by rfl) T.n_len (by decide +kernel) (ma_cons (me_var 0) ma_nil))) me_int (nomark _))))) (mss_one (ms_ret me_bl)) mss_nil)
  (mss_one (ms_ret (me_and (me_call C__law_within (hr.mono (by decide)) (by rfl) (ma_cons (me_ix (pe_ix ix_seq (me_var 0) me_int (fun _ _ => rfl))) (ma_cons me_int (ma_cons (me_bin od_sub (me_bin od_pow me_int me_int) me_int) ma_nil))) (mcons_len (mcons_len (mcons_len mnil_len)))) (me_one (me_call C__law_within (hr.mono (by decide)) (by rfl) (ma_cons (me_ix (pe_ix ix_seq (me_var 0) me_int (fun _ _ => rfl))) (ma_cons me_int (ma_cons (me_bin od_sub (me_bin od_pow me_int me_int) me_int) ma_nil))) (mcons_len (mcons_len (mcons_len mnil_len)))))))))
abbrev s__law_is_item : Stmt := top 46
abbrev n__law_is_item : List Str := ["_law_value"]
theorem sc__law_is_item : FnScope n__law_is_item ["_law_value"] (defScope s__law_is_item) := ⟨rfl, rfl, rfl, by decide +kernel, rfl, by decide +kernel, by decide +kernel⟩
theorem ok__law_is_item {f : Addr} {fd : FuncData} (T : Txt w K mg) (Z : Fun K "_law_is_item" "_law_is_item" s__law_is_item f fd) (C__law_is_body : Cal P w K mg base 1 "_law_is_body" 1 m__law_is_body) (C__law_is_name : Cal P w K mg base 1 "_law_is_name" 1 m__law_is_name) (C__law_within : Cal P w K mg base 1 "_law_within" 3 m__law_within) : FnG P w K mg base 2 f fd ["_law_value"] (spM K mg 1 m__law_is_item) := by
  exact def_ok Z sc__law_is_item fun c A o s H E hr =>
  (mss_cons (ms_if (mt_w (mw_or (mt_not (mt_val (me_cb (pe_callB cd_isi (by rfl) T.n_isinstance (by decide +kernel) (ma_cons (me_var 0) (ma_cons (me_ty "tuple" (by rfl) T.n_tuple (by decide +kernel)) ma_nil)))))) (mw_or1 (mt_cmp (od_ne hr.rg) (me_cb (pe_callB cd_len (by rfl) T.n_len (by decide +kernel) (ma_cons (me_var 0) ma_nil))) me_int (nomark _))))) (mss_one (ms_ret me_bl)) mss_nil)
  (mss_cons (ms_if (mt_w (mw_or (mt_not (mt_val (me_call C__law_is_name (hr.mono (by decide)) (by rfl) (ma_cons (me_ix (pe_ix ix_seq (me_var 0) me_int (fun _ _ => rfl))) ma_nil) (mcons_len mnil_len)))) (mw_or (mt_not (mt_val (me_call C__law_is_name (hr.mono (by decide)) (by rfl) (ma_cons (me_ix (pe_ix ix_seq (me_var 0) me_int (fun _ _ => rfl))) ma_nil) (mcons_len mnil_len)))) (mw_or1 (mt_not (mt_val (me_call C__law_is_body (hr.mono (by decide)) (by rfl) (ma_cons (me_ix (pe_ix ix_seq (me_var 0) me_int (fun _ _ => rfl))) ma_nil) (mcons_len mnil_len)))))))) (mss_one (ms_ret me_bl)) mss_nil)
  (mss_one (ms_ret (me_and (me_call C__law_within (hr.mono (by decide)) (by rfl) (ma_cons (me_ix (pe_ix ix_seq (me_var 0) me_int (fun _ _ => rfl))) (ma_cons me_int (ma_cons me_int ma_nil))) (mcons_len (mcons_len (mcons_len mnil_len)))) (me_and (me_call C__law_within (hr.mono (by decide)) (by rfl) (ma_cons (me_ix (pe_ix ix_seq (me_var 0) me_int (fun _ _ => rfl))) (ma_cons me_int (ma_cons me_int ma_nil))) (mcons_len (mcons_len (mcons_len mnil_len)))) (me_one (me_call C__law_within (hr.mono (by decide)) (by rfl) (ma_cons (me_ix (pe_ix ix_seq (me_var 0) me_int (fun _ _ => rfl))) (ma_cons me_int (ma_cons me_int ma_nil))) (mcons_len (mcons_len (mcons_len mnil_len)))))))))))
abbrev s__law_items : Stmt := top 47
abbrev n__law_items : List Str := ["_law_box_here", "_law_least", "_law_items_here", "_law_k"]
theorem sc__law_items : FnScope n__law_items ["_law_box_here", "_law_least"] (defScope s__law_items) := ⟨rfl, rfl, rfl, by decide +kernel, rfl, by decide +kernel, by decide +kernel⟩
theorem ok__law_items {f : Addr} {fd : FuncData} (T : Txt w K mg) (Z : Fun K "_law_items" "_law_items" s__law_items f fd) (C__law_take : Cal P w K mg base 1 "_law_take" 2 m__law_take) (C__law_item : Cal P w K mg base 3 "_law_item" 1 m__law_item) : FnG P w K mg base 4 f fd ["_law_box_here", "_law_least"] (spM K mg 2 m__law_items) := by
  exact def_ok Z sc__law_items fun c A o s H E hr =>
  (mss_cons (ms_setLc (i := 2) (ps_setLc (own := [("_law_k", 3)]) (i := 2) rfl sc__law_items.nd rfl rfl (sw_true rfl rfl rfl (by decide +kernel)) (mi_range (pi_range1 (by rfl) T.n_range (ma_cons (me_bin od_add (me_var 1) (me_call C__law_take (hr.mono (by decide)) (by rfl) (ma_cons (me_var 0) (ma_cons (me_bin od_sub me_int (me_var 1)) ma_nil)) (mcons_len (mcons_len mnil_len)))) ma_nil))) (blkOk_by (N := n__law_items) (sc := defScope s__law_items) (by decide +kernel)) (fun _ _ _ _ _ => pg_name (i := 3) sc__law_items.nd rfl (Or.inl rfl)) (fun _ _ _ _ _ => mts_nil) (fun _ _ _ _ _ => (me_call C__law_item (hr.mono (by decide)) (by rfl) (ma_cons (me_var 0) ma_nil) (mcons_len mnil_len)))))
  (mss_one (ms_ret (me_cb (pe_callTy cd_tup (by rfl) T.n_tuple (by decide +kernel) (ma_cons (me_var 2) ma_nil))))))
abbrev s__law_number : Stmt := top 48
abbrev n__law_number : List Str := ["_law_box_here"]
theorem sc__law_number : FnScope n__law_number ["_law_box_here"] (defScope s__law_number) := ⟨rfl, rfl, rfl, by decide +kernel, rfl, by decide +kernel, by decide +kernel⟩
theorem ok__law_number {f : Addr} {fd : FuncData} (T : Txt w K mg) (Z : Fun K "_law_number" "_law_number" s__law_number f fd) (C__law_take : Cal P w K mg base 1 "_law_take" 2 m__law_take) : FnG P w K mg base 2 f fd ["_law_box_here"] (spM K mg 1 m__law_number) := by
  exact def_ok Z sc__law_number fun c A o s H E hr =>
  (mss_one (ms_ret (me_ix (pe_ix ix_seq (me_lst (ma_cons me_int (ma_cons me_int (ma_cons (me_bin od_sub (me_bin od_pow me_int me_int) me_int) (ma_cons (me_bin od_add me_int (me_call C__law_take (hr.mono (by decide)) (by rfl) (ma_cons (me_var 0) (ma_cons me_int ma_nil)) (mcons_len (mcons_len mnil_len)))) ma_nil))))) (me_call C__law_take (hr.mono (by decide)) (by rfl) (ma_cons (me_var 0) (ma_cons me_int ma_nil)) (mcons_len (mcons_len mnil_len))) (fun _ _ => rfl)))))
abbrev s__law_token : Stmt := top 49
abbrev n__law_token : List Str := ["_law_box_here"]
theorem sc__law_token : FnScope n__law_token ["_law_box_here"] (defScope s__law_token) := ⟨rfl, rfl, rfl, by decide +kernel, rfl, by decide +kernel, by decide +kernel⟩
theorem ok__law_token {f : Addr} {fd : FuncData} (T : Txt w K mg) (Z : Fun K "_law_token" "_law_token" s__law_token f fd) (C__law_number : Cal P w K mg base 2 "_law_number" 1 m__law_number) : FnG P w K mg base 3 f fd ["_law_box_here"] (spM K mg 1 m__law_token) := by
  exact def_ok Z sc__law_token fun c A o s H E hr =>
  (mss_one (ms_ret (me_tup (ma_cons (me_call C__law_number (hr.mono (by decide)) (by rfl) (ma_cons (me_var 0) ma_nil) (mcons_len mnil_len)) (ma_cons (me_call C__law_number (hr.mono (by decide)) (by rfl) (ma_cons (me_var 0) ma_nil) (mcons_len mnil_len)) ma_nil)))))
abbrev s__law_command : Stmt := top 50
abbrev n__law_command : List Str := ["_law_box_here", "_law_way", "_law_name_here", "_law_other", "_law_dead"]
theorem sc__law_command : FnScope n__law_command ["_law_box_here", "_law_way"] (defScope s__law_command) := ⟨rfl, rfl, rfl, by decide +kernel, rfl, by decide +kernel, by decide +kernel⟩
theorem ok__law_command {f : Addr} {fd : FuncData} (T : Txt w K mg) (Z : Fun K "_law_command" "_law_command" s__law_command f fd) (C__law_name : Cal P w K mg base 2 "_law_name" 1 m__law_name) (C__law_take : Cal P w K mg base 1 "_law_take" 2 m__law_take) (C__law_items : Cal P w K mg base 4 "_law_items" 2 m__law_items) (C__law_number : Cal P w K mg base 2 "_law_number" 1 m__law_number) (C__law_token : Cal P w K mg base 3 "_law_token" 1 m__law_token) : FnG P w K mg base 5 f fd ["_law_box_here", "_law_way"] (spM K mg 2 m__law_command) := by
  exact def_ok Z sc__law_command fun c A o s H E hr =>
  (mss_cons (ms_par (ps_par (i := 2) (j := 3) rfl sc__law_command.nd rfl rfl (by decide) rfl rfl (ma_cons (me_call C__law_name (hr.mono (by decide)) (by rfl) (ma_cons (me_var 0) ma_nil) (mcons_len mnil_len)) (ma_cons (me_call C__law_name (hr.mono (by decide)) (by rfl) (ma_cons (me_var 0) ma_nil) (mcons_len mnil_len)) ma_nil)) (by rfl)))
  (mss_cons (ms_if (mt_cmp (od_eq hr.rg) (me_var 1) me_int (nomark _)) (mss_one (ms_ret (me_tup (ma_cons me_str (ma_cons (me_var 2) (ma_cons (me_cmp (od_eq hr.rg) (me_call C__law_take (hr.mono (by decide)) (by rfl) (ma_cons (me_var 0) (ma_cons me_int ma_nil)) (mcons_len (mcons_len mnil_len))) me_int (nomark _)) ma_nil)))))) mss_nil)
  (mss_cons (ms_if (mt_cmp (od_eq hr.rg) (me_var 1) me_int (nomark _)) (mss_cons (ms_asg (ps_asg (me_call C__law_name (hr.mono (by decide)) (by rfl) (ma_cons (me_var 0) ma_nil) (mcons_len mnil_len)) (mg_name (i := 4) sc__law_command.nd rfl (Or.inl rfl))))
  (mss_one (ms_ret (me_tup (ma_cons me_str (ma_cons (me_var 2) (ma_cons (me_var 3) (ma_cons (me_if (mt_w (mw_or (mt_cmp (od_eq hr.rg) (me_var 4) (me_var 3) (nomark _)) (mw_or1 (mt_cmp (od_eq hr.rg) (me_call C__law_take (hr.mono (by decide)) (by rfl) (ma_cons (me_var 0) (ma_cons me_int ma_nil)) (mcons_len (mcons_len mnil_len))) me_int (nomark _))))) me_non (me_var 4)) ma_nil)))))))) mss_nil)
  (mss_cons (ms_if (mt_cmp (od_eq hr.rg) (me_var 1) me_int (nomark _)) (mss_one (ms_ret (me_tup (ma_cons me_str (ma_cons (me_var 2) (ma_cons (me_call C__law_number (hr.mono (by decide)) (by rfl) (ma_cons (me_var 0) ma_nil) (mcons_len mnil_len)) (ma_cons (me_call C__law_items (hr.mono (by decide)) (by rfl) (ma_cons (me_var 0) (ma_cons me_int ma_nil)) (mcons_len (mcons_len mnil_len))) ma_nil))))))) mss_nil)
  (mss_cons (ms_if (mt_cmp (od_eq hr.rg) (me_var 1) me_int (nomark _)) (mss_one (ms_ret (me_tup (ma_cons me_str (ma_cons (me_var 2) (ma_cons (me_call C__law_number (hr.mono (by decide)) (by rfl) (ma_cons (me_var 0) ma_nil) (mcons_len mnil_len)) (ma_cons (me_call C__law_token (hr.mono (by decide)) (by rfl) (ma_cons (me_var 0) ma_nil) (mcons_len mnil_len)) (ma_cons (me_call C__law_items (hr.mono (by decide)) (by rfl) (ma_cons (me_var 0) (ma_cons me_int ma_nil)) (mcons_len (mcons_len mnil_len))) ma_nil)))))))) mss_nil)
  (mss_cons (ms_if (mt_cmp (od_eq hr.rg) (me_var 1) me_int (nomark _)) (mss_one (ms_ret (me_tup (ma_cons me_str (ma_cons (me_var 2) (ma_cons (me_call C__law_number (hr.mono (by decide)) (by rfl) (ma_cons (me_var 0) ma_nil) (mcons_len mnil_len)) (ma_cons (me_call C__law_take (hr.mono (by decide)) (by rfl) (ma_cons (me_var 0) (ma_cons me_int ma_nil)) (mcons_len (mcons_len mnil_len))) ma_nil))))))) mss_nil)
  (mss_one (ms_ret (me_tup (ma_cons me_str (ma_cons (me_ix (pe_ix ix_seq (me_lst (ma_cons me_int (ma_cons me_int (ma_cons (me_bin od_sub (me_bin od_pow me_int me_int) me_int) (ma_cons (me_call C__law_take (hr.mono (by decide)) (by rfl) (ma_cons (me_var 0) (ma_cons me_int ma_nil)) (mcons_len (mcons_len mnil_len))) ma_nil))))) (me_call C__law_take (hr.mono (by decide)) (by rfl) (ma_cons (me_var 0) (ma_cons me_int ma_nil)) (mcons_len (mcons_len mnil_len))) (fun _ _ => rfl))) ma_nil)))))))))))
abbrev s__law_are_items : Stmt := top 51
abbrev n__law_are_items : List Str := ["_law_value", "_law_least", "_law_item_here"]
theorem sc__law_are_items : FnScope n__law_are_items ["_law_value", "_law_least"] (defScope s__law_are_items) := ⟨rfl, rfl, rfl, by decide +kernel, rfl, by decide +kernel, by decide +kernel⟩
theorem ok__law_are_items {f : Addr} {fd : FuncData} (T : Txt w K mg) (Z : Fun K "_law_are_items" "_law_are_items" s__law_are_items f fd) (C__law_is_item : Cal P w K mg base 2 "_law_is_item" 1 m__law_is_item) : FnG P w K mg base 3 f fd ["_law_value", "_law_least"] (spM K mg 2 m__law_are_items) := by
  exact def_ok Z sc__law_are_items fun c A o s H E hr =>
  (mss_cons (ms_if (mt_w (mw_or (mt_not (mt_val (me_cb (pe_callB cd_isi (by rfl) T.n_isinstance (by decide +kernel) (ma_cons (me_var 0) (ma_cons (me_ty "tuple" (by rfl) T.n_tuple (by decide +kernel)) ma_nil)))))) (mw_or (mt_cmp od_lt (me_cb (pe_callB cd_len (by rfl) T.n_len (by decide +kernel) (ma_cons (me_var 0) ma_nil))) (me_var 1) (nomark _)) (mw_or1 (mt_cmp od_gt (me_cb (pe_callB cd_len (by rfl) T.n_len (by decide +kernel) (ma_cons (me_var 0) ma_nil))) me_int (nomark _)))))) (mss_one (ms_ret me_bl)) mss_nil)
  (mss_one (ms_ret (me_cmp (od_eqNil hr.rg) (me_lc (pe_lc (own := [("_law_item_here", 2)]) rfl sc__law_are_items.nd (mi_tup (pi_tup (me_var 0))) (blkOk_by (N := n__law_are_items) (sc := defScope s__law_are_items) (by decide +kernel)) (fun _ _ _ _ _ => pg_name (i := 2) sc__law_are_items.nd rfl (Or.inl rfl)) (fun _ _ _ _ _ => (pts_one (mt_not (mt_val (me_call C__law_is_item (hr.mono (by decide)) (by rfl) (ma_cons (me_var 2) ma_nil) (mcons_len mnil_len)))))) (fun _ _ _ _ _ => (me_var 2)))) (me_lst ma_nil) (nomark _)))))
abbrev s__law_is_command : Stmt := top 52
abbrev n__law_is_command : List Str := ["_law_value", "_law_word", "_law_many", "_law_most"]
theorem sc__law_is_command : FnScope n__law_is_command ["_law_value"] (defScope s__law_is_command) := ⟨rfl, rfl, rfl, by decide +kernel, rfl, by decide +kernel, by decide +kernel⟩
theorem ok__law_is_command {f : Addr} {fd : FuncData} (T : Txt w K mg) (Z : Fun K "_law_is_command" "_law_is_command" s__law_is_command f fd) (C__law_within : Cal P w K mg base 1 "_law_within" 3 m__law_within) (C__law_is_name : Cal P w K mg base 1 "_law_is_name" 1 m__law_is_name) (C__law_are_items : Cal P w K mg base 3 "_law_are_items" 2 m__law_are_items) (C__law_is_token : Cal P w K mg base 2 "_law_is_token" 1 m__law_is_token) : FnG P w K mg base 4 f fd ["_law_value"] (spM K mg 1 m__law_is_command) := by
  exact def_ok Z sc__law_is_command fun c A o s H E hr =>
  (mss_cons (ms_if (mt_w (mw_or (mt_not (mt_val (me_cb (pe_callB cd_isi (by rfl) T.n_isinstance (by decide +kernel) (ma_cons (me_var 0) (ma_cons (me_ty "tuple" (by rfl) T.n_tuple (by decide +kernel)) ma_nil)))))) (mw_or1 (mt_cmp od_lt (me_cb (pe_callB cd_len (by rfl) T.n_len (by decide +kernel) (ma_cons (me_var 0) ma_nil))) me_int (nomark _))))) (mss_one (ms_ret me_bl)) mss_nil)
  (mss_cons (ms_par3 (ps_par3 (i := 1) (j := 2) (l := 3) rfl sc__law_is_command.nd rfl rfl rfl (by decide) (by decide) (by decide) rfl rfl rfl (ma_cons (me_ix (pe_ix ix_seq (me_var 0) me_int (fun _ _ => rfl))) (ma_cons (me_cb (pe_callB cd_len (by rfl) T.n_len (by decide +kernel) (ma_cons (me_var 0) ma_nil))) (ma_cons (me_bin od_sub (me_bin od_pow me_int me_int) me_int) ma_nil))) (by rfl)))
  (mss_cons (ms_if (mt_cmp (od_eqE hr.rg) (me_var 1) me_str (nomark _)) (mss_one (ms_ret (me_and (me_cmp (od_eq hr.rg) (me_var 2) me_int (nomark _)) (me_one (me_call C__law_within (hr.mono (by decide)) (by rfl) (ma_cons (me_ix (pe_ix ix_seq (me_var 0) me_int (fun _ _ => rfl))) (ma_cons me_int (ma_cons (me_var 3) ma_nil))) (mcons_len (mcons_len (mcons_len mnil_len)))))))) mss_nil)
  (mss_cons (ms_if (mt_w (mw_or (mt_not (mt_val (me_call C__law_is_name (hr.mono (by decide)) (by rfl) (ma_cons (me_ix (pe_ix ix_seq (me_var 0) me_int (fun _ _ => rfl))) ma_nil) (mcons_len mnil_len)))) (mw_or1 (mt_cmp od_lt (me_var 2) me_int (nomark _))))) (mss_one (ms_ret me_bl)) mss_nil)
  (mss_cons (ms_if (mt_cmp (od_eqE hr.rg) (me_var 1) me_str (nomark _)) (mss_one (ms_ret (me_and (me_cmp (od_eq hr.rg) (me_var 2) me_int (nomark _)) (me_one (me_cb (pe_callB cd_isi (by rfl) T.n_isinstance (by decide +kernel) (ma_cons (me_ix (pe_ix ix_seq (me_var 0) me_int (fun _ _ => rfl))) (ma_cons (me_ty "bool" (by rfl) T.n_bool (by decide +kernel)) ma_nil)))))))) mss_nil)
  (mss_cons (ms_if (mt_cmp (od_eqE hr.rg) (me_var 1) me_str (nomark _)) (mss_cons (ms_if (mt_w (mw_or (mt_cmp (od_ne hr.rg) (me_var 2) me_int (nomark _)) (mw_or1 (mt_not (mt_val (me_call C__law_is_name (hr.mono (by decide)) (by rfl) (ma_cons (me_ix (pe_ix ix_seq (me_var 0) me_int (fun _ _ => rfl))) ma_nil) (mcons_len mnil_len))))))) (mss_one (ms_ret me_bl)) mss_nil)
  (mss_one (ms_ret (me_or (me_cmp od_is (me_ix (pe_ix ix_seq (me_var 0) me_int (fun _ _ => rfl))) me_non (nomark _)) (me_one (me_and (me_call C__law_is_name (hr.mono (by decide)) (by rfl) (ma_cons (me_ix (pe_ix ix_seq (me_var 0) me_int (fun _ _ => rfl))) ma_nil) (mcons_len mnil_len)) (me_one (me_cmp (od_ne hr.rg) (me_ix (pe_ix ix_seq (me_var 0) me_int (fun _ _ => rfl))) (me_ix (pe_ix ix_seq (me_var 0) me_int (fun _ _ => rfl))) (nomark _))))))))) mss_nil)
  (mss_cons (ms_if (mt_not (mt_val (me_call C__law_within (hr.mono (by decide)) (by rfl) (ma_cons (me_ix (pe_ix ix_seq (me_var 0) me_int (fun _ _ => rfl))) (ma_cons me_int (ma_cons (me_var 3) ma_nil))) (mcons_len (mcons_len (mcons_len mnil_len)))))) (mss_one (ms_ret me_bl)) mss_nil)
  (mss_cons (ms_if (mt_cmp (od_eqE hr.rg) (me_var 1) me_str (nomark _)) (mss_one (ms_ret (me_and (me_cmp (od_eq hr.rg) (me_var 2) me_int (nomark _)) (me_one (me_call C__law_are_items (hr.mono (by decide)) (by rfl) (ma_cons (me_ix (pe_ix ix_seq (me_var 0) me_int (fun _ _ => rfl))) (ma_cons me_int ma_nil)) (mcons_len (mcons_len mnil_len))))))) mss_nil)
  (mss_cons (ms_if (mt_cmp (od_eqE hr.rg) (me_var 1) me_str (nomark _)) (mss_one (ms_ret (me_and (me_cmp (od_eq hr.rg) (me_var 2) me_int (nomark _)) (me_and (me_call C__law_is_token (hr.mono (by decide)) (by rfl) (ma_cons (me_ix (pe_ix ix_seq (me_var 0) me_int (fun _ _ => rfl))) ma_nil) (mcons_len mnil_len)) (me_one (me_call C__law_are_items (hr.mono (by decide)) (by rfl) (ma_cons (me_ix (pe_ix ix_seq (me_var 0) me_int (fun _ _ => rfl))) (ma_cons me_int ma_nil)) (mcons_len (mcons_len mnil_len)))))))) mss_nil)
  (mss_one (ms_ret (me_and (me_cmp (od_eqE hr.rg) (me_var 1) me_str (nomark _)) (me_and (me_cmp (od_eq hr.rg) (me_var 2) me_int (nomark _)) (me_one (me_call C__law_within (hr.mono (by decide)) (by rfl) (ma_cons (me_ix (pe_ix ix_seq (me_var 0) me_int (fun _ _ => rfl))) (ma_cons me_int (ma_cons me_int ma_nil))) (mcons_len (mcons_len (mcons_len mnil_len))))))))))))))))))
abbrev s__law_shape : Stmt := top 53
abbrev n__law_shape : List Str := ["_law_box_here", "_law_value", "_law_menu"]
theorem sc__law_shape : FnScope n__law_shape ["_law_box_here", "_law_value"] (defScope s__law_shape) := ⟨rfl, rfl, rfl, by decide +kernel, rfl, by decide +kernel, by decide +kernel⟩
theorem ok__law_shape {f : Addr} {fd : FuncData} (T : Txt w K mg) (Z : Fun K "_law_shape" "_law_shape" s__law_shape f fd) (C__law_take : Cal P w K mg base 1 "_law_take" 2 m__law_take) : FnG P w K mg base 2 f fd ["_law_box_here", "_law_value"] (spM K mg 2 m__law_shape) := by
  exact def_ok Z sc__law_shape fun c A o s H E hr =>
  (mss_cons (ms_asg (ps_asg (me_lst (ma_cons (me_cb (pe_callTy cd_list (by rfl) T.n_list (by decide +kernel) (ma_cons (me_var 1) ma_nil))) (ma_cons (me_bin od_add (me_var 1) (me_tup (ma_cons me_int ma_nil))) (ma_cons (me_sl (pe_slice sl3 (me_var 1) mo_none (mo_some (me_neg (pe_un un_neg me_int))))) (ma_cons (me_tup (ma_cons (me_var 1) ma_nil)) (ma_cons me_non (ma_cons me_str (ma_cons (me_cb (pe_callTy (cd_dict rfl) (by rfl) T.n_dict (by decide +kernel) (ma_cons (me_lst (ma_cons (me_tup (ma_cons me_str (ma_cons (me_var 1) ma_nil))) ma_nil)) ma_nil))) (ma_cons (me_tup ma_nil) (ma_cons (me_bin od_add (me_var 1) (me_sl (pe_slice sl3 (me_var 1) (mo_some (me_neg (pe_un un_neg me_int))) mo_none))) ma_nil)))))))))) (mg_name (i := 2) sc__law_shape.nd rfl (Or.inl rfl))))
  (mss_one (ms_ret (me_ix (pe_ix ix_seq (me_var 2) (me_call C__law_take (hr.mono (by decide)) (by rfl) (ma_cons (me_var 0) (ma_cons me_int ma_nil)) (mcons_len (mcons_len mnil_len))) (fun _ _ => rfl))))))
abbrev s__law_spoiled : Stmt := top 54
abbrev n__law_spoiled : List Str := ["_law_box_here", "_law_value", "_law_place"]
theorem sc__law_spoiled : FnScope n__law_spoiled ["_law_box_here", "_law_value"] (defScope s__law_spoiled) := ⟨rfl, rfl, rfl, by decide +kernel, rfl, by decide +kernel, by decide +kernel⟩
theorem ok__law_spoiled {f : Addr} {fd : FuncData} (T : Txt w K mg) (Z : Fun K "_law_spoiled" "_law_spoiled" s__law_spoiled f fd) (C__law_take : Cal P w K mg base 1 "_law_take" 2 m__law_take) (C__law_odd : Cal P w K mg base 2 "_law_odd" 1 m__law_odd) : FnG P w K mg base 3 f fd ["_law_box_here", "_law_value"] (spM K mg 2 m__law_spoiled) := by
  exact def_ok Z sc__law_spoiled fun c A o s H E hr =>
  (mss_cons (ms_asg (ps_asg (me_call C__law_take (hr.mono (by decide)) (by rfl) (ma_cons (me_var 0) (ma_cons (me_cb (pe_callB cd_len (by rfl) T.n_len (by decide +kernel) (ma_cons (me_var 1) ma_nil))) ma_nil)) (mcons_len (mcons_len mnil_len))) (mg_name (i := 2) sc__law_spoiled.nd rfl (Or.inl rfl))))
  (mss_one (ms_ret (me_bin od_add (me_bin od_add (me_sl (pe_slice sl3 (me_var 1) mo_none (mo_some (me_var 2)))) (me_tup (ma_cons (me_call C__law_odd (hr.mono (by decide)) (by rfl) (ma_cons (me_var 0) ma_nil) (mcons_len mnil_len)) ma_nil))) (me_sl (pe_slice sl3 (me_var 1) (mo_some (me_bin od_add (me_var 2) me_int)) mo_none))))))
abbrev s__law_within_last : Stmt := top 55
abbrev n__law_within_last : List Str := ["_law_box_here", "_law_value", "_law_last", "_law_part", "_law_place", "_law_way"]
theorem sc__law_within_last : FnScope n__law_within_last ["_law_box_here", "_law_value"] (defScope s__law_within_last) := ⟨rfl, rfl, rfl, by decide +kernel, rfl, by decide +kernel, by decide +kernel⟩
theorem ok__law_within_last {f : Addr} {fd : FuncData} (T : Txt w K mg) (Z : Fun K "_law_within_last" "_law_within_last" s__law_within_last f fd) (C__law_odd : Cal P w K mg base 2 "_law_odd" 1 m__law_odd) (C__law_take : Cal P w K mg base 1 "_law_take" 2 m__law_take) (C__law_spoiled : Cal P w K mg base 3 "_law_spoiled" 2 m__law_spoiled) (C__law_shape : Cal P w K mg base 2 "_law_shape" 2 m__law_shape) : FnG P w K mg base 4 f fd ["_law_box_here", "_law_value"] (spM K mg 2 m__law_within_last) := by
  exact def_ok Z sc__law_within_last fun c A o s H E hr =>
  (mss_cons (ms_asg (ps_asg (me_ix (pe_ix ix_seq (me_var 1) (me_neg (pe_un un_neg me_int)) (fun _ _ => rfl))) (mg_name (i := 2) sc__law_within_last.nd rfl (Or.inl rfl))))
  (mss_cons (ms_if (mt_w (mw_or (mt_not (mt_val (me_cb (pe_callB cd_isi (by rfl) T.n_isinstance (by decide +kernel) (ma_cons (me_var 2) (ma_cons (me_ty "tuple" (by rfl) T.n_tuple (by decide +kernel)) ma_nil)))))) (mw_or1 (mt_cmp (od_eq hr.rg) (me_cb (pe_callB cd_len (by rfl) T.n_len (by decide +kernel) (ma_cons (me_var 2) ma_nil))) me_int (nomark _))))) (mss_one (ms_ret (me_bin od_add (me_sl (pe_slice sl3 (me_var 1) mo_none (mo_some (me_neg (pe_un un_neg me_int))))) (me_tup (ma_cons (me_call C__law_odd (hr.mono (by decide)) (by rfl) (ma_cons (me_var 0) ma_nil) (mcons_len mnil_len)) ma_nil))))) mss_nil)
  (mss_cons (ms_par (ps_par (i := 4) (j := 5) rfl sc__law_within_last.nd rfl rfl (by decide) rfl rfl (ma_cons (me_call C__law_take (hr.mono (by decide)) (by rfl) (ma_cons (me_var 0) (ma_cons (me_cb (pe_callB cd_len (by rfl) T.n_len (by decide +kernel) (ma_cons (me_var 2) ma_nil))) ma_nil)) (mcons_len (mcons_len mnil_len))) (ma_cons (me_call C__law_take (hr.mono (by decide)) (by rfl) (ma_cons (me_var 0) (ma_cons me_int ma_nil)) (mcons_len (mcons_len mnil_len))) ma_nil)) (by rfl)))
  (mss_cons (ms_asg (ps_asg (me_ix (pe_ix ix_seq (me_var 2) (me_var 4) (fun _ _ => rfl))) (mg_name (i := 3) sc__law_within_last.nd rfl (Or.inl rfl))))
  (mss_cons (ms_if (mt_cmp (od_eq hr.rg) (me_var 5) me_int (nomark _)) (mss_one (ms_ret (me_bin od_add (me_sl (pe_slice sl3 (me_var 1) mo_none (mo_some (me_neg (pe_un un_neg me_int))))) (me_tup (ma_cons (me_cb (pe_callTy cd_list (by rfl) T.n_list (by decide +kernel) (ma_cons (me_var 2) ma_nil))) ma_nil))))) mss_nil)
  (mss_cons (ms_if (mt_cmp (od_eq hr.rg) (me_var 5) me_int (nomark _)) (mss_one (ms_ret (me_bin od_add (me_sl (pe_slice sl3 (me_var 1) mo_none (mo_some (me_neg (pe_un un_neg me_int))))) (me_tup (ma_cons (me_bin od_add (me_var 2) (me_var 2)) ma_nil))))) mss_nil)
  (mss_cons (ms_if (mt_w (mw_and (mt_val (me_cb (pe_callB cd_isi (by rfl) T.n_isinstance (by decide +kernel) (ma_cons (me_var 3) (ma_cons (me_ty "tuple" (by rfl) T.n_tuple (by decide +kernel)) ma_nil))))) (mw_and (mt_cmp od_gt (me_cb (pe_callB cd_len (by rfl) T.n_len (by decide +kernel) (ma_cons (me_var 3) ma_nil))) me_int (nomark _)) (mw_and1 (mt_cmp (od_eq hr.rg) (me_var 5) me_int (nomark _)))))) (mss_one (ms_asg (ps_asg (me_call C__law_spoiled (hr.mono (by decide)) (by rfl) (ma_cons (me_var 0) (ma_cons (me_var 3) ma_nil)) (mcons_len (mcons_len mnil_len))) (mg_name (i := 3) sc__law_within_last.nd rfl (Or.inl rfl))))) (mss_one (ms_if (mt_val (me_cb (pe_callB cd_isi (by rfl) T.n_isinstance (by decide +kernel) (ma_cons (me_var 3) (ma_cons (me_ty "tuple" (by rfl) T.n_tuple (by decide +kernel)) ma_nil))))) (mss_one (ms_asg (ps_asg (me_call C__law_shape (hr.mono (by decide)) (by rfl) (ma_cons (me_var 0) (ma_cons (me_var 3) ma_nil)) (mcons_len (mcons_len mnil_len))) (mg_name (i := 3) sc__law_within_last.nd rfl (Or.inl rfl))))) (mss_one (ms_asg (ps_asg (me_call C__law_odd (hr.mono (by decide)) (by rfl) (ma_cons (me_var 0) ma_nil) (mcons_len mnil_len)) (mg_name (i := 3) sc__law_within_last.nd rfl (Or.inl rfl))))))))
  (mss_one (ms_ret (me_bin od_add (me_sl (pe_slice sl3 (me_var 1) mo_none (mo_some (me_neg (pe_un un_neg me_int))))) (me_tup (ma_cons (me_bin od_add (me_bin od_add (me_sl (pe_slice sl3 (me_var 2) mo_none (mo_some (me_var 4)))) (me_tup (ma_cons (me_var 3) ma_nil))) (me_sl (pe_slice sl3 (me_var 2) (mo_some (me_bin od_add (me_var 4) me_int)) mo_none))) ma_nil))))))))))))
abbrev s__law_told : Stmt := top 56
abbrev n__law_told : List Str := ["_law_answer", "_law_due"]
theorem sc__law_told : FnScope n__law_told ["_law_answer", "_law_due"] (defScope s__law_told) := ⟨rfl, rfl, rfl, by decide +kernel, rfl, by decide +kernel, by decide +kernel⟩
theorem ok__law_told {f : Addr} {fd : FuncData} (T : Txt w K mg) (Z : Fun K "_law_told" "_law_told" s__law_told f fd) : FnG P w K mg base 1 f fd ["_law_answer", "_law_due"] (spM K mg 2 m__law_told) := by
  exact def_ok Z sc__law_told fun c A o s H E hr =>
  (mss_one (ms_ret (me_if (mt_val (me_var 1)) (me_cmp od_is (me_var 0) me_bl (nomark _)) (me_cmp od_is (me_var 0) me_bl (nomark _)))))
abbrev s__law_renamed : Stmt := top 57
abbrev n__law_renamed : List Str := ["_law_box_here", "_law_value", "_law_words"]
theorem sc__law_renamed : FnScope n__law_renamed ["_law_box_here", "_law_value"] (defScope s__law_renamed) := ⟨rfl, rfl, rfl, by decide +kernel, rfl, by decide +kernel, by decide +kernel⟩
theorem ok__law_renamed {f : Addr} {fd : FuncData} (T : Txt w K mg) (Z : Fun K "_law_renamed" "_law_renamed" s__law_renamed f fd) (C__law_take : Cal P w K mg base 1 "_law_take" 2 m__law_take) : FnG P w K mg base 2 f fd ["_law_box_here", "_law_value"] (spM K mg 2 m__law_renamed) := by
  exact def_ok Z sc__law_renamed fun c A o s H E hr =>
  (mss_cons (ms_asg (ps_asg (me_lst (ma_cons me_str (ma_cons me_str (ma_cons me_str (ma_cons me_str (ma_cons me_str (ma_cons me_str (ma_cons me_str (ma_cons me_str (ma_cons me_str (ma_cons me_str (ma_cons me_non (ma_cons me_int (ma_cons (me_tup (ma_cons me_str ma_nil)) ma_nil)))))))))))))) (mg_name (i := 2) sc__law_renamed.nd rfl (Or.inl rfl))))
  (mss_one (ms_ret (me_bin od_add (me_tup (ma_cons (me_ix (pe_ix ix_seq (me_var 2) (me_call C__law_take (hr.mono (by decide)) (by rfl) (ma_cons (me_var 0) (ma_cons me_int ma_nil)) (mcons_len (mcons_len mnil_len))) (fun _ _ => rfl))) ma_nil)) (me_sl (pe_slice sl3 (me_var 1) (mo_some me_int) mo_none))))))
abbrev s__law_right : Stmt := top 58
abbrev n__law_right : List Str := ["_law_value", "_law_ahead", "_law_due"]
theorem sc__law_right : FnScope n__law_right ["_law_value"] (defScope s__law_right) := ⟨rfl, rfl, rfl, by decide +kernel, rfl, by decide +kernel, by decide +kernel⟩
theorem ok__law_right {f : Addr} {fd : FuncData} (T : Txt w K mg) (Z : Fun K "_law_right" "_law_right" s__law_right f fd) (hsys : ∃ mm, base.Ns sysModules mm) (C__law_is_command : Cal P w K mg base 4 "_law_is_command" 1 m__law_is_command) (C__law_told : Cal P w K mg base 1 "_law_told" 2 m__law_told) (C_is_command : Cal P w K mg base 13 "is_command" 1 m_is_command) (K_is_command : CalK P w K mg base 13 "is_command" "value" m_is_command) : FnG P w K mg base 14 f fd ["_law_value"] (spM K mg 1 m__law_right) := by
  exact def_ok Z sc__law_right fun c A o s H E hr =>
  (mss_cons (ms_par (ps_par (i := 1) (j := 2) rfl sc__law_right.nd rfl rfl (by decide) rfl rfl (ma_cons (me_cb (pe_callB (cd_reprR hr.rg hsys) (by rfl) T.n_repr (by decide +kernel) (ma_cons (me_var 0) ma_nil))) (ma_cons (me_call C__law_is_command (hr.mono (by decide)) (by rfl) (ma_cons (me_var 0) ma_nil) (mcons_len mnil_len)) ma_nil)) (by rfl)))
  (mss_cons (ms_if (mt_w (mw_or (mt_not (mt_val (me_call C__law_told (hr.mono (by decide)) (by rfl) (ma_cons (me_call C_is_command (hr.mono (by decide)) (by rfl) (ma_cons (me_var 0) ma_nil) (mcons_len mnil_len)) (ma_cons (me_var 2) ma_nil)) (mcons_len (mcons_len mnil_len))))) (mw_or1 (mt_not (mt_val (me_call C__law_told (hr.mono (by decide)) (by rfl) (ma_cons (me_kw K_is_command (hr.mono (by decide)) (by rfl) (me_var 0)) (ma_cons (me_var 2) ma_nil)) (mcons_len (mcons_len mnil_len)))))))) (mss_one (ms_ret me_bl)) mss_nil)
  (mss_one (ms_ret (me_cmp (od_eq hr.rg) (me_cb (pe_callB (cd_reprR hr.rg hsys) (by rfl) T.n_repr (by decide +kernel) (ma_cons (me_var 0) ma_nil))) (me_var 1) (nomark _))))))
abbrev s_law : Stmt := top 59
abbrev n_law : List Str := ["_law_script", "_law_k", "_law_box_here", "_law_value", "_law_others", "_law_one", "_law_way", "_law_near"]
theorem sc_law : FnScope n_law ["_law_script"] (defScope s_law) := ⟨rfl, rfl, rfl, by decide +kernel, rfl, by decide +kernel, by decide +kernel⟩
theorem ok_law {f : Addr} {fd : FuncData} (T : Txt w K mg) (Z : Fun K "law" "law" s_law f fd) (C__law_box : Cal P w K mg base 1 "_law_box" 1 m__law_box) (C__law_cell : Cal P w K mg base 1 "_law_cell" 2 m__law_cell) (C__law_take : Cal P w K mg base 1 "_law_take" 2 m__law_take) (C__law_command : Cal P w K mg base 5 "_law_command" 2 m__law_command) (C__law_is_command : Cal P w K mg base 4 "_law_is_command" 1 m__law_is_command) (C__law_within_last : Cal P w K mg base 4 "_law_within_last" 2 m__law_within_last) (C__law_shape : Cal P w K mg base 2 "_law_shape" 2 m__law_shape) (C__law_spoiled : Cal P w K mg base 3 "_law_spoiled" 2 m__law_spoiled) (C__law_renamed : Cal P w K mg base 2 "_law_renamed" 2 m__law_renamed) (C__law_item : Cal P w K mg base 3 "_law_item" 1 m__law_item) (C__law_right : Cal P w K mg base 14 "_law_right" 1 m__law_right) : FnG P w K mg base 15 f fd ["_law_script"] (spM K mg 1 m_law) := by
  exact def_ok Z sc_law fun c A o s H E hr =>
  (mss_cons (ms_for (ps_for PassesOwn.never rfl (mi_range (pi_range1 (by rfl) T.n_range (ma_cons (me_cb (pe_callB (cd_max2 rfl) (by rfl) T.n_max (by decide +kernel) (ma_cons me_int (ma_cons (me_cb (pe_callB (cd_min2 rfl) (by rfl) T.n_min (by decide +kernel) (ma_cons me_int (ma_cons (me_cb (pe_callB cd_len (by rfl) T.n_len (by decide +kernel) (ma_cons (me_var 0) ma_nil))) ma_nil)))) ma_nil)))) ma_nil))) (mg_name (i := 1) sc_law.nd rfl (Or.inl rfl)) (mss_cons (ms_asg (ps_asg (me_call C__law_box (hr.mono (by decide)) (by rfl) (ma_cons (me_call C__law_cell (hr.mono (by decide)) (by rfl) (ma_cons (me_var 0) (ma_cons (me_var 1) ma_nil)) (mcons_len (mcons_len mnil_len))) ma_nil) (mcons_len mnil_len)) (mg_name (i := 2) sc_law.nd rfl (Or.inl rfl))))
  (mss_cons (ms_par (ps_par (i := 6) (j := 7) rfl sc_law.nd rfl rfl (by decide) rfl rfl (ma_cons (me_call C__law_take (hr.mono (by decide)) (by rfl) (ma_cons (me_var 2) (ma_cons me_int ma_nil)) (mcons_len (mcons_len mnil_len))) (ma_cons (me_call C__law_take (hr.mono (by decide)) (by rfl) (ma_cons (me_var 2) (ma_cons me_int ma_nil)) (mcons_len (mcons_len mnil_len))) ma_nil)) (by rfl)))
  (mss_cons (ms_asg (ps_asg (me_call C__law_command (hr.mono (by decide)) (by rfl) (ma_cons (me_var 2) (ma_cons (me_var 6) ma_nil)) (mcons_len (mcons_len mnil_len))) (mg_name (i := 3) sc_law.nd rfl (Or.inl rfl))))
  (mss_cons (ms_if (mt_not (mt_val (me_call C__law_is_command (hr.mono (by decide)) (by rfl) (ma_cons (me_var 3) ma_nil) (mcons_len mnil_len)))) (mss_one (ms_ret me_bl)) mss_nil)
  (mss_cons (ms_asg (ps_asg (me_lst (ma_cons (me_call C__law_spoiled (hr.mono (by decide)) (by rfl) (ma_cons (me_var 2) (ma_cons (me_var 3) ma_nil)) (mcons_len (mcons_len mnil_len))) (ma_cons (me_call C__law_shape (hr.mono (by decide)) (by rfl) (ma_cons (me_var 2) (ma_cons (me_var 3) ma_nil)) (mcons_len (mcons_len mnil_len))) (ma_cons (me_call C__law_within_last (hr.mono (by decide)) (by rfl) (ma_cons (me_var 2) (ma_cons (me_var 3) ma_nil)) (mcons_len (mcons_len mnil_len))) ma_nil)))) (mg_name (i := 4) sc_law.nd rfl (Or.inl rfl))))
  (mss_cons (ms_asg (ps_asg (me_bin od_add (me_var 4) (me_lst (ma_cons (me_call C__law_renamed (hr.mono (by decide)) (by rfl) (ma_cons (me_var 2) (ma_cons (me_var 3) ma_nil)) (mcons_len (mcons_len mnil_len))) ma_nil))) (mg_name (i := 4) sc_law.nd rfl (Or.inl rfl))))
  (mss_cons (ms_if (mt_cmp (od_eq hr.rg) (me_var 6) me_int (nomark _)) (mss_one (ms_asg (ps_asg (me_bin od_add (me_var 4) (me_lst (ma_cons (me_bin od_add (me_sl (pe_slice sl3 (me_var 3) mo_none (mo_some me_int))) (me_tup (ma_cons (me_ix (pe_ix ix_seq (me_var 3) me_int (fun _ _ => rfl))) ma_nil))) (ma_cons (me_bin od_add (me_sl (pe_slice sl3 (me_var 3) mo_none (mo_some me_int))) (me_tup (ma_cons (me_ix (pe_ix ix_seq (me_var 3) me_int (fun _ _ => rfl))) ma_nil))) ma_nil)))) (mg_name (i := 4) sc_law.nd rfl (Or.inl rfl))))) mss_nil)
  (mss_cons (ms_if (mt_w (mw_and (mt_cmp (od_eq hr.rg) (me_var 6) me_int (nomark _)) (mw_and1 (mt_cmp (od_eq hr.rg) (me_var 7) me_int (nomark _))))) (mss_one (ms_asg (ps_asg (me_bin od_add (me_var 4) (me_lst (ma_cons (me_bin od_add (me_sl (pe_slice sl3 (me_var 3) mo_none (mo_some me_int))) (me_tup (ma_cons (me_tup ma_nil) ma_nil))) (ma_cons (me_bin od_add (me_bin od_add (me_sl (pe_slice sl3 (me_var 3) mo_none (mo_some me_int))) (me_tup (ma_cons me_int ma_nil))) (me_sl (pe_slice sl3 (me_var 3) (mo_some me_int) mo_none))) ma_nil)))) (mg_name (i := 4) sc_law.nd rfl (Or.inl rfl))))) mss_nil)
  (mss_cons (ms_if (mt_w (mw_and (mt_cmp (od_eq hr.rg) (me_var 6) me_int (nomark _)) (mw_and1 (mt_cmp (od_eq hr.rg) (me_var 7) me_int (nomark _))))) (mss_one (ms_asg (ps_asg (me_bin od_add (me_var 4) (me_lst (ma_cons (me_bin od_add (me_sl (pe_slice sl3 (me_var 3) mo_none (mo_some me_int))) (me_tup (ma_cons (me_tup ma_nil) ma_nil))) (ma_cons (me_bin od_add (me_bin od_add (me_sl (pe_slice sl3 (me_var 3) mo_none (mo_some me_int))) (me_tup (ma_cons (me_tup (ma_cons me_int (ma_cons me_int ma_nil))) ma_nil))) (me_sl (pe_slice sl3 (me_var 3) (mo_some me_int) mo_none))) ma_nil)))) (mg_name (i := 4) sc_law.nd rfl (Or.inl rfl))))) mss_nil)
  (mss_cons (ms_if (mt_cmp (od_eq hr.rg) (me_var 6) me_int (nomark _)) (mss_one (ms_asg (ps_asg (me_bin od_add (me_var 4) (me_lst (ma_cons (me_bin od_add (me_sl (pe_slice sl3 (me_var 3) mo_none (mo_some me_int))) (me_tup (ma_cons (me_bin od_mulT (me_tup (ma_cons (me_call C__law_item (hr.mono (by decide)) (by rfl) (ma_cons (me_var 2) ma_nil) (mcons_len mnil_len)) ma_nil)) me_int) ma_nil))) ma_nil))) (mg_name (i := 4) sc_law.nd rfl (Or.inl rfl))))) mss_nil)
  (mss_cons (ms_if (mt_cmp (od_eq hr.rg) (me_var 6) me_int (nomark _)) (mss_one (ms_asg (ps_asg (me_bin od_add (me_var 4) (me_lst (ma_cons (me_bin od_add (me_sl (pe_slice sl3 (me_var 3) mo_none (mo_some me_int))) (me_tup (ma_cons me_int ma_nil))) (ma_cons (me_bin od_add (me_sl (pe_slice sl3 (me_var 3) mo_none (mo_some me_int))) (me_tup (ma_cons (me_neg (pe_un un_neg me_int)) ma_nil))) (ma_cons (me_bin od_add (me_sl (pe_slice sl3 (me_var 3) mo_none (mo_some me_int))) (me_tup (ma_cons me_int ma_nil))) ma_nil))))) (mg_name (i := 4) sc_law.nd rfl (Or.inl rfl))))) mss_nil)
  (mss_one (ms_for (ps_for PassesOwn.never rfl (mi_list (pi_list (me_bin od_add (me_lst (ma_cons (me_var 3) ma_nil)) (me_var 4)))) (mg_name (i := 5) sc_law.nd rfl (Or.inl rfl)) (mss_one (ms_if (mt_not (mt_val (me_call C__law_right (hr.mono (by decide)) (by rfl) (ma_cons (me_var 5) ma_nil) (mcons_len mnil_len)))) (mss_one (ms_ret me_bl)) mss_nil))))))))))))))))))
  (mss_one (ms_ret me_bl)))
end
end K04

namespace Ln
open PySem PySem.StrLaws L2 M
/-! ### texts as lists of codes -/
abbrev cs (x : Str) : List Nat := x.cps.toList
def mk (l : List Nat) : Str := ⟨l.toArray⟩
theorem cs_mk (l : List Nat) : cs (mk l) = l := by simp [cs, mk]
theorem mk_cs (x : Str) : mk (cs x) = x := by
  obtain ⟨a⟩ := x
  simp [cs, mk]
theorem str_ext {x y : Str} (h : cs x = cs y) : x = y := by rw [← mk_cs x, ← mk_cs y, h]
theorem len_cs (x : Str) : x.length = (cs x).length := by simp [cs, Str.length]
theorem cs_app (x y : Str) : cs (x ++ y) = cs x ++ cs y := by
  show (x.cps ++ y.cps).toList = _
  simp [cs]
/-! ### a sign for a sign -/
theorem repl1 {k : Nat} {z : List Nat} : ∀ l : List Nat, replL [k] z l = l.flatMap fun c => if c = k then z else [c]
  | [] => by rw [replL_nil]; rfl
  | c :: r => by
    have ih := repl1 (k := k) (z := z) r
    by_cases h : c = k
    · rw [replL_hit (by simp) (by simp [h]), List.flatMap_cons, if_pos h]
      show z ++ replL [k] z r = _
      rw [ih]
    · rw [replL_miss (by simp [h]), List.flatMap_cons, if_neg h, ih]
      rfl
def esc1 (c : Nat) : List Nat := if c = 92 then [92, 92] else if c = 34 then [92, 34] else [c]
def esc (l : List Nat) : List Nat := l.flatMap esc1
theorem esc_cons (c : Nat) (r : List Nat) : esc (c :: r) = esc1 c ++ esc r := by rw [esc, List.flatMap_cons]; rfl
theorem esc_eq (l : List Nat) : replL [34] [92, 34] (replL [92] [92, 92] l) = esc l := by
  rw [repl1, repl1, List.flatMap_assoc]
  unfold esc
  congr 1
  funext c
  unfold esc1
  by_cases h : c = 92
  · subst h; rfl
  · rw [if_neg h, if_neg h]
    by_cases h2 : c = 34
    · subst h2; rfl
    · simp [h2]
def dbl2 (l : List Nat) : List Nat := l.flatMap fun c => if c = 92 then [92, 92] else [c]
theorem esc_head {l r : List Nat} {c : Nat} (h : esc l = c :: r) : c ≠ 34 := by
  cases l with
  | nil => cases h
  | cons d t =>
    rw [esc_cons] at h
    unfold esc1 at h
    by_cases h1 : d = 92
    · rw [if_pos h1] at h; cases h; decide
    · rw [if_neg h1] at h
      by_cases h2 : d = 34
      · rw [if_pos h2] at h; cases h; decide
      · rw [if_neg h2] at h; cases h; exact h2
theorem un1 : ∀ l : List Nat, replL [92, 34] [34] (esc l) = dbl2 l
  | [] => by show replL [92, 34] [34] [] = _; rw [replL_nil]; rfl
  | c :: r => by
    have ih := un1 r
    rw [esc_cons]
    have e : dbl2 (c :: r) = (if c = 92 then [92, 92] else [c]) ++ dbl2 r := by unfold dbl2; rw [List.flatMap_cons]
    rw [e]
    unfold esc1
    by_cases h1 : c = 92
    · rw [if_pos h1, if_pos h1]
      show replL [92, 34] [34] (92 :: 92 :: esc r) = 92 :: 92 :: dbl2 r
      rw [replL_miss (by simp), replL_miss, ih]
      cases er : esc r with
      | nil => simp
      | cons d t =>
        have := esc_head er
        simp [this]
    · rw [if_neg h1, if_neg h1]
      by_cases h2 : c = 34
      · rw [if_pos h2]
        subst h2
        show replL [92, 34] [34] (92 :: 34 :: esc r) = 34 :: dbl2 r
        rw [replL_hit (by simp) (by simp)]
        show 34 :: replL [92, 34] [34] (esc r) = _
        rw [ih]
      · rw [if_neg h2]
        show replL [92, 34] [34] (c :: esc r) = c :: dbl2 r
        rw [replL_miss, ih]
        cases er : esc r with
        | nil => simp
        | cons d t => simp [h1]
theorem un2 : ∀ l : List Nat, replL [92, 92] [92] (dbl2 l) = l
  | [] => by show replL [92, 92] [92] [] = _; rw [replL_nil]
  | c :: r => by
    have ih := un2 r
    have e : dbl2 (c :: r) = (if c = 92 then [92, 92] else [c]) ++ dbl2 r := by unfold dbl2; rw [List.flatMap_cons]
    rw [e]
    by_cases h1 : c = 92
    · rw [if_pos h1]
      subst h1
      show replL [92, 92] [92] (92 :: 92 :: dbl2 r) = _
      rw [replL_hit (by simp) (by simp)]
      show 92 :: replL [92, 92] [92] (dbl2 r) = _
      rw [ih]
    · rw [if_neg h1]
      show replL [92, 92] [92] (c :: dbl2 r) = _
      rw [replL_miss, ih]
      cases er : dbl2 r with
      | nil => simp
      | cons d t => simp [h1]
def unesc (l : List Nat) : List Nat := replL [92, 92] [92] (replL [92, 34] [34] l)
theorem unesc_esc (l : List Nat) : unesc (esc l) = l := by unfold unesc; rw [un1, un2]
theorem esc_len (l : List Nat) : (esc l).length ≤ 2 * l.length := by
  induction l with
  | nil => simp [esc]
  | cons c r ih =>
    rw [esc_cons, List.length_append, List.length_cons]
    have : (esc1 c).length ≤ 2 := by unfold esc1; split <;> (try split) <;> simp
    omega
theorem replL_len {y z : List Nat} (h : z.length ≤ y.length) (hy : y ≠ []) : ∀ (n : Nat) (l : List Nat), l.length ≤ n → (replL y z l).length ≤ l.length
  | _, [], _ => by rw [replL_nil]; simp
  | 0, c :: r, hl => by simp at hl
  | n + 1, c :: r, hl => by
    by_cases q : (c :: r).take y.length = y
    · rw [replL_hit hy q, List.length_append]
      have hyl : y.length ≤ (c :: r).length := by rw [← q, List.length_take]; exact Nat.min_le_right _ _
      have hp : 0 < y.length := by cases y with
        | nil => exact absurd rfl hy
        | cons a b => simp
      have hd : ((c :: r).drop y.length).length = (c :: r).length - y.length := List.length_drop
      have ih := replL_len h hy n ((c :: r).drop y.length) (by rw [hd]; simp at hl ⊢; omega)
      rw [hd] at ih
      omega
    · rw [replL_miss q, List.length_cons, List.length_cons]
      have ih := replL_len h hy n r (by simp at hl; omega)
      omega
theorem unesc_len (l : List Nat) : (unesc l).length ≤ l.length :=
  Nat.le_trans (replL_len (by decide) (by decide) _ _ (Nat.le_refl _)) (replL_len (by decide) (by decide) _ _ (Nat.le_refl _))

/-! ### values, and their lines -/
mutual
def valD : D → Bool
  | .non => true
  | .bl _ => true
  | .int i => decide (i.natAbs < 10 ^ 15)
  | .str _ => true
  | .tup ds => decide (ds.length ≤ 100000) && valA ds
  | _ => false
def valA : List D → Bool
  | [] => true
  | d :: ds => valD d && valA ds
end
def numC (i : Int) : List Nat := cs (Str.ofString (toString i))
mutual
def wrD : D → List Nat
  | .non => [126]
  | .bl b => if b then [43] else [33]
  | .int i => numC i
  | .str x => 34 :: esc (cs x) ++ [34]
  | .tup ds => 40 :: wrA ds ++ [41]
  | _ => []
def wrA : List D → List Nat
  | [] => []
  | [d] => wrD d
  | d :: ds => wrD d ++ 32 :: wrA ds
end
end Ln

namespace K04
open PySem PySem.StrLaws L2 TL M Ln
local macro_rules | `(tactic| walk_at "go") => `(tactic| simp (maxSteps := 100000000) only [w_def, w_var, w_c, w_bin, w_and, w_or, w_bK, w_not, w_if, w_nil, w_cons, w_tup, w_lst, w_new, w_tv, w_tand, w_tor, w_tnot, w_chain, w_call, w_kw, w_cb, w_ix, w_nop, w_p, w_sl, w_neg, w_ms, w_m1, w_d0, w_app, w_ext, w_pop, w_tr, w_newc, w_s1, w_repl, w_mu, w_addn, w_dget, w_din, w_dget2, w_dictn, w_asgs, w_attr, w_xo, w_lx, w_bx, w_sxr, w_xdef, w_xseq, w_xraise, w_xtry, w_qus, w_okf, w_xkw, mxIf, mxCons, mxCallM, mxCall, mxBin, mxTv, mxRet, mxDrop, mxAsg, outX,
  w_ret, w_skip, w_drop, w_asg, w_par, w_ifs, w_seq, w_seti, w_for, w_lc, w_sr, w_sl', w_st, w_ss, w_sz, w_yes, wp_some, wp_none, wp_bind, wp_map, wp_ite,
  List.map_cons, List.map_nil, List.length_cons, List.length_nil, Nat.reduceAdd, Nat.reduceSub, List.replicate_succ, List.replicate_zero, List.cons_append, List.nil_append, List.append_nil,
  List.getElem?_cons_zero, List.getElem?_cons_succ, List.set_cons_zero, List.set_cons_succ, gN, setAll, gT,
  e_addI, e_addT, e_addL, e_addS, e_subI, e_mulI, e_modI, e_fdvI, e_powI, e_ltI, e_leI, e_gtI, e_geI, e_ltS, e_gtS, e_isB, e_int, e_abs, e_max, e_min, e_lenT, e_lenL, e_lenQ, e_lenS, e_ixT, e_ixL, e_ixQ, e_ixS, e_slT, e_slL, e_slQ, e_listT, e_listL, e_isi, e_eqI, e_eqS, e_neI, e_neS, e_ninS, iI, iB, iS, iT, at0, at1, at2, at3, at4, at5, at6, at7,
  Bool.false_eq_true, if_false, if_true, decide_eq_true_eq, reduceIte])
/-- a box: what is left of a great cell, whether it is one, the rest of it, how many draws were mixed -/
def Bx (S : Sto) (j : Nat) (n : Int) : Prop := ∃ g f c d, S[j]? = some (.lst [.int g, .bl f, .int c, .int d]) ∧ 0 ≤ c ∧ c < 2147483629 ∧ 0 ≤ d ∧ d ≤ n
theorem Bx.mono {S : Sto} {j : Nat} {n m : Int} (h : Bx S j n) (l : n ≤ m) : Bx S j m := by
  obtain ⟨g, f, c, d, h1, h2, h3, h4, h5⟩ := h
  exact ⟨g, f, c, d, h1, h2, h3, h4, Int.le_trans h5 l⟩
section
variable {S : Sto} {j : Nat} {a b c d x : D}
theorem ix0 (h : S[j]? = some (.lst [a, b, c, d])) : ixD S (.ref j) (.int 0) = some a := by simp only [ixD, h]; rfl
theorem ix1 (h : S[j]? = some (.lst [a, b, c, d])) : ixD S (.ref j) (.int 1) = some b := by simp only [ixD, h]; rfl
theorem ix2 (h : S[j]? = some (.lst [a, b, c, d])) : ixD S (.ref j) (.int 2) = some c := by simp only [ixD, h]; rfl
theorem ix3 (h : S[j]? = some (.lst [a, b, c, d])) : ixD S (.ref j) (.int 3) = some d := by simp only [ixD, h]; rfl
theorem st0 (h : S[j]? = some (.lst [a, b, c, d])) : stSet S j 0 x = some (S.set j (.lst [x, b, c, d])) := by simp only [stSet, h]; rfl
theorem st3 (h : S[j]? = some (.lst [a, b, c, d])) : stSet S j 3 x = some (S.set j (.lst [a, b, c, x])) := by simp only [stSet, h]; rfl
theorem set_at {o : Ob} (h : S[j]? = some (.lst [a, b, c, d])) : (S.set j o)[j]? = some o := List.getElem?_set_self (lt_of_get h)
end
theorem take_spec {S : Sto} {j : Nat} {n m : Int} {Q : D × Sto → Prop} (B : Bx S j n) (hm : 0 < m) (hm2 : m < 1000000) (hn : n ≤ 1000000000) (h : ∀ r S', 0 ≤ r → r < m → Bx S' j (n + 1) → Q (.int r, S')) : wp (m__law_take [.ref j, .int m] S) Q := by
  obtain ⟨g, f, c, d, hS, c0, c1, d0, d1⟩ := B
  have hS2 : ∀ o, (S.set j o)[j]? = some o := fun o => set_at hS
  have i2 : ∀ x y z w, ixD (S.set j (.lst [x, y, z, w])) (.ref j) (.int 2) = some z := fun x y z w => ix2 (hS2 _)
  have i3 : ∀ x y z w, ixD (S.set j (.lst [x, y, z, w])) (.ref j) (.int 3) = some w := fun x y z w => ix3 (hS2 _)
  by_cases fg : f = true ∧ 0 < g
  · obtain ⟨rfl, g0⟩ := fg
    unfold m__law_take
    repeat (first | walk_at "go" | simp only [ix0 hS, ix1 hS, ix2 hS, ix3 hS, st0 hS, st3 hS, hS2, if_pos g0])
    refine itp hm (itp ⟨hm, by omega⟩ ?_)
    exact h _ _ (Int.emod_nonneg _ (by omega)) (Int.emod_lt_of_pos _ hm) ⟨_, _, c, d, hS2 _, c0, c1, d0, by omega⟩
  · have key : ∀ (O : Out × Sto → Prop) (t : EtF) (s1 s2 : StF) (ρ : En), (∀ B : Bool × Sto → Prop, B (false, S) → wp (t ρ S) B) → wp (s2 ρ S) O → wp (mIfS t s1 s2 ρ S) O := by
      intro O t s1 s2 ρ h1 h2
      rw [w_ifs]
      exact h1 _ (itn (by simp) h2)
    unfold m__law_take
    rw [w_def, w_seq]
    refine key _ _ _ _ _ (fun B hB => ?_) ?_
    · repeat (first | walk_at "go" | simp only [ix0 hS, ix1 hS, ix2 hS, ix3 hS, st0 hS, st3 hS, hS2])
      cases f with
      | false => exact itn (by simp) hB
      | true =>
        have : ¬ 0 < g := fun q => fg ⟨rfl, q⟩
        refine itp rfl ?_
        rw [decide_eq_false this]
        exact hB
    · repeat (first | walk_at "go" | simp only [i2, i3, ix0 hS, ix1 hS, ix2 hS, ix3 hS, st0 hS, st3 hS, hS2])
      refine itp (.inl (by decide)) (itp ⟨by decide, by decide, by omega⟩ (itp (by decide) ?_))
      refine itp (.inr (by decide)) ?_
      repeat (first | walk_at "go" | simp only [i2, i3, ix0 hS, ix1 hS, ix2 hS, ix3 hS, st0 hS, st3 hS, hS2])
      refine itp (.inl (by decide)) ?_
      generalize hx : (c + 15485863 * (d + 1) + 179424697) ^ (5 : Int).toNat % 2147483647 = x
      have x0 : 0 ≤ x := by rw [← hx]; exact Int.emod_nonneg _ (by decide)
      have x1 : x < 2147483647 := by rw [← hx]; exact Int.emod_lt_of_pos _ (by decide)
      refine itp ⟨by decide, by decide, by omega⟩ (itp (by decide) (itp ⟨by decide, by decide⟩ (itp hm ?_)))
      exact h _ _ (Int.emod_nonneg _ (by omega)) (Int.emod_lt_of_pos _ hm) ⟨g, f, c, d + 1, hS2 _, c0, c1, by omega, by omega⟩
end K04

namespace K04
open PySem PySem.StrLaws L2 TL M Ln
local macro_rules | `(tactic| walk_at "go") => `(tactic| simp (maxSteps := 100000000) only [w_def, w_var, w_c, w_bin, w_and, w_or, w_bK, w_not, w_if, w_nil, w_cons, w_tup, w_lst, w_new, w_tv, w_tand, w_tor, w_tnot, w_chain, w_call, w_kw, w_cb, w_ix, w_nop, w_p, w_sl, w_neg, w_ms, w_m1, w_d0, w_app, w_ext, w_pop, w_tr, w_newc, w_s1, w_repl, w_mu, w_addn, w_dget, w_din, w_dget2, w_dictn, w_asgs, w_attr, w_xo, w_lx, w_bx, w_sxr, w_xdef, w_xseq, w_xraise, w_xtry, w_qus, w_okf, w_xkw, mxIf, mxCons, mxCallM, mxCall, mxBin, mxTv, mxRet, mxDrop, mxAsg, outX,
  w_ret, w_skip, w_drop, w_asg, w_par, w_ifs, w_seq, w_seti, w_for, w_lc, w_sr, w_sl', w_st, w_ss, w_sz, w_yes, wp_some, wp_none, wp_bind, wp_map, wp_ite,
  List.map_cons, List.map_nil, List.length_cons, List.length_nil, Nat.reduceAdd, Nat.reduceSub, List.replicate_succ, List.replicate_zero, List.cons_append, List.nil_append, List.append_nil,
  List.getElem?_cons_zero, List.getElem?_cons_succ, List.set_cons_zero, List.set_cons_succ, gN, setAll, gT,
  e_addI, e_addT, e_addL, e_addS, e_subI, e_mulI, e_modI, e_fdvI, e_powI, e_ltI, e_leI, e_gtI, e_geI, e_ltS, e_gtS, e_isB, e_int, e_abs, e_max, e_min, e_lenT, e_lenL, e_lenQ, e_lenS, e_ixT, e_ixL, e_ixQ, e_ixS, e_slT, e_slL, e_slQ, e_listT, e_listL, e_isi, e_eqI, e_eqS, e_neI, e_neS, e_ninS, iI, iB, iS, iT, at0, at1, at2, at3, at4, at5, at6, at7,
  Bool.false_eq_true, if_false, if_true, decide_eq_true_eq, reduceIte])
theorem wp_eq {α : Type} {o : Option α} {x : α} (h : wp o fun a => a = x) : o = some x := by
  obtain ⟨a, e, rfl⟩ := h
  exact e
def intB : D → Bool
  | .int _ => true
  | _ => false
def btw (v : D) (lo hi : Int) : Bool := match v with
  | .int i => decide (lo ≤ i) && decide (i ≤ hi)
  | _ => false
def txtB (v : D) (m : Int) : Bool := match v with
  | .str x => decide ((x.length : Int) ≤ m) && x.cps.toList.all sgn
  | _ => false
def nmB (v : D) : Bool := match v with
  | .str x => nameB x
  | _ => false
theorem isi_int {v : D} (h : okD v = true) : isiD v "int" = some (iI v) := by
  cases v <;> simp [okD] at h <;> rfl
theorem isi_bool {v : D} (h : okD v = true) : isiD v "bool" = some (iB v) := by
  cases v <;> simp [okD] at h <;> rfl
theorem isi_str {v : D} (h : okD v = true) : isiD v "str" = some (iS v) := by
  cases v <;> simp [okD] at h <;> rfl
theorem isi_tup {v : D} (h : okD v = true) : isiD v "tuple" = some (iT v) := by
  cases v <;> simp [okD] at h <;> rfl
section
variable {v : D} {S : Sto} {lo hi : Int}
theorem p_integer (h : okD v = true) : m_is_integer [v] S = some (.bl (intB v), S) := by
  apply wp_eq
  unfold m_is_integer
  walk_at "go"
  simp only [isi_int h]
  walk_at "go"
  simp only [isi_bool h]
  cases v <;> (repeat (first | walk_at "go" | rfl))
theorem p_between (h : okD v = true) : m_is_between [v, .int lo, .int hi] S = some (.bl (btw v lo hi), S) := by
  apply wp_eq
  unfold m_is_between
  walk_at "go"
  simp only [p_integer h]
  walk_at "go"
  cases v <;> simp only [intB, btw] <;> (repeat (first | walk_at "go" | rfl))
  refine it2 (fun q => ?_) fun q => ?_
  · simp [q]
  · simp [q]
def prB (v : D) : Bool := match v with
  | .str x => x.cps.toList.all sgn
  | _ => false
theorem p_signs (h : okD v = true) : m_is_signs [v] S = some (.bl (prB v), S) := by
  apply wp_eq
  unfold m_is_signs
  walk_at "go"
  simp only [isi_str h]
  walk_at "go"
  cases v <;> simp only [prB] <;> (repeat (first | walk_at "go" | rfl))
  rename_i x
  refine it2 (fun q => ?_) fun q => ?_
  · rw [← ascii_print, q]
    rfl
  · rw [← ascii_print]
    simp [q]
theorem p_text (h : okD v = true) : m_is_text [v, .int lo] S = some (.bl (txtB v lo), S) := by
  apply wp_eq
  unfold m_is_text
  walk_at "go"
  simp only [isi_str h]
  walk_at "go"
  have hS := fun S => p_signs (S := S) h
  cases v <;> simp only [txtB] <;> (repeat (first | walk_at "go" | rfl))
  rename_i x
  rw [okD, Bool.and_eq_true, decide_eq_true_eq] at h
  refine itp (by omega) (it2 (fun q => ?_) fun q => ?_)
  · rw [hS]
    walk_at "go"
    rw [decide_eq_true q]
    rfl
  · rw [decide_eq_false q]
    rfl
theorem p_name (h : okD v = true) : m_is_name [v] S = some (.bl (nmB v), S) := by
  apply wp_eq
  unfold m_is_name
  walk_at "go"
  simp only [p_text h]
  walk_at "go"
  cases v <;> simp only [nmB, txtB] <;> (repeat (first | walk_at "go" | rfl))
  rename_i x
  unfold nameB
  refine it2 (fun q => ?_) fun q => ?_
  · rw [Bool.and_eq_true, decide_eq_true_eq] at q
    have a := alpha_lower x q.2
    refine it2 (fun q2 => ?_) fun q2 => ?_
    · rw [q2, Bool.true_and] at a
      rw [a]
      have : x.length ≤ 8 := by omega
      simp [this]
    · have : (Txt.isalpha x) = false := by simpa using q2
      rw [this, Bool.false_and] at a
      rw [Bool.and_right_comm, ← a]
      rfl
  · have : (decide (x.length ≤ 8) && x.cps.toList.all low) = false := by
      rw [Bool.eq_false_iff]
      intro z
      rw [Bool.and_eq_true, decide_eq_true_eq] at z
      exact q (by rw [low_sgn z.2]; simp; omega)
    rw [Bool.and_assoc, this, Bool.and_false]
theorem q_name (h : okD v = true) : m__is_name [v] S = some (.bl (nmB v), S) := by
  apply wp_eq
  unfold m__is_name
  repeat (first | walk_at "go" | simp only [p_name h])
theorem q_body (h : okD v = true) : m__is_body [v] S = some (.bl (txtB v 40), S) := by
  apply wp_eq
  unfold m__is_body
  repeat (first | walk_at "go" | simp only [p_text h])
theorem q_prio (h : okD v = true) : m__is_priority [v] S = some (.bl (btw v 0 3), S) := by
  apply wp_eq
  unfold m__is_priority
  repeat (first | walk_at "go" | simp only [p_between h])
theorem q_wait (h : okD v = true) : m__is_wait [v] S = some (.bl (btw v 0 50), S) := by
  apply wp_eq
  unfold m__is_wait
  repeat (first | walk_at "go" | simp only [p_between h])
theorem q_num (h : okD v = true) : m__is_number [v] S = some (.bl (btw v 1 999999999999), S) := by
  apply wp_eq
  unfold m__is_number
  repeat (first | walk_at "go" | simp only [p_between h])
theorem q_count (h : okD v = true) : m__is_count [v] S = some (.bl (btw v 0 999999999999), S) := by
  apply wp_eq
  unfold m__is_count
  repeat (first | walk_at "go" | simp only [p_between h])
theorem q_tries (h : okD v = true) : m__is_tries [v] S = some (.bl (btw v 0 4), S) := by
  apply wp_eq
  unfold m__is_tries
  repeat (first | walk_at "go" | simp only [p_between h])
theorem q_bool (h : okD v = true) : m__is_bool [v] S = some (.bl (iB v), S) := by
  apply wp_eq
  unfold m__is_bool
  repeat (first | walk_at "go" | simp only [isi_bool h])
def isNn : D → Bool
  | .non => true
  | _ => false
def nnB (v : D) : Bool := isNn v || nmB v
theorem e_isN (h : okD v = true) : isD v .non = some (.bl (isNn v)) := by
  cases v <;> first | rfl | (exfalso; simp [okD] at h; done)
theorem q_nameN (h : okD v = true) : m__is_name_or_none [v] S = some (.bl (nnB v), S) := by
  apply wp_eq
  unfold m__is_name_or_none nnB
  walk_at "go"
  rw [e_isN h]
  walk_at "go"
  cases e : isNn v with
  | true => exact itp rfl rfl
  | false =>
    refine itn (by simp) ?_
    rw [p_name h]
    walk_at "go"
    rfl
def itemB (v : D) : Bool := match v with
  | .tup [a, b, c, d, e, f] => nmB a && nmB b && txtB c 40 && btw d 0 3 && btw e 0 50 && btw f 0 50
  | _ => false
def tokB (v : D) : Bool := match v with
  | .tup [a, b] => btw a 1 999999999999 && btw b 1 999999999999
  | _ => false
def madeB (v : D) : Bool := match v with
  | .tup ds => decide (ds.length ≤ 4) && ds.all itemB
  | _ => false
def sendB (v : D) : Bool := match v with
  | .tup ds => decide (ds.length ≤ 4) && ds.all itemB && decide (0 < ds.length)
  | _ => false
end

section
variable {v : D} {S : Sto} {n : Nat}
abbrev tb (n : Nat) : Str → Option Fn := tblF (m_is_token n) (m__is_made n) (m_is_sending n)
/-- a judge that tells J of plain data -/
def Jg (n : Nat) (x : Str) (J : D → Bool) : Prop := ∃ F, tb n x = some F ∧ ∀ (v : D) (S : Sto), okD v = true → F [v] S = some (.bl (J v), S)
def allJ : List (Str × (D → Bool)) → List D → Bool
  | j :: js, d :: ds => j.2 d && allJ js ds
  | _, _ => true
/-- the loop of _fits over judges and parts -/
theorem fits_loop : ∀ (js : List (Str × (D → Bool))) (ds : List D) (ρ : En), ρ.length = 4 → (∀ j ∈ js, Jg n j.1 j.2) → okA ds = true →
    wp (loop (gT [2, 3]) (mIfS (mTnot (mTv (mHeld 2 (tb n) (mCons (mVar 3) mNil)))) (mRet (mC (.bl false))) mSkip) (List.zipWith (fun a b => .tup [a, b]) (js.map fun j => D.fn j.1) ds) ρ S)
      fun x => x.2 = S ∧ ((allJ js ds = true ∧ ∃ r, x.1 = .nx r) ∨ (allJ js ds = false ∧ x.1 = .rt (.bl false)))
  | [], ds, ρ, _, _, _ => wp_some.mpr ⟨rfl, .inl ⟨rfl, _, rfl⟩⟩
  | j :: js, [], ρ, _, _, _ => wp_some.mpr ⟨rfl, .inl ⟨rfl, _, rfl⟩⟩
  | (j, J) :: js, d :: ds, ρ, hl, hj, ho => by
    rw [okA, Bool.and_eq_true] at ho
    obtain ⟨F, f1, f2⟩ := hj _ List.mem_cons_self
    match ρ, hl with
    | [a, b, c, e], _ =>
      rw [List.map_cons, List.zipWith_cons_cons]
      unfold loop
      rw [wp_bind]
      refine wp_of (a := [a, b, some (.fn j), some d]) rfl ?_
      rw [wp_bind, w_ifs, w_tnot, w_tv, w_held rfl f1]
      walk_at "go"
      simp only [f2 d S ho.1]
      walk_at "go"
      unfold allJ
      cases e : J d with
      | true =>
        refine itn (by simp) ?_
        refine wp_mono (fits_loop js ds _ rfl (fun x hx => hj x (List.mem_cons_of_mem _ hx)) ho.2) fun x q => ?_
        simpa [e] using q
      | false =>
        refine itp (by simp) ?_
        simp [e]
theorem fits_ok {js : List (Str × (D → Bool))} (n : Nat) (hj : ∀ j ∈ js, Jg n j.1 j.2) (h : okD v = true) : m_fits (n + 1) [v, .tup (js.map fun j => D.fn j.1)] S = some (.bl (match v with | .tup ds => decide (ds.length = js.length) && allJ js ds | _ => false), S) := by
  apply wp_eq
  rw [m_fits_succ]
  unfold b_fits
  walk_at "go"
  simp only [isi_tup h]
  try walk_at "go"
  cases v with
  | tup ds =>
    rw [okD] at h
    try walk_at "go"
    refine itn (by simp) ?_
    try walk_at "go"
    rw [List.length_map]
    refine it2 (fun q => ?_) fun q => ?_
    · have : ds.length ≠ js.length := fun e => by rw [e] at q; simp at q
      simp [this]
    · have e : ds.length = js.length := by
        simp at q
        omega
      refine wp_mono (fits_loop js ds _ rfl hj h) fun x hx => ?_
      obtain ⟨x, S1⟩ := x
      obtain ⟨rfl, hx⟩ := hx
      rcases hx with ⟨a, r, rfl⟩ | ⟨a, rfl⟩
      · walk_at "go"
        rw [a, decide_eq_true e]
        rfl
      · walk_at "go"
        rw [a, Bool.and_false]
  | _ => first | exact itp rfl rfl | (walk_at "go"; exact itp rfl rfl) | (exfalso; simp [okD] at h; done)
theorem jg_name : Jg n "_is_name" nmB := ⟨m__is_name, by unfold tb tblF; rfl, fun _ _ h => q_name h⟩
theorem jg_nameN : Jg n "_is_name_or_none" nnB := ⟨m__is_name_or_none, by unfold tb tblF; rfl, fun _ _ h => q_nameN h⟩
theorem jg_bool : Jg n "_is_bool" iB := ⟨m__is_bool, by unfold tb tblF; rfl, fun _ _ h => q_bool h⟩
theorem jg_count : Jg n "_is_count" (fun v => btw v 0 999999999999) := ⟨m__is_count, by unfold tb tblF; rfl, fun _ _ h => q_count h⟩
theorem jg_body : Jg n "_is_body" (fun v => txtB v 40) := ⟨m__is_body, by unfold tb tblF; rfl, fun _ _ h => q_body h⟩
theorem jg_prio : Jg n "_is_priority" (fun v => btw v 0 3) := ⟨m__is_priority, by unfold tb tblF; rfl, fun _ _ h => q_prio h⟩
theorem jg_wait : Jg n "_is_wait" (fun v => btw v 0 50) := ⟨m__is_wait, by unfold tb tblF; rfl, fun _ _ h => q_wait h⟩
theorem jg_num : Jg n "_is_number" (fun v => btw v 1 999999999999) := ⟨m__is_number, by unfold tb tblF; rfl, fun _ _ h => q_num h⟩
theorem jg_tries : Jg n "_is_tries" (fun v => btw v 0 4) := ⟨m__is_tries, by unfold tb tblF; rfl, fun _ _ h => q_tries h⟩
def jsI : List (Str × (D → Bool)) := [("_is_name", nmB), ("_is_name", nmB), ("_is_body", fun v => txtB v 40), ("_is_priority", fun v => btw v 0 3), ("_is_wait", fun v => btw v 0 50), ("_is_wait", fun v => btw v 0 50)]
def jsT : List (Str × (D → Bool)) := [("_is_number", fun v => btw v 1 999999999999), ("_is_number", fun v => btw v 1 999999999999)]
theorem p_item (n : Nat) (h : okD v = true) : m_is_item (n + 2) [v] S = some (.bl (itemB v), S) := by
  apply wp_eq
  rw [m_is_item_succ]
  unfold b_is_item
  have q := fits_ok (S := S) (js := jsI) n (by
    intro j hj
    simp [jsI] at hj
    rcases hj with rfl | rfl | rfl | rfl
    · exact jg_name
    · exact jg_body
    · exact jg_prio
    · exact jg_wait) h
  have e : d_ITEM = .tup (jsI.map fun (j : Str × (D → Bool)) => D.fn j.1) := rfl
  walk_at "go"
  rw [e, q]
  walk_at "go"
  cases v <;> try rfl
  rename_i ds
  match ds with
  | [a, b, c, d, e, f] => simp [itemB, allJ, jsI, Bool.and_assoc]
  | [] | [_] | [_, _] | [_, _, _] | [_, _, _, _] | [_, _, _, _, _] => rfl
  | _ :: _ :: _ :: _ :: _ :: _ :: _ :: _ => simp [itemB, jsI]
theorem p_token (n : Nat) (h : okD v = true) : m_is_token (n + 2) [v] S = some (.bl (tokB v), S) := by
  apply wp_eq
  rw [m_is_token_succ]
  unfold b_is_token
  have q := fits_ok (S := S) (js := jsT) n (by
    intro j hj
    simp [jsT] at hj
    rw [hj]
    exact jg_num) h
  have e : d_TOKEN = .tup (jsT.map fun (j : Str × (D → Bool)) => D.fn j.1) := rfl
  walk_at "go"
  rw [e, q]
  walk_at "go"
  cases v <;> try rfl
  rename_i ds
  match ds with
  | [a, b] => simp [tokB, allJ, jsT]
  | [] | [_] => rfl
  | _ :: _ :: _ :: _ => simp [tokB, jsT]
theorem mapL_bl {te : EvF} {j : Nat} {ρ : En} {p : D → Bool} : ∀ ds : List D, (∀ d ∈ ds, te (ρ.set j (some d)) S = some (.bl (p d), S)) → mapL te mYes j ρ ds S = some (ds.map fun d => .bl (p d), S)
  | [], _ => rfl
  | d :: ds, hh => by
    have h1 := hh d List.mem_cons_self
    have ih := mapL_bl ds fun x hx => hh x (List.mem_cons_of_mem _ hx)
    have hy : mYes (ρ.set j (some d)) S = some (true, S) := rfl
    unfold mapL
    rw [hy]
    show (if true = true then _ else mapL te mYes j ρ ds S) = _
    rw [if_pos rfl, h1]
    show Option.map _ (mapL te mYes j ρ ds S) = _
    rw [ih]
    rfl
theorem blsOf_map {α : Type} {p : α → Bool} : ∀ ds : List α, blsOf (ds.map fun d => .bl (p d)) = some (ds.map p)
  | [] => rfl
  | d :: ds => by
    show (blsOf (ds.map fun d => .bl (p d))).map _ = _
    rw [blsOf_map ds]
    rfl
theorem e_all {ds : List D} {p : D → Bool} : allD S [.lst (ds.map fun d => .bl (p d))] = some (.bl (ds.all p)) := by
  show (blsOf _).map _ = _
  rw [blsOf_map]
  show some (D.bl ((ds.map p).all id)) = _
  rw [List.all_map]
  rfl
theorem okA_mem : ∀ {ds : List D} {d : D}, okA ds = true → d ∈ ds → okD d = true
  | x :: xs, d, h, m => by
    rw [okA, Bool.and_eq_true] at h
    rcases List.mem_cons.mp m with e | e
    · rw [e]; exact h.1
    · exact okA_mem h.2 e
theorem p_made (n : Nat) (h : okD v = true) : m__is_made (n + 3) [v] S = some (.bl (madeB v), S) := by
  apply wp_eq
  rw [m__is_made_succ]
  unfold b__is_made
  walk_at "go"
  simp only [isi_tup h]
  try walk_at "go"
  cases v with
  | tup ds =>
    rw [okD] at h
    try walk_at "go"
    refine itn (by simp) ?_
    try walk_at "go"
    refine it2 (fun q => ?_) fun q => ?_
    · have : decide (ds.length ≤ 4) = false := by simp at q ⊢; omega
      simp [madeB, this]
    · have hl : ds.length ≤ 4 := by simp at q; omega
      have hm : mapL (mCall (m_is_item (n + 2)) (mCons (mVar 1) mNil)) mYes 1 [some (D.tup ds), none] ds S = some (ds.map fun d => .bl (itemB d), S) := mapL_bl ds fun d hd => by
        apply wp_eq
        repeat (first | walk_at "go" | simp only [p_item n (okA_mem h hd)])
      rw [hm]
      walk_at "go"
      refine ⟨by rw [List.length_map]; omega, ?_⟩
      rw [e_all]
      walk_at "go"
      simp [madeB, hl]
  | _ => first | exact itp rfl rfl | (walk_at "go"; exact itp rfl rfl) | (exfalso; simp [okD] at h; done)
theorem p_send (n : Nat) (h : okD v = true) : m_is_sending (n + 4) [v] S = some (.bl (sendB v), S) := by
  apply wp_eq
  rw [m_is_sending_succ]
  unfold b_is_sending
  walk_at "go"
  rw [p_made n h]
  walk_at "go"
  cases v with
  | tup ds =>
    walk_at "go"
    simp only [madeB, sendB]
    refine it2 (fun q => ?_) fun q => ?_
    · rw [q]
      simp
    · rw [Bool.eq_false_iff.mpr q]
      rfl
  | _ => exact itn (by simp [madeB]) rfl
theorem jg_token : Jg (n + 4) "is_token" tokB := ⟨m_is_token (n + 4), by unfold tb tblF; rfl, fun _ _ h => p_token (n + 2) h⟩
theorem jg_made : Jg (n + 4) "_is_made" madeB := ⟨m__is_made (n + 4), by unfold tb tblF; rfl, fun _ _ h => p_made (n + 1) h⟩
theorem jg_send : Jg (n + 4) "is_sending" sendB := ⟨m_is_sending (n + 4), by unfold tb tblF; rfl, fun _ _ h => p_send n h⟩
end
end K04

namespace K04
open PySem PySem.StrLaws L2 TL M Ln
local macro_rules | `(tactic| walk_at "go") => `(tactic| simp (maxSteps := 100000000) only [w_def, w_var, w_c, w_bin, w_and, w_or, w_bK, w_not, w_if, w_nil, w_cons, w_tup, w_lst, w_new, w_tv, w_tand, w_tor, w_tnot, w_chain, w_call, w_kw, w_cb, w_ix, w_nop, w_p, w_sl, w_neg, w_ms, w_m1, w_d0, w_app, w_ext, w_pop, w_tr, w_newc, w_s1, w_repl, w_mu, w_addn, w_dget, w_din, w_dget2, w_dictn, w_asgs, w_attr, w_xo, w_lx, w_bx, w_sxr, w_xdef, w_xseq, w_xraise, w_xtry, w_qus, w_okf, w_xkw, mxIf, mxCons, mxCallM, mxCall, mxBin, mxTv, mxRet, mxDrop, mxAsg, outX,
  w_ret, w_skip, w_drop, w_asg, w_par, w_ifs, w_seq, w_seti, w_for, w_lc, w_sr, w_sl', w_st, w_ss, w_sz, w_yes, wp_some, wp_none, wp_bind, wp_map, wp_ite,
  List.map_cons, List.map_nil, List.length_cons, List.length_nil, Nat.reduceAdd, Nat.reduceSub, List.replicate_succ, List.replicate_zero, List.cons_append, List.nil_append, List.append_nil,
  List.getElem?_cons_zero, List.getElem?_cons_succ, List.set_cons_zero, List.set_cons_succ, gN, setAll, gT,
  e_addI, e_addT, e_addL, e_addS, e_subI, e_mulI, e_modI, e_fdvI, e_powI, e_ltI, e_leI, e_gtI, e_geI, e_ltS, e_gtS, e_isB, e_int, e_abs, e_max, e_min, e_lenT, e_lenL, e_lenQ, e_lenS, e_ixT, e_ixL, e_ixQ, e_ixS, e_slT, e_slL, e_slQ, e_listT, e_listL, e_isi, e_eqI, e_eqS, e_neI, e_neS, e_ninS, iI, iB, iS, iT, at0, at1, at2, at3, at4, at5, at6, at7,
  Bool.false_eq_true, if_false, if_true, decide_eq_true_eq, reduceIte])
theorem e_ninKd {kvs : Kvs} {z : Str} : ninKd kvs (.str z) = some (.bl (!(lkD kvs z).isSome)) := rfl
theorem e_ixKd {kvs : Kvs} {z : Str} : ixKd kvs (.str z) = lkD kvs z := rfl
theorem cut_1 {α : Type} {x : α} {xs : List α} : cut (x :: xs) (some 1) none = xs := by
  unfold cut
  have h1 : HT.sIx (x :: xs).length 0 (some 1) = 1 := by simp [HT.sIx]
  have h2 : HT.sIx (x :: xs).length (x :: xs).length none = (x :: xs).length := by simp [HT.sIx]
  rw [h1, h2]
  simp
section
variable {v : D} {S : Sto} {n : Nat} {w : Str} {ds : List D} {js : List (Str × (D → Bool))}
theorem notT {b : Bool} (h : (!b) = true) : b = false := by cases b <;> simp_all
theorem notF {b : Bool} (h : ¬ (!b) = true) : b = true := by cases b <;> simp_all
def partsB (js : List (Str × (D → Bool))) (ds : List D) : Bool := decide (ds.length = js.length) && allJ js ds
def hwB : D → Bool
  | .tup (.str _ :: _) => true
  | _ => false
theorem p_word (h : okD v = true) : m_has_word [v] S = some (.bl (hwB v), S) := by
  apply wp_eq
  unfold m_has_word
  walk_at "go"
  simp only [isi_tup h]
  try walk_at "go"
  cases v with
  | tup ds =>
    rw [okD] at h
    try walk_at "go"
    match ds, h with
    | [], _ => exact itn (by simp) rfl
    | d :: ds, h =>
      rw [okA, Bool.and_eq_true] at h
      refine itp (by simp <;> omega) ?_
      walk_at "go"
      simp only [isi_str h.1]
      try walk_at "go"
      try (cases d <;> rfl)
  | _ => first | rfl | exact itn (by simp [iT]) rfl | (walk_at "go"; exact itn (by simp [iT]) rfl) | (exfalso; simp [okD] at h; done)
theorem cmd_none (h : okD (.tup (.str w :: ds)) = true) (hl : lkD d_COMMANDS w = none) : m_is_command [.tup (.str w :: ds)] S = some (.bl false, S) := by
  apply wp_eq
  unfold m_is_command
  walk_at "go"
  rw [p_word h]
  walk_at "go"
  refine itn (by simp [hwB]) ?_
  rw [e_ninKd, hl]
  walk_at "go"
  exact itp (by simp) trivial
theorem cmd_go (h : okD (.tup (.str w :: ds)) = true) (hj : ∀ j ∈ js, Jg 7 j.1 j.2) (hl : lkD d_COMMANDS w = some (.tup (js.map fun j => .fn j.1))) (hne : w ≠ "group") : m_is_command [.tup (.str w :: ds)] S = some (.bl (partsB js ds), S) := by
  have hd : okD (.tup ds) = true := by
    rw [okD, okA, Bool.and_eq_true] at h
    rw [okD]
    exact h.2
  apply wp_eq
  unfold m_is_command
  walk_at "go"
  rw [p_word h]
  walk_at "go"
  refine itn (by simp [hwB]) ?_
  rw [e_ninKd, hl]
  walk_at "go"
  refine itn (by simp) ?_
  rw [cut_1]
  rw [e_ixKd, hl]
  walk_at "go"
  rw [fits_ok 7 hj hd]
  walk_at "go"
  refine it2 (fun q => ?_) fun q => itp (by simp [hne]) ?_
  · have : (decide (ds.length = js.length) && allJ js ds) = false := notT q
    rw [partsB, this]
  · have : (decide (ds.length = js.length) && allJ js ds) = true := notF q
    rw [partsB, this]
def neqB : D → D → Bool
  | .str x, .str y => decide (x ≠ y)
  | _, _ => true
theorem shaped_str {x : Str} (h : okS x = true) : SeqAt.shaped (.str x) = true := by
  unfold SeqAt.shaped
  rw [PyData.canLay0]
  unfold okS at h
  simp [PyData.strOk, PyData.depth]
  simpa using h
theorem ne_sn {x : Str} {c : D} (hx : nmB (.str x) = true) (hc : nnB c = true) : neD (.str x) c = some (.bl (neqB (.str x) c)) := by
  cases c with
  | str y => 
    show some (D.bl (!decide (x = y))) = some (D.bl (decide (x ≠ y)))
    by_cases e : x = y <;> simp [e]
  | non =>
    have h1 : SeqAt.shaped (.str x) = true := shaped_str (okS_of (low_sgn (by
      unfold nmB nameB at hx
      simp only [Bool.and_eq_true] at hx
      exact hx.2)))
    have h2 : SeqAt.shaped .none = true := by decide +kernel
    have e : eqD (.str x) .non = eqD0 (.str x) .non := rfl
    unfold neD
    rw [e]
    unfold eqD0
    rw [toP, toP]
    show (match (if SeqAt.shaped (.str x) = true ∧ SeqAt.shaped .none = true then some (D.bl (PyData.eqv (.str x) .none)) else none) with | some (.bl x) => some (D.bl (!x)) | _ => none) = _
    rw [if_pos ⟨h1, h2⟩, PyData.eqv]
    rfl
  | _ => exact absurd hc (by simp [nnB, isNn, nmB])
def jsG : List (Str × (D → Bool)) := [("_is_name", nmB), ("_is_name", nmB), ("_is_name_or_none", nnB)]
def grpB (ds : List D) : Bool := partsB jsG ds && (match ds with | [_, b, c] => neqB b c | _ => false)
theorem cmd_group (h : okD (.tup (.str "group" :: ds)) = true) (hl : lkD d_COMMANDS "group" = some (.tup (jsG.map fun j => .fn j.1))) : m_is_command [.tup (.str "group" :: ds)] S = some (.bl (grpB ds), S) := by
  have hd : okD (.tup ds) = true := by
    rw [okD, okA, Bool.and_eq_true] at h
    rw [okD]
    exact h.2
  apply wp_eq
  unfold m_is_command
  walk_at "go"
  rw [p_word h]
  walk_at "go"
  refine itn (by simp [hwB]) ?_
  rw [e_ninKd, hl]
  walk_at "go"
  refine itn (by simp) ?_
  rw [cut_1]
  rw [e_ixKd, hl]
  walk_at "go"
  rw [fits_ok 7 (js := jsG) (by
    intro j hj
    simp [jsG] at hj
    rcases hj with rfl | rfl
    · exact jg_name
    · exact jg_nameN) hd]
  walk_at "go"
  refine it2 (fun q => ?_) fun q => itn (by simp) ?_
  · have : (decide (ds.length = jsG.length) && allJ jsG ds) = false := notT q
    unfold grpB partsB
    rw [this]
    rfl
  · have : partsB jsG ds = true := notF q
    match ds, this with
    | [a, b, c], this =>
      have t2 := this
      simp [partsB, jsG, allJ] at t2
      walk_at "go"
      match b, t2, this with
      | .str y, t2, this =>
        rw [ne_sn t2.2.1 t2.2.2]
        walk_at "go"
        show (D.bl (neqB (D.str y) c), S) = (D.bl (partsB jsG [a, .str y, c] && neqB (.str y) c), S)
        rw [this]
        rfl
    | [], this => simp [partsB, jsG] at this
    | [_], this => simp [partsB, jsG] at this
    | [_, _], this => simp [partsB, jsG] at this
    | _ :: _ :: _ :: _ :: _, this => simp [partsB, jsG] at this
abbrev num (v : D) : Bool := btw v 1 999999999999
def jsC : List (Str × List (Str × (D → Bool))) := [("topic", [("_is_name", nmB), ("_is_bool", iB)]), ("send", [("_is_name", nmB), ("_is_number", num), ("is_sending", sendB)]),
  ("done", [("_is_name", nmB), ("_is_number", num), ("is_token", tokB), ("_is_made", madeB)]), ("failed", [("_is_name", nmB), ("_is_number", num), ("_is_tries", fun v => btw v 0 4)]), ("now", [("_is_count", fun v => btw v 0 999999999999)])]
def wordB (w : Str) (ds : List D) : Bool := if w = "topic" then partsB [("_is_name", nmB), ("_is_bool", iB)] ds
    else if w = "group" then grpB ds
    else if w = "send" then partsB [("_is_name", nmB), ("_is_number", num), ("is_sending", sendB)] ds
    else if w = "done" then partsB [("_is_name", nmB), ("_is_number", num), ("is_token", tokB), ("_is_made", madeB)] ds
    else if w = "failed" then partsB [("_is_name", nmB), ("_is_number", num), ("_is_tries", fun v => btw v 0 4)] ds
    else if w = "now" then partsB [("_is_count", fun v => btw v 0 999999999999)] ds
    else false
def cmdB : D → Bool
  | .tup (.str w :: ds) => wordB w ds
  | _ => false
theorem p_command (h : okD v = true) : m_is_command [v] S = some (.bl (cmdB v), S) := by
  have bad : hwB v = false → cmdB v = false → m_is_command [v] S = some (.bl (cmdB v), S) := by
    intro e e2
    apply wp_eq
    unfold m_is_command
    walk_at "go"
    rw [p_word h, e, e2]
    walk_at "go"
    exact itp (by simp) trivial
  match v, h, bad with
  | .tup (.str w :: ds), h, _ =>
    show _ = some (D.bl (wordB w ds), S)
    unfold wordB
    by_cases h1 : w = "topic"
    · subst h1
      rw [if_pos rfl]
      refine cmd_go h ?_ rfl (by decide +kernel)
      intro j hj
      simp at hj
      rcases hj with rfl | rfl
      · exact jg_name
      · exact jg_bool
    rw [if_neg h1]
    by_cases h2 : w = "group"
    · subst h2
      rw [if_pos rfl]
      exact cmd_group h rfl
    rw [if_neg h2]
    by_cases h3 : w = "send"
    · subst h3
      rw [if_pos rfl]
      refine cmd_go h ?_ rfl (by decide +kernel)
      intro j hj
      simp at hj
      rcases hj with rfl | rfl | rfl
      · exact jg_name
      · exact jg_num
      · exact jg_send (n := 3)
    rw [if_neg h3]
    by_cases h4 : w = "done"
    · subst h4
      rw [if_pos rfl]
      refine cmd_go h ?_ rfl (by decide +kernel)
      intro j hj
      simp at hj
      rcases hj with rfl | rfl | rfl | rfl
      · exact jg_name
      · exact jg_num
      · exact jg_token (n := 3)
      · exact jg_made (n := 3)
    rw [if_neg h4]
    by_cases h5 : w = "failed"
    · subst h5
      rw [if_pos rfl]
      refine cmd_go h ?_ rfl (by decide +kernel)
      intro j hj
      simp at hj
      rcases hj with rfl | rfl | rfl
      · exact jg_name
      · exact jg_num
      · exact jg_tries
    rw [if_neg h5]
    by_cases h6 : w = "now"
    · subst h6
      rw [if_pos rfl]
      refine cmd_go h ?_ rfl (by decide +kernel)
      intro j hj
      simp at hj
      rcases hj with rfl
      exact jg_count
    rw [if_neg h6]
    refine cmd_none h ?_
    unfold d_COMMANDS
    simp only [lkD, if_neg (Ne.symm h1), if_neg (Ne.symm h2), if_neg (Ne.symm h3), if_neg (Ne.symm h4), if_neg (Ne.symm h5), if_neg (Ne.symm h6)]
  | .tup [], _, bad => exact bad rfl rfl
  | .tup (.non :: _), _, bad | .tup (.bl _ :: _), _, bad | .tup (.int _ :: _), _, bad | .tup (.lst _ :: _), _, bad | .tup (.tup _ :: _), _, bad | .tup (.dct _ :: _), _, bad | .tup (.ref _ :: _), _, bad | .tup (.fn _ :: _), _, bad | .tup (.ty _ :: _), _, bad | .tup (.seq _ :: _), _, bad => exact bad rfl rfl
  | .non, _, bad | .bl _, _, bad | .int _, _, bad | .str _, _, bad | .lst _, _, bad | .dct _, _, bad | .ref _, _, bad | .fn _, _, bad | .ty _, _, bad | .seq _, _, bad => exact bad rfl rfl
end
end K04

namespace K04
open PySem PySem.StrLaws L2 TL M Ln
local macro_rules | `(tactic| walk_at "go") => `(tactic| simp (maxSteps := 100000000) only [w_def, w_var, w_c, w_bin, w_and, w_or, w_bK, w_not, w_if, w_nil, w_cons, w_tup, w_lst, w_new, w_tv, w_tand, w_tor, w_tnot, w_chain, w_call, w_kw, w_cb, w_ix, w_nop, w_p, w_sl, w_neg, w_ms, w_m1, w_d0, w_app, w_ext, w_pop, w_tr, w_newc, w_s1, w_repl, w_mu, w_addn, w_dget, w_din, w_dget2, w_dictn, w_asgs, w_attr, w_xo, w_lx, w_bx, w_sxr, w_xdef, w_xseq, w_xraise, w_xtry, w_qus, w_okf, w_xkw, mxIf, mxCons, mxCallM, mxCall, mxBin, mxTv, mxRet, mxDrop, mxAsg, outX,
  w_ret, w_skip, w_drop, w_asg, w_par, w_ifs, w_seq, w_seti, w_for, w_lc, w_sr, w_sl', w_st, w_ss, w_sz, w_yes, wp_some, wp_none, wp_bind, wp_map, wp_ite,
  List.map_cons, List.map_nil, List.length_cons, List.length_nil, Nat.reduceAdd, Nat.reduceSub, List.replicate_succ, List.replicate_zero, List.cons_append, List.nil_append, List.append_nil,
  List.getElem?_cons_zero, List.getElem?_cons_succ, List.set_cons_zero, List.set_cons_succ, gN, setAll, gT,
  e_addI, e_addT, e_addL, e_addS, e_subI, e_mulI, e_modI, e_fdvI, e_powI, e_ltI, e_leI, e_gtI, e_geI, e_ltS, e_gtS, e_isB, e_int, e_abs, e_max, e_min, e_lenT, e_lenL, e_lenQ, e_lenS, e_ixT, e_ixL, e_ixQ, e_ixS, e_slT, e_slL, e_slQ, e_listT, e_listL, e_isi, e_eqI, e_eqS, e_neI, e_neS, e_ninS, iI, iB, iS, iT, at0, at1, at2, at3, at4, at5, at6, at7,
  Bool.false_eq_true, if_false, if_true, decide_eq_true_eq, reduceIte])
theorem e_eqNil {xs : List D} : eqNil (.lst xs) (.lst []) = some (.bl xs.isEmpty) := rfl
theorem map_empty {α β : Type} {f : α → β} {xs : List α} : (xs.map f).isEmpty = xs.isEmpty := by cases xs <;> rfl
section
variable {v : D} {S : Sto} {lo hi : Int}
theorem l_within (h : okD v = true) : m__law_within [v, .int lo, .int hi] S = some (.bl (btw v lo hi), S) := by
  apply wp_eq
  unfold m__law_within
  walk_at "go"
  simp only [isi_int h]
  walk_at "go"
  simp only [isi_bool h]
  cases v <;> simp only [btw] <;> (repeat (first | walk_at "go" | rfl))
  · exact itn (by simp) trivial
  · refine itp rfl (it2 (fun q => ?_) fun q => ?_)
    · simp [q]
    · simp [q]
theorem l_name (h : okD v = true) : m__law_is_name [v] S = some (.bl (nmB v), S) := by
  apply wp_eq
  unfold m__law_is_name
  walk_at "go"
  simp only [isi_str h]
  cases v with
  | str x =>
    rw [okD, Bool.and_eq_true, decide_eq_true_eq] at h
    try walk_at "go"
    refine itn (by simp) (itp (by omega) ?_)
    simp only [nmB, nameB]
    refine it2 (fun q => ?_) fun q => ?_
    · have : decide (1 ≤ x.length) = false := by simp; omega
      rw [this]
      rfl
    · refine itp (by omega) (it2 (fun q2 => ?_) fun q2 => ?_)
      · have : decide (x.length ≤ 8) = false := by simp; omega
        rw [this, Bool.and_false]
        rfl
      · refine wp_of (mapL_filter (p := fun c => !low c) x.cps.toList fun c hc => ⟨?_, ?_⟩) ?_
        · apply wp_eq
          unfold sg
          walk_at "go"
          refine itp rfl ?_
          rw [in_letters]
        · apply wp_eq
          unfold sg
          walk_at "go"
        · have hall : ∀ c ∈ x.cps.toList.filter (fun c => !low c), c < 1114112 := fun c hc => by
            have := List.all_eq_true.mp h.1 c (List.mem_filter.mp hc).1
            simpa using this
          have hz : ((x.cps.toList.filter fun c => !low c).map sg).length ≤ 100000 := by
            rw [List.length_map]
            refine Nat.le_trans (List.length_filter_le _ _) ?_
            have : x.cps.toList.length = x.length := by simp [Str.length]
            omega
          refine ⟨hz, by decide, ?_⟩
          rw [e_eqNil, map_empty, filter_empty]
          walk_at "go"
          have e1 : decide (1 ≤ x.length) = true := by simp; omega
          have e2 : decide (x.length ≤ 8) = true := by simp; omega
          simp [e1, e2]
  | _ => first | exact itp rfl rfl | (walk_at "go"; exact itp rfl rfl) | (exfalso; simp [okD] at h; done)
theorem l_body (h : okD v = true) : m__law_is_body [v] S = some (.bl (txtB v 40), S) := by
  apply wp_eq
  unfold m__law_is_body
  walk_at "go"
  simp only [isi_str h]
  cases v with
  | str x =>
    rw [okD, Bool.and_eq_true, decide_eq_true_eq] at h
    try walk_at "go"
    refine itn (by simp) (itp (by omega) ?_)
    simp only [txtB]
    refine it2 (fun q => ?_) fun q => ?_
    · have : decide ((x.length : Int) ≤ 40) = false := by simp; omega
      rw [this]
      rfl
    · refine wp_of (mapL_filter (p := fun c => !sgn c) x.cps.toList fun c hc => ⟨?_, ?_⟩) ?_
      · apply wp_eq
        unfold sg
        walk_at "go"
        simp only [lt_space', gt_tilde', sgn]
        refine it2 (fun q => ?_) fun q => ?_
        · have : decide (32 ≤ c) = false := by simp; omega
          rw [this]
          rfl
        · have : decide (32 ≤ c) = true := by simp; omega
          rw [this]
          by_cases z : 126 < c
          · have : decide (c ≤ 126) = false := by simp; omega
            rw [this, decide_eq_true z]
            rfl
          · have : decide (c ≤ 126) = true := by simp; omega
            rw [this, decide_eq_false z]
            rfl
      · apply wp_eq
        unfold sg
        walk_at "go"
      · have hall : ∀ c ∈ x.cps.toList.filter (fun c => !sgn c), c < 1114112 := fun c hc => by
          have := List.all_eq_true.mp h.1 c (List.mem_filter.mp hc).1
          simpa using this
        have hz : ((x.cps.toList.filter fun c => !sgn c).map sg).length ≤ 100000 := by
          rw [List.length_map]
          refine Nat.le_trans (List.length_filter_le _ _) ?_
          have : x.cps.toList.length = x.length := by simp [Str.length]
          omega
        refine ⟨hz, by decide, ?_⟩
        rw [e_eqNil, map_empty, filter_empty]
        walk_at "go"
        have e2 : decide ((x.length : Int) ≤ 40) = true := by simp; omega
        simp [e2]
  | _ => first | exact itp rfl rfl | (walk_at "go"; exact itp rfl rfl) | (exfalso; simp [okD] at h; done)
theorem l_token (h : okD v = true) : m__law_is_token [v] S = some (.bl (tokB v), S) := by
  apply wp_eq
  unfold m__law_is_token
  walk_at "go"
  simp only [isi_tup h]
  cases v with
  | tup ds =>
    rw [okD] at h
    try walk_at "go"
    refine itn (by simp) ?_
    match ds, h with
    | [a, b], h =>
      simp only [okA, Bool.and_eq_true] at h
      refine itn (by simp) ?_
      walk_at "go"
      refine itp (by decide) ?_
      have e : (10 : Int) ^ (12 : Int).toNat - 1 = 999999999999 := by decide
      rw [e]
      simp only [l_within h.1]
      walk_at "go"
      simp only [tokB]
      refine it2 (fun q => ?_) fun q => ?_
      · refine itp (by decide) ?_
        rw [e]
        simp only [l_within h.2.1]
        walk_at "go"
        rw [q]
        rfl
      · have q' : btw a 1 999999999999 = false := by simpa using q
        rw [q']
        rfl
    | [], _ => exact itp (by simp) rfl
    | [_], _ => exact itp (by simp) rfl
    | a :: b :: c :: ds, _ => 
      refine itp ?_ (by simp [tokB])
      simp
      omega
  | _ => first | exact itp rfl rfl | (walk_at "go"; exact itp rfl rfl) | (exfalso; simp [okD] at h; done)
theorem l_item (h : okD v = true) : m__law_is_item [v] S = some (.bl (itemB v), S) := by
  apply wp_eq
  unfold m__law_is_item
  walk_at "go"
  simp only [isi_tup h]
  cases v with
  | tup ds =>
    rw [okD] at h
    try walk_at "go"
    refine itn (by simp) ?_
    match ds, h with
    | [a, b, c, d, e, f], h =>
      simp only [okA, Bool.and_eq_true] at h
      obtain ⟨ha, hb, hc, hd, he, hf, _⟩ := h
      refine itn (by simp) ?_
      repeat (first | walk_at "go" | simp only [l_name ha, l_name hb, l_body hc, l_within hd, l_within he, l_within hf])
      simp only [itemB]
      cases nmB a <;> cases nmB b <;> cases txtB c 40 <;> cases btw d 0 3 <;> cases btw e 0 50 <;> simp
    | [], _ => exact itp (by simp) rfl
    | [_], _ => exact itp (by simp) rfl
    | [_, _], _ => exact itp (by simp) rfl
    | [_, _, _], _ => exact itp (by simp) rfl
    | [_, _, _, _], _ => exact itp (by simp) rfl
    | [_, _, _, _, _], _ => exact itp (by simp) rfl
    | a :: b :: c :: _ :: _ :: _ :: _ :: ds, _ => 
      refine itp ?_ (by simp [itemB])
      simp
      omega
  | _ => first | exact itp rfl rfl | (walk_at "go"; exact itp rfl rfl) | (exfalso; simp [okD] at h; done)
theorem mapL_if {te : EvF} {tt : EtF} {j : Nat} {ρ : En} {p : D → Bool} : ∀ ds : List D, (∀ d ∈ ds, tt (ρ.set j (some d)) S = some (p d, S) ∧ te (ρ.set j (some d)) S = some (d, S)) →
    mapL te tt j ρ ds S = some (ds.filter p, S)
  | [], _ => rfl
  | c :: cs, hh => by
    obtain ⟨h1, h2⟩ := hh c List.mem_cons_self
    have ih := mapL_if cs fun x hx => hh x (List.mem_cons_of_mem _ hx)
    unfold mapL
    rw [h1]
    show (if p c = true then _ else _) = _
    cases e : p c with
    | true =>
      rw [if_pos rfl, h2]
      show Option.map _ (mapL te tt j ρ cs S) = _
      rw [ih, List.filter_cons, e]
      rfl
    | false =>
      rw [if_neg (by simp), List.filter_cons, e]
      exact ih
theorem filt_empty {p : D → Bool} {cs : List D} : (cs.filter fun d => !p d).isEmpty = cs.all p := by
  induction cs with
  | nil => rfl
  | cons c cs ih =>
    rw [List.filter_cons, List.all_cons, ← ih]
    cases p c <;> simp
def areB (least : Int) (v : D) : Bool := match v with
  | .tup ds => decide (least ≤ ds.length) && decide (ds.length ≤ 4) && ds.all itemB
  | _ => false
theorem l_are {least : Int} (h : okD v = true) : m__law_are_items [v, .int least] S = some (.bl (areB least v), S) := by
  apply wp_eq
  unfold m__law_are_items
  walk_at "go"
  simp only [isi_tup h]
  try walk_at "go"
  cases v with
  | tup ds =>
    rw [okD] at h
    try walk_at "go"
    refine itn (by simp) ?_
    try walk_at "go"
    refine it2 (fun q => ?_) fun q => it2 (fun q2 => ?_) fun q2 => ?_
    · have : decide (least ≤ ds.length) = false := by simp; omega
      simp only [areB, this]
      rfl
    · have : decide (ds.length ≤ 4) = false := by simp; omega
      simp only [areB, this, Bool.and_false]
      rfl
    · refine wp_of (mapL_if (p := fun d => !itemB d) ds fun d hd => ⟨?_, ?_⟩) ?_
      · apply wp_eq
        repeat (first | walk_at "go" | simp only [l_item (okA_mem h hd)])
      · apply wp_eq
        walk_at "go"
      · refine ⟨Nat.le_trans (List.length_filter_le _ _) (by omega), by decide, ?_⟩
        rw [e_eqNil, filt_empty]
        walk_at "go"
        have a1 : decide (least ≤ ds.length) = true := by simp; omega
        have a2 : decide (ds.length ≤ 4) = true := by simp; omega
        simp only [areB, a1, a2, Bool.true_and]
  | _ => first | exact itp rfl rfl | (walk_at "go"; exact itp rfl rfl) | (exfalso; simp [okD] at h; done)
theorem pow12 : (10 : Int) ^ (12 : Int).toNat - 1 = 999999999999 := by decide
theorem strB_ne {a : D} {x y : Str} (h : strB a x = true) (n : x ≠ y) : strB a y = false := by
  cases a with
  | str z =>
    have : z = x := of_decide_eq_true h
    subst this
    exact decide_eq_false n
  | _ => exact absurd h (by simp [strB])
theorem len2 {α : Type} {l : List α} (h : l.length = 2) : ∃ d e, l = [d, e] := by
  match l, h with
  | [d, e], _ => exact ⟨d, e, rfl⟩
theorem strB_eq {a : D} {x : Str} (h : strB a x = true) : a = .str x := by
  cases a with
  | str z => rw [of_decide_eq_true h]
  | _ => exact absurd h (by simp [strB])
theorem are_send {d : D} : areB 1 d = sendB d := by
  cases d with
  | tup ds =>
    have : decide ((1 : Int) ≤ ds.length) = decide (0 < ds.length) := by
      rw [decide_eq_decide]
      omega
    simp only [areB, sendB, this]
    cases decide (0 < ds.length) <;> simp
  | _ => rfl
theorem are_made {d : D} : areB 0 d = madeB d := by
  cases d with
  | tup ds =>
    have : decide ((0 : Int) ≤ ds.length) = true := by simp
    simp only [areB, madeB, this, Bool.true_and]
  | _ => rfl
theorem w_now {L : List D} : wordB "now" L = partsB [("_is_count", fun v => btw v 0 999999999999)] L := rfl
theorem w_topic {L : List D} : wordB "topic" L = partsB [("_is_name", nmB), ("_is_bool", iB)] L := rfl
theorem w_group {L : List D} : wordB "group" L = grpB L := rfl
theorem w_send {L : List D} : wordB "send" L = partsB [("_is_name", nmB), ("_is_number", num), ("is_sending", sendB)] L := rfl
theorem w_done {L : List D} : wordB "done" L = partsB [("_is_name", nmB), ("_is_number", num), ("is_token", tokB), ("_is_made", madeB)] L := rfl
theorem w_failed {L : List D} : wordB "failed" L = partsB [("_is_name", nmB), ("_is_number", num), ("_is_tries", fun v => btw v 0 4)] L := rfl
theorem cmd_str {a : D} {L : List D} (h : ∀ w, a = .str w → wordB w L = false) : cmdB (.tup (a :: L)) = false := by
  cases a with
  | str w => exact h w rfl
  | _ => rfl
theorem cmd_no1 {a b : D} (hn : strB a "now" = false) (hb : nmB b = false) : cmdB (.tup (a :: b :: ds)) = false := cmd_str fun w e => by
  subst e
  have n : w ≠ "now" := of_decide_eq_false hn
  unfold wordB
  rw [if_neg n]
  unfold grpB partsB
  repeat (first | rfl | (simp [allJ, jsG, hb]; done) | split)
theorem cmd_no2 {a b : D} (hn : strB a "now" = false) : cmdB (.tup [a, b]) = false := cmd_str fun w e => by
  subst e
  have n : w ≠ "now" := of_decide_eq_false hn
  unfold wordB
  rw [if_neg n]
  unfold grpB partsB
  repeat (first | rfl | (simp [jsG]; done) | split)
theorem cmd_no3 {a b c : D} (hn : strB a "now" = false) (ht : strB a "topic" = false) (hg : strB a "group" = false) (hc : num c = false) : cmdB (.tup (a :: b :: c :: ds)) = false := cmd_str fun w e => by
  subst e
  have n : w ≠ "now" := of_decide_eq_false hn
  have n2 : w ≠ "topic" := of_decide_eq_false ht
  have n3 : w ≠ "group" := of_decide_eq_false hg
  unfold wordB
  rw [if_neg n, if_neg n2, if_neg n3]
  unfold partsB
  repeat (first | rfl | (simp [allJ, hc]; done) | split)
theorem cmd_no4 {a : D} {L : List D} (hn : strB a "now" = false) (ht : strB a "topic" = false) (hg : strB a "group" = false) (hs : strB a "send" = false) (hd : strB a "done" = false) (hf : strB a "failed" = false) : cmdB (.tup (a :: L)) = false := cmd_str fun w e => by
  subst e
  have n : w ≠ "now" := of_decide_eq_false hn
  have n2 : w ≠ "topic" := of_decide_eq_false ht
  have n3 : w ≠ "group" := of_decide_eq_false hg
  have n4 : w ≠ "send" := of_decide_eq_false hs
  have n5 : w ≠ "done" := of_decide_eq_false hd
  have n6 : w ≠ "failed" := of_decide_eq_false hf
  unfold wordB
  rw [if_neg n2, if_neg n3, if_neg n4, if_neg n5, if_neg n6, if_neg n]
theorem l_command (h : okD v = true) : m__law_is_command [v] S = some (.bl (cmdB v), S) := by
  apply wp_eq
  unfold m__law_is_command
  walk_at "go"
  simp only [isi_tup h]
  try walk_at "go"
  cases v with
  | tup L =>
    rw [okD] at h
    try walk_at "go"
    refine itn (by simp) ?_
    match L, h with
    | [], _ => exact itp (by simp) rfl
    | [d], _ =>
      refine itp (by simp) ?_
      have : cmdB (.tup [d]) = false := by
        cases d <;> try rfl
        simp only [cmdB, wordB, grpB, partsB]
        repeat (first | rfl | split)
      rw [this]
    | a :: b :: ds, h =>
      refine itn (by simp; omega) ?_
      walk_at "go"
      refine itp (by decide) ?_
      rw [pow12]
      simp only [okA, Bool.and_eq_true] at h
      obtain ⟨ha, hb, hds⟩ := h
      rw [e_eqE ha]
      walk_at "go"
      refine it2 (fun q => ?_) fun q => ?_
      · have ea := strB_eq q
        subst ea
        show if _ then _ else _
        refine it2 (fun q2 => ?_) fun q2 => ?_
        · have : ds = [] := List.length_eq_zero_iff.mp (by omega)
          subst this
          rw [l_within hb]
          walk_at "go"
          show _ = (D.bl (wordB "now" [b]), S)
          rw [w_now]
          simp [partsB, allJ]
        · show _ = (D.bl (wordB "now" (b :: ds)), S)
          rw [w_now]
          have : ds.length ≠ 0 := by omega
          simp [partsB, this]
      have q := Bool.eq_false_iff.mpr q
      rw [l_name hb]
      walk_at "go"
      refine it2 (fun q1 => by rw [cmd_no1 q (notT q1)]) fun q1 => ?_
      have q1 := notF q1
      refine it2 (fun q2 => ?_) fun q2 => ?_
      · have : ds = [] := List.length_eq_zero_iff.mp (by omega)
        subst this
        rw [cmd_no2 q]
      match ds, hds, q2 with
      | [], _, q2 => exact absurd (by simp) q2
      | c :: ds, hds, _ =>
      simp only [okA, Bool.and_eq_true] at hds
      obtain ⟨hc, hds⟩ := hds
      rw [e_eqE ha]
      walk_at "go"
      refine it2 (fun q3 => ?_) fun q3 => ?_
      · have ea := strB_eq q3
        subst ea
        show if _ then _ else _
        refine it2 (fun q2 => ?_) fun q2 => ?_
        · have : ds = [] := List.length_eq_zero_iff.mp (by simp at q2; omega)
          subst this
          rw [isi_bool hc]
          walk_at "go"
          show _ = (D.bl (wordB "topic" [b, c]), S)
          rw [w_topic]
          simp [partsB, allJ, q1]
          try (cases c <;> rfl)
        · show _ = (D.bl (wordB "topic" (b :: c :: ds)), S)
          rw [w_topic]
          have : ds.length ≠ 0 := by simp at q2; omega
          simp [partsB, this]
      have q3 := Bool.eq_false_iff.mpr q3
      rw [e_eqE ha]
      walk_at "go"
      refine it2 (fun q4 => ?_) fun q4 => ?_
      · have ea := strB_eq q4
        subst ea
        show if _ then _ else _
        refine it2 (fun q2 => ?_) fun q2 => ?_
        · show _ = (D.bl (wordB "group" (b :: c :: ds)), S)
          rw [w_group]
          have : ds.length ≠ 1 := by simp at q2; omega
          have e : partsB jsG (b :: c :: ds) = false := by simp [partsB, jsG, this]
          unfold grpB
          rw [e]
          rfl
        · obtain ⟨d, rfl⟩ : ∃ d, ds = [d] := List.length_eq_one_iff.mp (by simp at q2; omega)
          simp only [okA, Bool.and_eq_true] at hds
          rw [l_name hc]
          walk_at "go"
          refine it2 (fun q5 => ?_) fun q5 => ?_
          · show _ = (D.bl (wordB "group" [b, c, d]), S)
            rw [w_group]
            have e : partsB jsG [b, c, d] = false := by simp [partsB, jsG, allJ, notT q5]
            unfold grpB
            rw [e]
            rfl
          · have q5 := notF q5
            have fin : ∀ x : Bool, (nnB d && neqB c d) = x → (D.bl x, S) = (D.bl (cmdB (D.tup [.str "group", b, c, d])), S) := by
              intro x hx
              show _ = (D.bl (wordB "group" [b, c, d]), S)
              rw [w_group, ← hx]
              have e : partsB jsG [b, c, d] = nnB d := by simp [partsB, jsG, allJ, q1, q5]
              show _ = (D.bl (partsB jsG [b, c, d] && neqB c d), S)
              rw [e]
            rw [e_isN hds.1]
            walk_at "go"
            refine it2 (fun q6 => ?_) fun q6 => ?_
            · refine fin _ ?_
              cases d with
              | non => cases c <;> rfl
              | _ => exact absurd q6 (by simp [isNn])
            · have q6 := Bool.eq_false_iff.mpr q6
              rw [l_name hds.1]
              walk_at "go"
              refine it2 (fun q7 => ?_) fun q7 => ?_
              · cases c with
                | str y =>
                  cases d with
                  | str z =>
                    have e : neD (.str z) (.str y) = some (.bl (!decide (z = y))) := rfl
                    rw [e]
                    walk_at "go"
                    refine fin _ ?_
                    simp only [nnB, q7, Bool.or_true, Bool.true_and, neqB]
                    by_cases e : y = z
                    · simp [e]
                    · simp [e, Ne.symm e]
                  | _ => exact absurd q7 (by simp [nmB])
                | _ => exact absurd q5 (by simp [nmB])
              · refine fin _ ?_
                simp [nnB, q6, Bool.eq_false_iff.mpr q7]
      have q4 := Bool.eq_false_iff.mpr q4
      rw [l_within hc]
      walk_at "go"
      refine it2 (fun q5 => by rw [cmd_no3 q q3 q4 (notT q5)]) fun q5 => ?_
      have q5 := notF q5
      rw [e_eqE ha]
      walk_at "go"
      refine it2 (fun q6 => ?_) fun q6 => ?_
      · have ea := strB_eq q6
        subst ea
        show if _ then _ else _
        refine it2 (fun q2 => ?_) fun q2 => ?_
        · obtain ⟨d, rfl⟩ : ∃ d, ds = [d] := List.length_eq_one_iff.mp (by simp at q2; omega)
          simp only [okA, Bool.and_eq_true] at hds
          walk_at "go"
          rw [l_are hds.1]
          walk_at "go"
          show _ = (D.bl (wordB "send" [b, c, d]), S)
          rw [w_send, are_send]
          simp [partsB, allJ, q1, q5]
        · show _ = (D.bl (wordB "send" (b :: c :: ds)), S)
          rw [w_send]
          have : ds.length ≠ 1 := by simp at q2; omega
          simp [partsB, this]
      have q6 := Bool.eq_false_iff.mpr q6
      rw [e_eqE ha]
      walk_at "go"
      refine it2 (fun q7 => ?_) fun q7 => ?_
      · have ea := strB_eq q7
        subst ea
        show if _ then _ else _
        refine it2 (fun q2 => ?_) fun q2 => ?_
        · obtain ⟨d, e, rfl⟩ : ∃ d e, ds = [d, e] := len2 (by simp at q2; omega)
          simp only [okA, Bool.and_eq_true] at hds
          walk_at "go"
          rw [l_token hds.1]
          walk_at "go"
          refine it2 (fun q8 => ?_) fun q8 => ?_
          · rw [l_are hds.2.1]
            walk_at "go"
            show _ = (D.bl (wordB "done" [b, c, d, e]), S)
            rw [w_done, are_made]
            simp [partsB, allJ, q1, q5, q8]
          · show _ = (D.bl (wordB "done" [b, c, d, e]), S)
            rw [w_done]
            simp [partsB, allJ, Bool.eq_false_iff.mpr q8]
        · show _ = (D.bl (wordB "done" (b :: c :: ds)), S)
          rw [w_done]
          have : ds.length ≠ 2 := by simp at q2; omega
          simp [partsB, this]
      have q7 := Bool.eq_false_iff.mpr q7
      rw [e_eqE ha]
      walk_at "go"
      refine it2 (fun q8 => ?_) fun q8 => ?_
      · have ea := strB_eq q8
        subst ea
        show if _ then _ else _
        refine it2 (fun q2 => ?_) fun q2 => ?_
        · obtain ⟨d, rfl⟩ : ∃ d, ds = [d] := List.length_eq_one_iff.mp (by simp at q2; omega)
          simp only [okA, Bool.and_eq_true] at hds
          walk_at "go"
          rw [l_within hds.1]
          walk_at "go"
          show _ = (D.bl (wordB "failed" [b, c, d]), S)
          rw [w_failed]
          simp [partsB, allJ, q1, q5]
        · show _ = (D.bl (wordB "failed" (b :: c :: ds)), S)
          rw [w_failed]
          have : ds.length ≠ 1 := by simp at q2; omega
          simp [partsB, this]
      have q8 := Bool.eq_false_iff.mpr q8
      rw [cmd_no4 q q3 q4 q6 q7 q8]
  | _ => first | exact itp rfl rfl | (walk_at "go"; exact itp rfl rfl) | (exfalso; simp [okD] at h; done)
end
end K04

namespace K04
open PySem PySem.StrLaws L2 TL M Ln
local macro_rules | `(tactic| walk_at "go") => `(tactic| simp (maxSteps := 100000000) only [w_def, w_var, w_c, w_bin, w_and, w_or, w_bK, w_not, w_if, w_nil, w_cons, w_tup, w_lst, w_new, w_tv, w_tand, w_tor, w_tnot, w_chain, w_call, w_kw, w_cb, w_ix, w_nop, w_p, w_sl, w_neg, w_ms, w_m1, w_d0, w_app, w_ext, w_pop, w_tr, w_newc, w_s1, w_repl, w_mu, w_addn, w_dget, w_din, w_dget2, w_dictn, w_asgs, w_attr, w_xo, w_lx, w_bx, w_sxr, w_xdef, w_xseq, w_xraise, w_xtry, w_qus, w_okf, w_xkw, mxIf, mxCons, mxCallM, mxCall, mxBin, mxTv, mxRet, mxDrop, mxAsg, outX,
  w_ret, w_skip, w_drop, w_asg, w_par, w_ifs, w_seq, w_seti, w_for, w_lc, w_sr, w_sl', w_st, w_ss, w_sz, w_yes, wp_some, wp_none, wp_bind, wp_map, wp_ite,
  List.map_cons, List.map_nil, List.length_cons, List.length_nil, Nat.reduceAdd, Nat.reduceSub, List.replicate_succ, List.replicate_zero, List.cons_append, List.nil_append, List.append_nil,
  List.getElem?_cons_zero, List.getElem?_cons_succ, List.set_cons_zero, List.set_cons_succ, gN, setAll, gT,
  e_addI, e_addT, e_addL, e_addS, e_subI, e_mulI, e_modI, e_fdvI, e_powI, e_ltI, e_leI, e_gtI, e_geI, e_ltS, e_gtS, e_isB, e_int, e_abs, e_max, e_min, e_lenT, e_lenL, e_lenQ, e_lenS, e_ixT, e_ixL, e_ixQ, e_ixS, e_slT, e_slL, e_slQ, e_listT, e_listL, e_isi, e_eqI, e_eqS, e_neI, e_neS, e_ninS, iI, iB, iS, iT, at0, at1, at2, at3, at4, at5, at6, at7,
  Bool.false_eq_true, if_false, if_true, decide_eq_true_eq, reduceIte])
section
variable {S : Sto} {j : Nat} {n : Int}
/-- a list of drawn signs -/
theorem draw_map {te : EvF} {i : Nat} {ρ : En} {P : Nat → Prop} (hte : ∀ (d : D) (S : Sto) (n : Int) (Q : D × Sto → Prop), Bx S j n → n ≤ 900000000 → (∀ c S', P c → Bx S' j (n + 1) → Q (sg c, S')) → wp (te (ρ.set i (some d)) S) Q) :
    ∀ (ds : List D) (S : Sto) (n : Int) (Q : List D × Sto → Prop), Bx S j n → n + ds.length ≤ 900000000 → (∀ (cs : List Nat) (S' : Sto), cs.length = ds.length → (∀ c ∈ cs, P c) → Bx S' j (n + ds.length) → Q (cs.map sg, S')) → wp (mapL te mYes i ρ ds S) Q
  | [], S, n, Q, B, hn, h => wp_some.mpr (by simpa using h [] S rfl (fun _ hc => nomatch hc) (B.mono (by simp)))
  | d :: ds, S, n, Q, B, hn, h => by
    have hl : ((d :: ds).length : Int) = ds.length + 1 := by simp
    unfold mapL
    rw [wp_bind, w_yes, wp_ite]
    refine itp rfl ?_
    rw [wp_bind]
    refine hte d S n _ B (by omega) fun c S' pc B' => ?_
    rw [wp_map]
    refine draw_map hte ds S' (n + 1) _ B' (by omega) fun cs S2 h1 h2 h3 => ?_
    refine h (c :: cs) S2 (by simp [h1]) (fun x hx => ?_) (h3.mono (by omega))
    rcases List.mem_cons.mp hx with e | e
    · rw [e]; exact pc
    · exact h2 x e
theorem letters_mem {c : Nat} (h : c ∈ ("abcdefghijklmnopqrstuvwxyz" : Str).cps.toList) : low c = true := by
  have := in_letters c
  rw [← this]
  exact decide_eq_true h
theorem letters_len : ("abcdefghijklmnopqrstuvwxyz" : Str).cps.toList.length = 26 := by decide +kernel
theorem letters_l : ("abcdefghijklmnopqrstuvwxyz" : Str).length = 26 := by decide +kernel
theorem name_spec {Q : D × Sto → Prop} (B : Bx S j n) (hn : n ≤ 800000000) (h : ∀ x S', nameB x = true → Bx S' j (n + 20) → Q (.str x, S')) : wp (m__law_name [.ref j] S) Q := by
  unfold m__law_name
  walk_at "go"
  refine take_spec B (by decide) (by decide) (by omega) fun r S1 r0 r1 B1 => ?_
  walk_at "go"
  refine ⟨by decide, ?_⟩
  refine take_spec B1 (by decide) (by decide) (by omega) fun r' S2 _ _ B2 => ?_
  walk_at "go"
  refine it2 (fun q => ?_) fun q => ?_
  · refine take_spec B2 (by decide) (by decide) (by omega) fun k S3 k0 k1 B3 => ?_
    walk_at "go"
    refine itp (by rw [letters_l]; decide) (wp_at k0 (by rw [letters_len]; omega) fun c hc => ?_)
    have hc := letters_mem hc
    have e1 : (⟨#[c]⟩ : Str).length = 1 := rfl
    obtain ⟨x, ex, lx⟩ := e_mulS (a := ⟨#[c]⟩) (b := 1 + r) (by omega) (by omega) (by rw [e1]; omega)
    rw [ex]
    walk_at "go"
    refine h x S3 ?_ (B3.mono (by omega))
    unfold nameB
    rw [len_list, lx, flat_len, flat_all _ (by simp [hc])]
    simp
    omega
  · have hr : (1 + r) ≤ 1000000 ∧ -1000000 ≤ (1 + r) := by omega
    rw [if_pos hr]
    try walk_at "go"
    refine draw_map (P := fun c => low c = true) (j := j) (fun d S n Q B hn h => ?_) _ _ _ _ B2 (by simp [upto]; omega) fun cs S3 h1 h2 B3 => ?_
    · walk_at "go"
      refine take_spec B (by decide) (by decide) (by omega) fun k S3 k0 k1 B3 => ?_
      walk_at "go"
      refine itp (by rw [letters_l]; decide) (wp_at k0 (by rw [letters_len]; omega) fun c hc => ?_)
      exact h c S3 (letters_mem hc) B3
    · have hl : cs.length = (1 + r).toNat := by rw [h1]; simp [upto]
      refine ⟨by rw [List.length_map]; omega, ?_⟩
      obtain ⟨x, ex, lx⟩ := e_join (S := S3) (cs := cs) (by omega)
      rw [ex]
      walk_at "go"
      refine h x S3 ?_ (B3.mono (by simp [upto]; omega))
      unfold nameB
      rw [len_list, lx, List.all_eq_true.mpr h2]
      simp
      omega
end
section
variable {S : Sto} {j : Nat} {n : Int}
theorem signs_mem {c : Nat} (h : c ∈ (" !\"#$&'()*+,-./0123456789:;<=>?@ABCDEFGHIJKLMNOPQRSTUVWXYZ[\\]^_`abcdefghijklmnopqrstuvwxyz{|}~" : Str).cps.toList) : sgn c = true := by
  have q : (" !\"#$&'()*+,-./0123456789:;<=>?@ABCDEFGHIJKLMNOPQRSTUVWXYZ[\\]^_`abcdefghijklmnopqrstuvwxyz{|}~" : Str).cps.toList.all sgn = true := by decide +kernel
  exact List.all_eq_true.mp q c h
theorem signs_len : (" !\"#$&'()*+,-./0123456789:;<=>?@ABCDEFGHIJKLMNOPQRSTUVWXYZ[\\]^_`abcdefghijklmnopqrstuvwxyz{|}~" : Str).cps.toList.length = 94 := by decide +kernel
theorem signs_l : (" !\"#$&'()*+,-./0123456789:;<=>?@ABCDEFGHIJKLMNOPQRSTUVWXYZ[\\]^_`abcdefghijklmnopqrstuvwxyz{|}~" : Str).length = 94 := by decide +kernel
theorem text_spec {Q : D × Sto → Prop} (B : Bx S j n) (hn : n ≤ 800000000) (h : ∀ x S', x.length ≤ 40 → x.cps.toList.all sgn = true → Bx S' j (n + 50) → Q (.str x, S')) : wp (m__law_text [.ref j, .int 40] S) Q := by
  unfold m__law_text
  walk_at "go"
  refine ⟨by decide, ?_⟩
  refine take_spec B (by decide) (by decide) (by omega) fun r S1 r0 r1 B1 => ?_
  walk_at "go"
  refine wp_at r0 (by simpa using r1) fun d hd => ?_
  obtain ⟨m, rfl, m0, m1⟩ : ∃ m : Int, d = .int m ∧ 0 ≤ m ∧ m ≤ 40 := by
    simp at hd
    rcases hd with rfl | rfl | rfl | rfl | rfl | rfl | rfl <;> exact ⟨_, rfl, by decide, by decide⟩
  walk_at "go"
  have hr : m ≤ 1000000 ∧ -1000000 ≤ m := by omega
  rw [if_pos hr]
  try walk_at "go"
  refine draw_map (P := fun c => sgn c = true) (j := j) (fun d S n Q B hn h => ?_) _ _ _ _ B1 (by simp [upto]; omega) fun cs S3 h1 h2 B3 => ?_
  · walk_at "go"
    refine take_spec B (by decide) (by decide) (by omega) fun k S3 k0 k1 B3 => ?_
    walk_at "go"
    refine itp (by rw [signs_l]; decide) (wp_at k0 (by rw [signs_len]; omega) fun c hc => ?_)
    exact h c S3 (signs_mem hc) B3
  · have hl : cs.length = m.toNat := by rw [h1]; simp [upto]
    refine ⟨by rw [List.length_map]; omega, ?_⟩
    obtain ⟨x, ex, lx⟩ := e_join (S := S3) (cs := cs) (by omega)
    rw [ex]
    walk_at "go"
    refine h x S3 (by rw [len_list, lx]; omega) (by rw [lx]; exact List.all_eq_true.mpr h2) (B3.mono (by simp [upto]; omega))
theorem sm_name {x : Str} (h : nameB x = true) : Sm (.str x) 0 8 := by
  unfold nameB at h
  simp only [Bool.and_eq_true, decide_eq_true_eq] at h
  refine ⟨?_, by rw [dpD] <;> simp, by rw [szD]; exact h.1.2⟩
  rw [okD, okS_of (low_sgn h.2)]
  simp
  omega
theorem sm_text {x : Str} (h1 : x.length ≤ 40) (h : x.cps.toList.all sgn = true) : Sm (.str x) 0 40 := by
  refine ⟨?_, by rw [dpD] <;> simp, by rw [szD]; exact h1⟩
  rw [okD, okS_of h]
  simp
  omega
theorem sm_int {i : Int} (h : i.natAbs < 10 ^ 30) : Sm (.int i) 0 0 := by
  refine ⟨?_, by rw [dpD] <;> simp, by rw [szD] <;> simp⟩
  rw [okD]
  simp
  omega
theorem item_spec {Q : D × Sto → Prop} (B : Bx S j n) (hn : n ≤ 700000000) (h : ∀ ds S', ds.length = 6 → itemB (.tup ds) = true → SmA ds 0 100 → Bx S' j (n + 200) → Q (.tup ds, S')) : wp (m__law_item [.ref j] S) Q := by
  unfold m__law_item
  walk_at "go"
  refine take_spec B (by decide) (by decide) (by omega) fun r S1 r0 r1 B1 => ?_
  walk_at "go"
  refine ⟨by decide, ?_⟩
  refine name_spec B1 (by omega) fun x S2 hx B2 => ?_
  walk_at "go"
  refine name_spec B2 (by omega) fun y S3 hy B3 => ?_
  walk_at "go"
  refine text_spec B3 (by omega) fun z S4 hz1 hz2 B4 => ?_
  walk_at "go"
  refine take_spec B4 (by decide) (by decide) (by omega) fun p S5 p0 p1 B5 => ?_
  walk_at "go"
  refine ⟨by decide, ?_⟩
  have menu : ∀ d ∈ [D.int 0, D.int 1, D.int 49, D.int 50, D.int r], ∃ m : Int, d = .int m ∧ 0 ≤ m ∧ m ≤ 50 := by
    intro d hd
    simp at hd
    rcases hd with rfl | rfl | rfl | rfl | rfl
    · exact ⟨_, rfl, by decide, by decide⟩
    · exact ⟨_, rfl, by decide, by decide⟩
    · exact ⟨_, rfl, by decide, by decide⟩
    · exact ⟨_, rfl, by decide, by decide⟩
    · exact ⟨_, rfl, r0, by omega⟩
  refine take_spec B5 (by decide) (by decide) (by omega) fun a S6 a0 a1 B6 => ?_
  walk_at "go"
  refine wp_at a0 (by simpa using a1) fun d hd => ?_
  obtain ⟨u, rfl, u0, u1⟩ := menu d hd
  refine take_spec B6 (by decide) (by decide) (by omega) fun b S7 b0 b1 B7 => ?_
  walk_at "go"
  refine wp_at b0 (by simpa using b1) fun d hd => ?_
  obtain ⟨w, rfl, w0, w1⟩ := menu d hd
  try walk_at "go"
  refine ⟨by decide, itp (by decide) ?_⟩
  refine h _ S7 rfl ?_ ?_ (B7.mono (by omega))
  · simp [itemB, nmB, hx, hy, txtB, hz1, hz2, btw, p0, u0, w0, u1, w1]
    omega
  · have c1 := sm_name hx
    have c2 := sm_name hy
    have c3 := sm_text hz1 hz2
    have c4 : Sm (.int p) 0 0 := sm_int (by omega)
    have c5 : Sm (.int u) 0 0 := sm_int (by omega)
    have c6 : Sm (.int w) 0 0 := sm_int (by omega)
    exact (SmA.cons c1 (SmA.cons c2 (SmA.cons c3 (SmA.cons c4 (SmA.cons c5 (SmA.cons c6 (SmA.nil (n := 0)))))))).mono (by decide) (by decide)
def smB (d : D) : Bool := okD d && decide (dpD d ≤ 2) && decide (szD d ≤ 100)
theorem smB_ok {d : D} (h : smB d = true) : Sm d 2 100 := by
  unfold smB at h
  simp only [Bool.and_eq_true, decide_eq_true_eq] at h
  exact ⟨h.1.1, h.1.2, h.2⟩
theorem mulx {k : Int} (h1 : 2 ≤ k) (h2 : k ≤ 100) : mulD (.str "x") (.int k) = some (.str (smul "x" k.toNat)) := by
  have e : mulD (.str "x") (.int k) = if 1 ≤ k ∧ k ≤ 1000000 ∧ ("x" : Str).length * k.toNat ≤ 1000000 then some (.str (if k = 1 ∨ ("x" : Str).length = 0 then "x" else smul "x" k.toNat)) else if k ≤ 0 ∧ -1000000 ≤ k then some (.str Str.empty) else none := rfl
  have l : ("x" : Str).length = 1 := by decide +kernel
  rw [e, l, if_pos (by omega), if_neg (by omega)]
theorem odd_spec {Q : D × Sto → Prop} (B : Bx S j n) (hn : n ≤ 800000000) (h : ∀ d S', Sm d 2 100 → Bx S' j (n + 1) → Q (d, S')) : wp (m__law_odd [.ref j] S) Q := by
  unfold m__law_odd
  repeat (first | walk_at "go" | simp only [mulx (k := 40) (by decide) (by decide), mulx (k := 41) (by decide) (by decide), mulx (k := 60) (by decide) (by decide)])
  refine itp (by decide) (itp (by decide) ?_)
  refine ⟨by decide, by decide, by decide, by decide, by decide, by decide, itp (by decide) ⟨by decide, by decide, by decide, by decide, by decide, by decide, itp (by decide) ?_⟩⟩
  refine take_spec B (by decide) (by decide) (by omega) fun r S1 r0 r1 B1 => ?_
  walk_at "go"
  refine wp_at r0 (by simpa using r1) fun d hd => h d S1 (smB_ok ?_) B1
  revert d
  rw [← List.all_eq_true]
  decide +kernel
theorem cut_len {α : Type} {xs : List α} {lo hi : Option Int} : (cut xs lo hi).length ≤ xs.length := by
  unfold cut
  rw [List.length_take, List.length_drop]
  omega
theorem spoiled_spec {ds : List D} {p m : Nat} {Q : D × Sto → Prop} (hs : SmA ds p m) (h0 : 0 < ds.length) (h1 : ds.length ≤ 1000) (B : Bx S j n) (hn : n ≤ 700000000)
    (h : ∀ es S', SmA es (max p 2) (2 * m + 101) → 0 < es.length → es.length ≤ 2 * ds.length + 1 → Bx S' j (n + 2) → Q (.tup es, S')) : wp (m__law_spoiled [.ref j, .tup ds] S) Q := by
  unfold m__law_spoiled
  walk_at "go"
  refine take_spec B (by omega) (by omega) (by omega) fun r S1 r0 r1 B1 => ?_
  walk_at "go"
  refine odd_spec B1 (by omega) fun d S2 hd B2 => ?_
  walk_at "go"
  have c1 := cut_len (xs := ds) (lo := none) (hi := some r)
  have c2 := cut_len (xs := ds) (lo := some (r + 1)) (hi := none)
  refine ⟨by decide, itp (by simp; omega) (itp (by simp; omega) ?_)⟩
  have a := (hs.cut (lo := none) (hi := some r)).app (SmA.one hd)
  have b := a.app (hs.cut (lo := some (r + 1)) (hi := none))
  refine h _ S2 (b.mono (by omega) (by omega)) (by simp; omega) (by simp; omega) (B2.mono (by omega))
theorem shape_spec {ds : List D} {p m : Nat} {Q : D × Sto → Prop} (hs : SmA ds p m) (h1 : ds.length ≤ 1000) (B : Bx S j n) (hn : n ≤ 800000000)
    (h : ∀ d S', Sm d (p + 2) (2 * m + 10) → Bx S' j (n + 1) → Q (d, S')) : wp (m__law_shape [.ref j, .tup ds] S) Q := by
  unfold m__law_shape
  have e1 : ∀ S, dictD S [.lst [.tup [.str "a", .tup ds]]] = some (.dct [(.inr "a", .tup ds)]) := fun S => rfl
  have la : ("a" : Str).length = 1 := by decide +kernel
  have c1 := cut_len (xs := ds) (lo := none) (hi := some (-1))
  have c2 := cut_len (xs := ds) (lo := some (-1)) (hi := none)
  repeat (first | walk_at "go" | simp only [e1])
  refine ⟨by decide, itp (by simp; omega) ⟨by decide, by decide, by decide, by decide, itp (by omega) ⟨by decide, ?_⟩⟩⟩
  refine take_spec B (by decide) (by decide) (by omega) fun r S1 r0 r1 B1 => ?_
  walk_at "go"
  refine wp_at r0 (by simpa using r1) fun d hd => h d S1 ?_ B1
  simp only [List.mem_cons, List.not_mem_nil, or_false] at hd
  have z : Sm (.int 0) p 0 := (sm_int (i := 0) (by decide)).mono (by omega) (by omega)
  rcases hd with rfl | rfl | rfl | rfl | rfl | rfl | rfl | rfl | rfl
  · exact hs.lst.mono (by omega) (by omega)
  · exact (hs.app (SmA.one z)).tup.mono (by omega) (by omega)
  · exact (hs.cut (lo := none) (hi := some (-1))).tup.mono (by omega) (by omega)
  · exact (SmA.one hs.tup).tup.mono (by omega) (by omega)
  · exact ⟨by rw [okD], by rw [dpD] <;> simp, by rw [szD] <;> simp⟩
  · exact (show Sm (.str "send") 0 4 from ⟨by decide +kernel, by decide +kernel, by decide +kernel⟩).mono (by omega) (by omega)
  · exact (hs.tup.dct1 (s := "a") (by decide +kernel)).mono (by omega) (by rw [la]; omega)
  · exact (SmA.nil (p := p) (n := 0)).tup.mono (by omega) (by omega)
  · exact (hs.app (hs.cut (lo := some (-1)) (hi := none))).tup.mono (by omega) (by omega)

theorem told_ok {a b : Bool} : m__law_told [.bl a, .bl b] S = some (.bl (decide (a = b)), S) := by
  apply wp_eq
  unfold m__law_told
  walk_at "go"
  cases a <;> cases b <;> simp
theorem right_ok {v : D} (h : Sm v 60 100000) : m__law_right [v] S = some (.bl true, S) := by
  obtain ⟨x, hx0⟩ := e_repr (S := S) h
  have hx : reprR S [v] = some (.str x) := by
    have h1 := h.1
    have e1 : reprR S [v] = showD v := by
      cases v <;> first | rfl | (exfalso; simp [okD] at h1; done)
    rw [e1]
    have h0 : ((toQ v).bind fun p => if fitB p = true then some (D.str p.shown) else none) = some (.str x) := hx0
    obtain ⟨p, e2, e3⟩ := bd h0
    unfold showD
    rw [e2]
    by_cases f : fitB p = true
    · rw [if_pos f] at e3
      show (if _ then _ else _) = _
      rw [if_pos (.inl f)]
      exact e3
    · rw [if_neg f] at e3; cases e3
  apply wp_eq
  unfold m__law_right
  repeat (first | walk_at "go" | simp only [hx, p_command h.1, l_command h.1, told_ok])
  simp
theorem intsOf_map : ∀ ns : List Int, intsOf (ns.map .int) = some ns
  | [] => rfl
  | n :: ns => by
    show (intsOf (ns.map .int)).map _ = _
    rw [intsOf_map ns]
    rfl
theorem cut_map {α β : Type} {f : α → β} {xs : List α} {lo hi : Option Int} : cut (xs.map f) lo hi = (cut xs lo hi).map f := by
  unfold cut
  rw [List.length_map, List.map_take, List.map_drop]
theorem cell_spec {ns : List Int} {k : Int} {Q : D × Sto → Prop} (k0 : 0 ≤ k) (h : ∀ r, Q (.int r, S)) : wp (m__law_cell [.seq (ns.map .int), .int k] S) Q := by
  unfold m__law_cell
  walk_at "go"
  rw [List.length_map]
  refine it2 (fun q => wp_at k0 (by simpa using q) fun d hd => ?_) fun q => itp (.inl (by decide)) ?_
  · obtain ⟨r, _, rfl⟩ := List.mem_map.mp hd
    exact h r
  · rw [cut_map]
    have e : sumD S [.lst ((cut ns none (some 1)).map .int)] = some (.int (cut ns none (some 1)).sum) := by
      show (intsOf _).map _ = _
      rw [intsOf_map]
      rfl
    rw [e]
    walk_at "go"
    exact itp (by decide) (h _)
theorem box_spec {g : Int} {Q : D × Sto → Prop} (h : ∀ S', Bx S' S.length 0 → Q (.ref S.length, S')) : wp (m__law_box [.int g] S) Q := by
  unfold m__law_box
  walk_at "go"
  refine itp (by decide) (itp (by decide) ⟨by decide, ?_⟩)
  have e : ∀ o : Ob, (S ++ [o])[S.length]? = some o := fun o => by
    rw [List.getElem?_append_right (Nat.le_refl _)]
    simp
  exact h _ ⟨(if g < 0 then -g else g), decide (10 ^ Int.toNat 18 ≤ if g < 0 then -g else g), (if g < 0 then -g else g) % 2147483629, 0, e _, Int.emod_nonneg _ (by decide), Int.emod_lt_of_pos _ (by decide), by decide, by decide⟩
end
end K04

namespace K04
open PySem PySem.StrLaws L2 TL M Ln
local macro_rules | `(tactic| walk_at "go") => `(tactic| simp (maxSteps := 100000000) only [w_def, w_var, w_c, w_bin, w_and, w_or, w_bK, w_not, w_if, w_nil, w_cons, w_tup, w_lst, w_new, w_tv, w_tand, w_tor, w_tnot, w_chain, w_call, w_kw, w_cb, w_ix, w_nop, w_p, w_sl, w_neg, w_ms, w_m1, w_d0, w_app, w_ext, w_pop, w_tr, w_newc, w_s1, w_repl, w_mu, w_addn, w_dget, w_din, w_dget2, w_dictn, w_asgs, w_attr, w_xo, w_lx, w_bx, w_sxr, w_xdef, w_xseq, w_xraise, w_xtry, w_qus, w_okf, w_xkw, mxIf, mxCons, mxCallM, mxCall, mxBin, mxTv, mxRet, mxDrop, mxAsg, outX,
  w_ret, w_skip, w_drop, w_asg, w_par, w_ifs, w_seq, w_seti, w_for, w_lc, w_sr, w_sl', w_st, w_ss, w_sz, w_yes, wp_some, wp_none, wp_bind, wp_map, wp_ite,
  List.map_cons, List.map_nil, List.length_cons, List.length_nil, Nat.reduceAdd, Nat.reduceSub, List.replicate_succ, List.replicate_zero, List.cons_append, List.nil_append, List.append_nil,
  List.getElem?_cons_zero, List.getElem?_cons_succ, List.set_cons_zero, List.set_cons_succ, gN, setAll, gT,
  e_addI, e_addT, e_addL, e_addS, e_subI, e_mulI, e_modI, e_fdvI, e_powI, e_ltI, e_leI, e_gtI, e_geI, e_ltS, e_gtS, e_isB, e_int, e_abs, e_max, e_min, e_lenT, e_lenL, e_lenQ, e_lenS, e_ixT, e_ixL, e_ixQ, e_ixS, e_slT, e_slL, e_slQ, e_listT, e_listL, e_isi, e_eqI, e_eqS, e_neI, e_neS, e_ninS, iI, iB, iS, iT, at0, at1, at2, at3, at4, at5, at6, at7,
  Bool.false_eq_true, if_false, if_true, decide_eq_true_eq, reduceIte])
section
variable {S : Sto} {j : Nat} {n : Int}
theorem draws {te : EvF} {i : Nat} {ρ : En} {P : D → Prop} {m : Nat} (hte : ∀ (d : D) (S : Sto) (n : Int) (Q : D × Sto → Prop), Bx S j n → n ≤ 600000000 → (∀ c S', P c → Bx S' j (n + m) → Q (c, S')) → wp (te (ρ.set i (some d)) S) Q) :
    ∀ (ds : List D) (S : Sto) (n : Int) (Q : List D × Sto → Prop), Bx S j n → n + ((m * ds.length : Nat) : Int) ≤ 600000000 → (∀ (cs : List D) (S' : Sto), cs.length = ds.length → (∀ c ∈ cs, P c) → Bx S' j (n + ((m * ds.length : Nat) : Int)) → Q (cs, S')) → wp (mapL te mYes i ρ ds S) Q
  | [], S, n, Q, B, hn, h => wp_some.mpr (h [] S rfl (fun _ hc => nomatch hc) (B.mono (by simp)))
  | d :: ds, S, n, Q, B, hn, h => by
    have hl : m * (d :: ds).length = m + m * ds.length := by rw [List.length_cons, Nat.mul_add]; omega
    rw [hl] at hn h
    unfold mapL
    rw [wp_bind, w_yes, wp_ite]
    refine itp rfl ?_
    rw [wp_bind]
    refine hte d S n _ B (by omega) fun c S' pc B' => ?_
    rw [wp_map]
    refine draws hte ds S' (n + m) _ B' (by omega) fun cs S2 h1 h2 h3 => ?_
    refine h (c :: cs) S2 (by simp [h1]) (fun x hx => ?_) (h3.mono (by omega))
    rcases List.mem_cons.mp hx with e | e
    · rw [e]; exact pc
    · exact h2 x e
theorem smA_all : ∀ {ds : List D} {p m : Nat}, (∀ d ∈ ds, Sm d p m) → SmA ds p (ds.length * (m + 1))
  | [], p, m, _ => SmA.nil.mono (Nat.le_refl _) (Nat.zero_le _)
  | d :: ds, p, m, h => by
    have a := SmA.cons (n := m) (m := ds.length * (m + 1)) (h d List.mem_cons_self) (smA_all fun x hx => h x (List.mem_cons_of_mem _ hx))
    refine a.mono (Nat.le_refl _) ?_
    rw [List.length_cons, Nat.add_mul]
    omega
theorem items_spec {l : Int} {Q : D × Sto → Prop} (B : Bx S j n) (hn : n ≤ 500000000) (l0 : 0 ≤ l) (l1 : l ≤ 1)
    (h : ∀ ds S', l ≤ ds.length → ds.length ≤ 4 → ds.all itemB = true → SmA ds 1 404 → Bx S' j (n + 1000) → Q (.tup ds, S')) : wp (m__law_items [.ref j, .int l] S) Q := by
  unfold m__law_items
  walk_at "go"
  refine take_spec B (by omega) (by omega) (by omega) fun r S1 r0 r1 B1 => ?_
  walk_at "go"
  refine itp (by omega) ?_
  try walk_at "go"
  have hu : (upto (l + r).toNat).length = (l + r).toNat := by simp [upto]
  refine draws (P := fun d => itemB d = true ∧ Sm d 1 100) (m := 200) (fun d S n Q B hn h => ?_) _ _ _ _ B1 (by rw [hu]; omega) fun cs S2 h1 h2 B2 => ?_
  · walk_at "go"
    refine item_spec B (by omega) fun ds S' _ hb hs B' => ?_
    exact h _ S' ⟨hb, hs.tup⟩ B'
  · rw [hu] at h1 B2
    have h4 : cs.length ≤ 4 := by omega
    refine ⟨Nat.le_trans h4 (by decide), ?_⟩
    have e : tupD S2 [.lst cs] = some (.tup cs) := rfl
    rw [e]
    walk_at "go"
    refine h cs S2 (by omega) (by omega) (List.all_eq_true.mpr fun d hd => (h2 d hd).1) ?_ (B2.mono (by omega))
    refine (smA_all fun d hd => (h2 d hd).2).mono (Nat.le_refl _) ?_
    have : cs.length ≤ 4 := by omega
    omega
theorem number_spec {Q : D × Sto → Prop} (B : Bx S j n) (hn : n ≤ 800000000) (h : ∀ i S', 1 ≤ i → i ≤ 999999999999 → Bx S' j (n + 2) → Q (.int i, S')) : wp (m__law_number [.ref j] S) Q := by
  unfold m__law_number
  walk_at "go"
  refine itp (by decide) ?_
  rw [pow12]
  refine take_spec B (by decide) (by decide) (by omega) fun r S1 r0 r1 B1 => ?_
  walk_at "go"
  refine ⟨by decide, ?_⟩
  refine take_spec B1 (by decide) (by decide) (by omega) fun k S2 k0 k1 B2 => ?_
  walk_at "go"
  refine wp_at k0 (by simpa using k1) fun d hd => ?_
  simp at hd
  have B2 := B2.mono (m := n + 2) (by omega)
  rcases hd with rfl | rfl | rfl | rfl
  · exact h _ _ (by decide) (by decide) B2
  · exact h _ _ (by decide) (by decide) B2
  · exact h _ _ (by decide) (by decide) B2
  · exact h _ _ (by omega) (by omega) B2
theorem token_spec {Q : D × Sto → Prop} (B : Bx S j n) (hn : n ≤ 700000000) (h : ∀ a b S', 1 ≤ a → a ≤ 999999999999 → 1 ≤ b → b ≤ 999999999999 → Bx S' j (n + 4) → Q (.tup [.int a, .int b], S')) : wp (m__law_token [.ref j] S) Q := by
  unfold m__law_token
  walk_at "go"
  refine number_spec B (by omega) fun a S1 a0 a1 B1 => ?_
  walk_at "go"
  refine number_spec B1 (by omega) fun b S2 b0 b1 B2 => ?_
  try walk_at "go"
  exact ⟨by decide, h a b S2 a0 a1 b0 b1 (B2.mono (by omega))⟩
theorem sm_tok {a b : Int} (a0 : 1 ≤ a) (a1 : a ≤ 999999999999) (b0 : 1 ≤ b) (b1 : b ≤ 999999999999) : Sm (.tup [.int a, .int b]) 1 2 :=
  ((SmA.cons (sm_int (i := a) (by omega)) (SmA.cons (sm_int (i := b) (by omega)) (SmA.nil (n := 0)))).mono (by decide) (by decide)).tup
theorem tok_ok {a b : Int} (a0 : 1 ≤ a) (a1 : a ≤ 999999999999) (b0 : 1 ≤ b) (b1 : b ≤ 999999999999) : tokB (.tup [.int a, .int b]) = true := by
  simp [tokB, btw]
  omega
theorem sm_word {x : Str} (h : okS x = true) (l : x.length ≤ 10) : Sm (.str x) 2 10 := by
  refine ⟨?_, by rw [dpD] <;> simp, by rw [szD]; exact l⟩
  rw [okD, h]
  simp
  omega
theorem sm_non {p m : Nat} : Sm .non p m := ⟨by rw [okD], by rw [dpD] <;> simp, by rw [szD] <;> simp⟩
theorem sm_bl {b : Bool} {p m : Nat} : Sm (.bl b) p m := ⟨by rw [okD], by rw [dpD] <;> simp, by rw [szD] <;> simp⟩
theorem btw_ok {i lo hi : Int} (a : lo ≤ i) (b : i ≤ hi) : btw (.int i) lo hi = true := by simp [btw, a, b]
/-- what is drawn as a command -/
structure Cmd (way : Int) (L : List D) : Prop where
  ok : cmdB (.tup L) = true
  sm : SmA L 2 500
  l2 : 2 ≤ L.length
  l5 : L.length ≤ 5
  w1 : way = 1 → L.length = 4
theorem wNm {x : Str} (h : nameB x = true) : Sm (.str x) 2 10 := (sm_name h).mono (by decide) (by decide)
theorem wI {i : Int} (h : i.natAbs < 10 ^ 30) : Sm (.int i) 2 10 := (sm_int h).mono (by decide) (by decide)
theorem command_spec {way : Int} {Q : D × Sto → Prop} (B : Bx S j n) (hn : n ≤ 400000000) (w0 : 0 ≤ way) (w1 : way < 6) (h : ∀ L S', Cmd way L → Bx S' j (n + 2000) → Q (.tup L, S')) : wp (m__law_command [.ref j, .int way] S) Q := by
  unfold m__law_command
  walk_at "go"
  refine name_spec B (by omega) fun x S1 hx B1 => ?_
  walk_at "go"
  refine name_spec B1 (by omega) fun y S2 hy B2 => ?_
  walk_at "go"
  refine it2 (fun q => ?_) fun q => ?_
  · subst q
    refine take_spec B2 (by decide) (by decide) (by omega) fun r S3 _ _ B3 => ?_
    walk_at "go"
    refine ⟨by decide, h _ S3 ⟨?_, ?_, by simp, by simp, fun e => absurd e (by decide)⟩ (B3.mono (by omega))⟩
    · show wordB "topic" _ = true
      rw [w_topic]
      simp [partsB, allJ, nmB, hx, iB]
    · exact (SmA.cons (sm_word (by decide +kernel) (by decide +kernel)) (SmA.cons (wNm hx) (SmA.cons (n := 0) sm_bl (SmA.nil (n := 0))))).mono (by decide) (by decide)
  refine it2 (fun q => ?_) fun q => ?_
  · subst q
    refine name_spec B2 (by omega) fun z S3 hz B3 => ?_
    walk_at "go"
    have good : ∀ (d : D) (S4 : Sto), nnB d = true → neqB (.str y) d = true → Sm d 2 10 → Bx S4 j (n + 2000) → Q (.tup [.str "group", .str x, .str y, d], S4) := by
      intro d S4 h1 h2 h3 B4
      refine h _ S4 ⟨?_, ?_, by simp, by simp, fun _ => rfl⟩ B4
      · show wordB "group" _ = true
        rw [w_group]
        show (partsB jsG [.str x, .str y, d] && neqB (.str y) d) = true
        rw [h2]
        simp [partsB, jsG, allJ, nmB, hx, hy, h1]
      · exact (SmA.cons (sm_word (by decide +kernel) (by decide +kernel)) (SmA.cons (wNm hx) (SmA.cons (wNm hy) (SmA.cons h3 (SmA.nil (n := 0)))))).mono (by decide) (by decide)
    refine it2 (fun q => ⟨by decide, good _ _ rfl rfl sm_non (B3.mono (by omega))⟩) fun q => ?_
    refine take_spec B3 (by decide) (by decide) (by omega) fun r S4 _ _ B4 => ?_
    walk_at "go"
    refine it2 (fun q => ⟨by decide, good _ _ rfl rfl sm_non (B4.mono (by omega))⟩) fun q2 => ⟨by decide, good _ _ (by simp [nnB, nmB, hz]) ?_ (wNm hz) (B4.mono (by omega))⟩
    simp only [neqB]
    exact decide_eq_true fun e => q e.symm
  refine it2 (fun q => ?_) fun q => ?_
  · subst q
    refine number_spec B2 (by omega) fun i S3 i0 i1 B3 => ?_
    walk_at "go"
    refine items_spec B3 (by omega) (by decide) (by decide) fun ds S4 d0 d1 d2 d3 B4 => ?_
    try walk_at "go"
    refine ⟨by decide, h _ S4 ⟨?_, ?_, by simp, by simp, fun e => absurd e (by decide)⟩ (B4.mono (by omega))⟩
    · show wordB "send" _ = true
      rw [w_send]
      have e : sendB (.tup ds) = true := by simp [sendB, d1, d2]; omega
      simp [partsB, allJ, nmB, hx, num, btw_ok i0 i1, e]
    · exact (SmA.cons (sm_word (by decide +kernel) (by decide +kernel)) (SmA.cons (wNm hx) (SmA.cons (wI (by omega)) (SmA.cons d3.tup (SmA.nil (n := 0)))))).mono (by decide) (by decide)
  refine it2 (fun q => ?_) fun q => ?_
  · subst q
    refine number_spec B2 (by omega) fun i S3 i0 i1 B3 => ?_
    walk_at "go"
    refine token_spec B3 (by omega) fun a b S4 a0 a1 b0 b1 B4 => ?_
    walk_at "go"
    refine items_spec B4 (by omega) (by decide) (by decide) fun ds S5 d0 d1 d2 d3 B5 => ?_
    try walk_at "go"
    refine ⟨by decide, h _ S5 ⟨?_, ?_, by simp, by simp, fun e => absurd e (by decide)⟩ (B5.mono (by omega))⟩
    · show wordB "done" _ = true
      rw [w_done]
      have e : madeB (.tup ds) = true := by simp [madeB, d1, d2]
      simp [partsB, allJ, nmB, hx, num, btw_ok i0 i1, e, tok_ok a0 a1 b0 b1]
    · exact (SmA.cons (sm_word (by decide +kernel) (by decide +kernel)) (SmA.cons (wNm hx) (SmA.cons (wI (by omega)) (SmA.cons ((sm_tok a0 a1 b0 b1).mono (q := 2) (m := 10) (by decide) (by decide)) (SmA.cons d3.tup (SmA.nil (n := 0))))))).mono (by decide) (by decide)
  refine it2 (fun q => ?_) fun q => ?_
  · subst q
    refine number_spec B2 (by omega) fun i S3 i0 i1 B3 => ?_
    walk_at "go"
    refine take_spec B3 (by decide) (by decide) (by omega) fun r S4 r0 r1 B4 => ?_
    try walk_at "go"
    refine ⟨by decide, h _ S4 ⟨?_, ?_, by simp, by simp, fun e => absurd e (by decide)⟩ (B4.mono (by omega))⟩
    · show wordB "failed" _ = true
      rw [w_failed]
      simp [partsB, allJ, nmB, hx, num, btw_ok i0 i1, btw_ok r0 (show r ≤ 4 by omega)]
    · exact (SmA.cons (sm_word (by decide +kernel) (by decide +kernel)) (SmA.cons (wNm hx) (SmA.cons (wI (by omega)) (SmA.cons (wI (i := r) (by omega)) (SmA.nil (n := 0)))))).mono (by decide) (by decide)
  have e5 : way = 5 := by omega
  subst e5
  refine itp (by decide) ?_
  rw [pow12]
  refine take_spec B2 (by decide) (by decide) (by omega) fun r S3 r0 r1 B3 => ?_
  walk_at "go"
  refine ⟨by decide, ?_⟩
  refine take_spec B3 (by decide) (by decide) (by omega) fun k S4 k0 k1 B4 => ?_
  walk_at "go"
  refine wp_at k0 (by simpa using k1) fun d hd => ?_
  obtain ⟨m, rfl, m0, m1⟩ : ∃ m : Int, d = .int m ∧ 0 ≤ m ∧ m ≤ 999999999999 := by
    simp at hd
    rcases hd with rfl | rfl | rfl | rfl
    · exact ⟨_, rfl, by decide, by decide⟩
    · exact ⟨_, rfl, by decide, by decide⟩
    · exact ⟨_, rfl, by decide, by decide⟩
    · exact ⟨_, rfl, by omega, by omega⟩
  try walk_at "go"
  refine ⟨by decide, h _ S4 ⟨?_, ?_, by simp, by simp, fun e => absurd e (by decide)⟩ (B4.mono (by omega))⟩
  · show wordB "now" _ = true
    rw [w_now]
    simp [partsB, allJ, btw_ok m0 m1]
  · exact (SmA.cons (sm_word (by decide +kernel) (by decide +kernel)) (SmA.cons (wI (i := m) (by omega)) (SmA.nil (n := 0)))).mono (by decide) (by decide)
end
end K04

namespace K04
open PySem PySem.StrLaws L2 TL M Ln
local macro_rules | `(tactic| walk_at "go") => `(tactic| simp (maxSteps := 100000000) only [w_def, w_var, w_c, w_bin, w_and, w_or, w_bK, w_not, w_if, w_nil, w_cons, w_tup, w_lst, w_new, w_tv, w_tand, w_tor, w_tnot, w_chain, w_call, w_kw, w_cb, w_ix, w_nop, w_p, w_sl, w_neg, w_ms, w_m1, w_d0, w_app, w_ext, w_pop, w_tr, w_newc, w_s1, w_repl, w_mu, w_addn, w_dget, w_din, w_dget2, w_dictn, w_asgs, w_attr, w_xo, w_lx, w_bx, w_sxr, w_xdef, w_xseq, w_xraise, w_xtry, w_qus, w_okf, w_xkw, mxIf, mxCons, mxCallM, mxCall, mxBin, mxTv, mxRet, mxDrop, mxAsg, outX,
  w_ret, w_skip, w_drop, w_asg, w_par, w_ifs, w_seq, w_seti, w_for, w_lc, w_sr, w_sl', w_st, w_ss, w_sz, w_yes, wp_some, wp_none, wp_bind, wp_map, wp_ite,
  List.map_cons, List.map_nil, List.length_cons, List.length_nil, Nat.reduceAdd, Nat.reduceSub, List.replicate_succ, List.replicate_zero, List.cons_append, List.nil_append, List.append_nil,
  List.getElem?_cons_zero, List.getElem?_cons_succ, List.set_cons_zero, List.set_cons_succ, gN, setAll, gT,
  e_addI, e_addT, e_addL, e_addS, e_subI, e_mulI, e_modI, e_fdvI, e_powI, e_ltI, e_leI, e_gtI, e_geI, e_ltS, e_gtS, e_isB, e_int, e_abs, e_max, e_min, e_lenT, e_lenL, e_lenQ, e_lenS, e_ixT, e_ixL, e_ixQ, e_ixS, e_slT, e_slL, e_slQ, e_listT, e_listL, e_isi, e_eqI, e_eqS, e_neI, e_neS, e_ninS, iI, iB, iS, iT, at0, at1, at2, at3, at4, at5, at6, at7,
  Bool.false_eq_true, if_false, if_true, decide_eq_true_eq, reduceIte])
section
variable {S : Sto} {j : Nat} {n : Int}
theorem len_sz : ∀ ds : List D, ds.length ≤ szA ds
  | [] => by simp
  | d :: ds => by
    have := len_sz ds
    rw [szA, List.length_cons]
    omega
theorem SmA.mem : ∀ {ds : List D} {p m : Nat} {d : D}, SmA ds p m → d ∈ ds → Sm d p m
  | x :: xs, p, m, d, h, hd => by
    obtain ⟨h1, h2, h3⟩ := h
    rw [okA, Bool.and_eq_true] at h1
    rw [dpA] at h2
    rw [szA] at h3
    rcases List.mem_cons.mp hd with e | e
    · rw [e]; exact ⟨h1.1, by omega, by omega⟩
    · exact SmA.mem ⟨h1.2, by omega, by omega⟩ e
theorem at_last {α : Type} {xs : List α} (h : xs ≠ []) : ∃ d, atI xs (-1) = some d ∧ d ∈ xs := by
  have hl : 0 < xs.length := List.length_pos_iff.mpr h
  have hn : xs.length - 1 < xs.length := by omega
  refine ⟨xs[xs.length - 1], ?_, List.getElem_mem _⟩
  unfold atI
  have : ixN xs.length (-1) = some (xs.length - 1) := by
    unfold ixN
    simp
    omega
  rw [this]
  exact List.getElem?_eq_getElem hn
theorem last_spec {L : List D} {Q : D × Sto → Prop} (hs : SmA L 2 500) (h0 : L ≠ []) (B : Bx S j n) (hn : n ≤ 600000000)
    (h : ∀ d S', Sm d 20 20000 → Bx S' j (n + 20) → Q (d, S')) : wp (m__law_within_last [.ref j, .tup L] S) Q := by
  have hL := Nat.le_trans (len_sz L) hs.2.2
  unfold m__law_within_last
  walk_at "go"
  obtain ⟨last, e1, hm⟩ := at_last h0
  have sl := SmA.mem hs hm
  rw [e1]
  walk_at "go"
  simp only [isi_tup sl.1]
  try walk_at "go"
  have cL := cut_len (xs := L) (lo := none) (hi := some (-1))
  have sc := hs.cut (lo := none) (hi := some (-1))
  have h9 : (cut L none (some (-1))).length ≤ 500 := by omega
  have fin : ∀ (d : D) (S' : Sto), Sm d 10 5000 → Bx S' j (n + 20) → 1 ≤ 100000 ∧ (if (cut L none (some (-1))).length + 1 ≤ 100000 then Q (D.tup (cut L none (some (-1)) ++ [d]), S') else False) := by
    intro d S' hd B'
    refine ⟨by decide, itp (by omega) (h _ S' ?_ B')⟩
    exact ((sc.app (SmA.one hd)).tup).mono (by decide) (by decide)
  cases last with
  | tup ls =>
    have s2 : SmA ls 1 500 := sl.tupA
    have l2 := Nat.le_trans (len_sz ls) s2.2.2
    refine itn (by simp) ?_
    walk_at "go"
    refine it2 (fun q => ?_) fun q => ?_
    · refine odd_spec B (by omega) fun d S' hd B' => fin d S' (hd.mono (by decide) (by decide)) (B'.mono (by omega))
    · have l0 : 0 < ls.length := by omega
      refine take_spec B (by omega) (by omega) (by omega) fun r S1 r0 r1 B1 => ?_
      walk_at "go"
      refine take_spec B1 (by decide) (by decide) (by omega) fun k S2 k0 k1 B2 => ?_
      walk_at "go"
      refine wp_at r0 (by simpa using r1) fun part hp => ?_
      have sp := SmA.mem s2 hp
      refine it2 (fun q2 => ?_) fun q2 => ?_
      · exact fin _ _ ((s2.lst).mono (by decide) (by decide)) (B2.mono (by omega))
      refine it2 (fun q3 => ?_) fun q3 => ?_
      · refine itp (by omega) ?_
        exact fin _ _ (((s2.app s2).tup).mono (by decide) (by decide)) (B2.mono (by omega))
      have c1 := cut_len (xs := ls) (lo := none) (hi := some r)
      have c2 := cut_len (xs := ls) (lo := some (r + 1)) (hi := none)
      have fin2 : ∀ (d : D) (S' : Sto), Sm d 5 2000 → Bx S' j (n + 20) → 1 ≤ 100000 ∧ (if (cut ls none (some r)).length + 1 ≤ 100000 then (if (cut ls none (some r) ++ [d]).length + (cut ls (some (r + 1)) none).length ≤ 100000 then 1 ≤ 100000 ∧ (if (cut L none (some (-1))).length + 1 ≤ 100000 then Q (D.tup (cut L none (some (-1)) ++ [.tup (cut ls none (some r) ++ [d] ++ cut ls (some (r + 1)) none)]), S') else False) else False) else False) := by
        intro d S' hd B'
        refine ⟨by decide, itp (by omega) (itp (by simp; omega) (fin _ S' ?_ B'))⟩
        exact ((((s2.cut (lo := none) (hi := some r)).app (SmA.one hd)).app (s2.cut (lo := some (r + 1)) (hi := none))).tup).mono (by decide) (by decide)
      rw [isi_tup sp.1]
      cases part with
      | tup ps =>
        have s3 : SmA ps 0 500 := sp.tupA
        have l3 := Nat.le_trans (len_sz ps) s3.2.2
        have shp : wp (m__law_shape [D.ref j, .tup ps] S2) fun x => 1 ≤ 100000 ∧ (if (cut ls none (some r)).length + 1 ≤ 100000 then (if (cut ls none (some r) ++ [x.1]).length + (cut ls (some (r + 1)) none).length ≤ 100000 then 1 ≤ 100000 ∧ (if (cut L none (some (-1))).length + 1 ≤ 100000 then Q (D.tup (cut L none (some (-1)) ++ [.tup (cut ls none (some r) ++ [x.1] ++ cut ls (some (r + 1)) none)]), x.2) else False) else False) else False) :=
          shape_spec s3 (by omega) B2 (by omega) fun d S' hd B' => fin2 d S' (hd.mono (by decide) (by decide)) (B'.mono (by omega))
        walk_at "go"
        refine it2 (fun q4 => it2 (fun q5 => ?_) fun q5 => shp) fun q4 => shp
        refine spoiled_spec s3 (by omega) (by omega) B2 (by omega) fun es S' he e0 e1 B' => ?_
        exact fin2 _ _ ((he.tup).mono (by decide) (by decide)) (B'.mono (by omega))
      | _ =>
        first
        | (walk_at "go"
           refine odd_spec B2 (by omega) fun d S' hd B' => fin2 d S' (hd.mono (by decide) (by decide)) (B'.mono (by omega)))
        | (exfalso; have := sp.1; simp [okD] at this; done)
  | _ =>
    first
    | (refine itp (by rfl) ?_
       refine odd_spec B (by omega) fun d S' hd B' => fin d S' (hd.mono (by decide) (by decide)) (B'.mono (by omega)))
    | (exfalso; have := sl.1; simp [okD] at this; done)
theorem renamed_spec {L : List D} {Q : D × Sto → Prop} (hs : SmA L 2 500) (B : Bx S j n) (hn : n ≤ 600000000) (hl : L.length ≤ 5)
    (h : ∀ d S', Sm d 20 20000 → Bx S' j (n + 20) → Q (d, S')) : wp (m__law_renamed [.ref j, .tup L] S) Q := by
  unfold m__law_renamed
  walk_at "go"
  refine ⟨by decide, by decide, ?_⟩
  refine take_spec B (by decide) (by decide) (by omega) fun r S1 r0 r1 B1 => ?_
  walk_at "go"
  refine wp_at r0 (by simpa using r1) fun d hd => ?_
  have sd : Sm d 2 100 := by
    refine smB_ok ?_
    clear B1 r0 r1
    revert d
    rw [← List.all_eq_true]
    decide +kernel
  have c2 := cut_len (xs := L) (lo := some 1) (hi := none)
  refine ⟨by decide, itp (by omega) (h _ _ ?_ (B1.mono (by omega)))⟩
  exact (((SmA.one sd).app (hs.cut (lo := some 1) (hi := none))).tup).mono (by decide) (by decide)
theorem go_right {O : Out × Sto → Prop} {S : Sto} {a b c d e g h : Option D} : ∀ (ds : List D) (f : Option D), (∀ d ∈ ds, Sm d 60 100000) → (∀ f, O (.nx [a, b, c, d, e, f, g, h], S)) →
    wp (loop (gN 5) t_law_7 ds [a, b, c, d, e, f, g, h] S) O
  | [], g, _, q => wp_some.mpr (q g)
  | v :: ds, f, hd, q => by
    unfold loop
    rw [wp_bind]
    refine wp_of (a := [a, b, c, d, e, some v, g, h]) rfl ?_
    rw [wp_bind]
    unfold t_law_7 t_law_6
    walk_at "go"
    rw [right_ok (hd v List.mem_cons_self)]
    walk_at "go"
    refine itn (by simp) ?_
    exact go_right ds (some v) (fun x hx => hd x (List.mem_cons_of_mem _ hx)) q
end
end K04

namespace K04
open PySem PySem.StrLaws L2 TL M Ln
local macro_rules | `(tactic| walk_at "go") => `(tactic| simp (maxSteps := 100000000) only [w_def, w_var, w_c, w_bin, w_and, w_or, w_bK, w_not, w_if, w_nil, w_cons, w_tup, w_lst, w_new, w_tv, w_tand, w_tor, w_tnot, w_chain, w_call, w_kw, w_cb, w_ix, w_nop, w_p, w_sl, w_neg, w_ms, w_m1, w_d0, w_app, w_ext, w_pop, w_tr, w_newc, w_s1, w_repl, w_mu, w_addn, w_dget, w_din, w_dget2, w_dictn, w_asgs, w_attr, w_xo, w_lx, w_bx, w_sxr, w_xdef, w_xseq, w_xraise, w_xtry, w_qus, w_okf, w_xkw, mxIf, mxCons, mxCallM, mxCall, mxBin, mxTv, mxRet, mxDrop, mxAsg, outX,
  w_ret, w_skip, w_drop, w_asg, w_par, w_ifs, w_seq, w_seti, w_for, w_lc, w_sr, w_sl', w_st, w_ss, w_sz, w_yes, wp_some, wp_none, wp_bind, wp_map, wp_ite,
  List.map_cons, List.map_nil, List.length_cons, List.length_nil, Nat.reduceAdd, Nat.reduceSub, List.replicate_succ, List.replicate_zero, List.cons_append, List.nil_append, List.append_nil,
  List.getElem?_cons_zero, List.getElem?_cons_succ, List.set_cons_zero, List.set_cons_succ, gN, setAll, gT,
  e_addI, e_addT, e_addL, e_addS, e_subI, e_mulI, e_modI, e_fdvI, e_powI, e_ltI, e_leI, e_gtI, e_geI, e_ltS, e_gtS, e_isB, e_int, e_abs, e_max, e_min, e_lenT, e_lenL, e_lenQ, e_lenS, e_ixT, e_ixL, e_ixQ, e_ixS, e_slT, e_slL, e_slQ, e_listT, e_listL, e_isi, e_eqI, e_eqS, e_neI, e_neS, e_ninS, iI, iB, iS, iT, at0, at1, at2, at3, at4, at5, at6, at7,
  Bool.false_eq_true, if_false, if_true, decide_eq_true_eq, reduceIte])
theorem cutSm {L : List D} (hs : SmA L 2 500) {d : D} {lo hi : Option Int} (hd : Sm d 5 5000) : Sm (.tup (cut L lo hi ++ [d])) 20 20000 :=
  (((hs.cut (lo := lo) (hi := hi)).app (SmA.one hd)).tup).mono (by decide) (by decide)
theorem cutSm2 {L : List D} (hs : SmA L 2 500) {d : D} {lo hi lo' hi' : Option Int} (hd : Sm d 5 5000) : Sm (.tup (cut L lo hi ++ [d] ++ cut L lo' hi')) 20 20000 :=
  ((((hs.cut (lo := lo) (hi := hi)).app (SmA.one hd)).app (hs.cut (lo := lo') (hi := hi'))).tup).mono (by decide) (by decide)
section
variable {j : Nat} {n way near : Int} {L l : List D} {s k f : Option D} {S : Sto} {O : Out × Sto → Prop}
abbrev All (l : List D) (m : Nat) : Prop := l.length ≤ m ∧ ∀ d ∈ l, Sm d 20 20000
theorem All.app {l l' : List D} {m m' : Nat} (h : All l m) (h' : All l' m') : All (l ++ l') (m + m') :=
  ⟨by have := h.1; have := h'.1; simp; omega, fun d hd => (List.mem_append.mp hd).elim (h.2 d) (h'.2 d)⟩
theorem All.one {d : D} (h : Sm d 20 20000) : All [d] 1 := ⟨by simp, fun x hx => by rw [List.mem_singleton.mp hx]; exact h⟩
theorem All.two {d e : D} (h : Sm d 20 20000) (h' : Sm e 20 20000) : All [d, e] 2 := (All.one h).app (All.one h')
theorem All.three {d e g : D} (h : Sm d 20 20000) (h' : Sm e 20 20000) (h'' : Sm g 20 20000) : All [d, e, g] 3 := (All.one h).app (All.two h' h'')
abbrev row (s k : Option D) (j : Nat) (L l : List D) (f : Option D) (way near : Int) : En := [s, k, some (.ref j), some (.tup L), some (.lst l), f, some (.int way), some (.int near)]
variable (hL : Cmd way L) (hO : ∀ (f : Option D) (l : List D) (S : Sto), O (.nx (row s k j L l f way near), S))
include hL hO
theorem s8 (hl : All l 30) : wp (t_law_8 (row s k j L l f way near) S) O := by
  unfold t_law_8 row
  walk_at "go"
  have := hl.1
  refine ⟨by decide, itp (by first | omega | (simp only [List.length_cons, List.length_nil]; omega)) ?_⟩
  refine go_right _ _ ?_ fun f => hO f l S
  intro d hd
  rcases List.mem_cons.mp hd with e | e
  · rw [e]
    exact hL.sm.tup.mono (by decide) (by decide)
  · exact (hl.2 d e).mono (by decide) (by decide)
theorem s9 (hl : All l 20) : wp (t_law_9 (row s k j L l f way near) S) O := by
  have l1 := hl.1
  have l5 := hL.l5
  have c3 := cut_len (xs := L) (lo := none) (hi := some 3)
  unfold t_law_9 t_law_5 row
  walk_at "go"
  refine it2 (fun q => ?_) fun q => s8 hL hO ⟨by omega, hl.2⟩
  refine ⟨by decide, itp (by omega) ⟨by decide, itp (by omega) ⟨by decide, itp (by omega) ⟨by decide, itp (by first | omega | (simp only [List.length_cons, List.length_nil]; omega)) ?_⟩⟩⟩⟩
  exact s8 hL hO (by
    have a := hl.app (All.three (cutSm hL.sm (d := .int 5) (lo := none) (hi := some 3) (sm_int (by decide) |>.mono (by decide) (by decide))) (cutSm hL.sm (d := .int (-1)) (lo := none) (hi := some 3) (sm_int (by decide) |>.mono (by decide) (by decide))) (cutSm hL.sm (d := .int 4) (lo := none) (hi := some 3) (sm_int (by decide) |>.mono (by decide) (by decide))))
    exact ⟨by have := a.1; omega, a.2⟩)
theorem s10 (hl : All l 15) (B : Bx S j n) (hn : n ≤ 500000000) : wp (t_law_10 (row s k j L l f way near) S) O := by
  have l1 := hl.1
  have l5 := hL.l5
  have c3 := cut_len (xs := L) (lo := none) (hi := some 4)
  unfold t_law_10 t_law_4 row
  walk_at "go"
  refine it2 (fun q => ?_) fun q => s9 hL hO ⟨by omega, hl.2⟩
  refine item_spec B (by omega) fun is S1 i1 i2 i3 B1 => ?_
  walk_at "go"
  have e : mulT (.tup [.tup is]) (.int 5) = some (.tup [.tup is, .tup is, .tup is, .tup is, .tup is]) := rfl
  rw [e]
  walk_at "go"
  refine ⟨by decide, by decide, itp (by omega) ⟨by decide, itp (by first | omega | (simp only [List.length_cons, List.length_nil]; omega)) ?_⟩⟩
  exact s9 hL hO (by
    have t1 := i3.tup
    have t5 : SmA [D.tup is, D.tup is, D.tup is, D.tup is, D.tup is] 1 (5 * 101) := smA_all fun d hd => by simp at hd; rw [hd]; exact t1
    have a := hl.app (All.one (cutSm hL.sm (lo := none) (hi := some 4) (t5.tup.mono (q := 5) (m := 5000) (by decide) (by decide))))
    exact ⟨by have := a.1; omega, a.2⟩)
theorem s11 (hl : All l 10) (B : Bx S j n) (hn : n ≤ 500000000) : wp (t_law_11 (row s k j L l f way near) S) O := by
  have l1 := hl.1
  have l5 := hL.l5
  have c3 := cut_len (xs := L) (lo := none) (hi := some 4)
  have c4 := cut_len (xs := L) (lo := none) (hi := some 3)
  have c5 := cut_len (xs := L) (lo := some 4) (hi := none)
  unfold t_law_11 t_law_3 row
  walk_at "go"
  refine it2 (fun q => it2 (fun q2 => ?_) fun q2 => s10 hL hO ⟨by omega, hl.2⟩ B hn) fun q => s10 hL hO ⟨by omega, hl.2⟩ B hn
  have e0 : Sm (.tup []) 5 5000 := (SmA.nil (p := 0) (n := 0)).tup.mono (by decide) (by decide)
  have e1 : Sm (.tup [.int 0, .int 1]) 5 5000 := ⟨by decide +kernel, by decide +kernel, by decide +kernel⟩
  refine ⟨by decide, by decide, itp (by omega) ⟨by decide, by decide, itp (by omega) (itp (by first | omega | (simp only [List.length_append, List.length_cons, List.length_nil]; omega)) ⟨by decide, itp (by first | omega | (simp only [List.length_cons, List.length_nil]; omega)) ?_⟩)⟩⟩
  exact s10 hL hO (by
    have a := hl.app (All.two (cutSm hL.sm (lo := none) (hi := some 4) e0) (cutSm2 hL.sm (lo := none) (hi := some 3) (lo' := some 4) (hi' := none) e1))
    exact ⟨by have := a.1; omega, a.2⟩) B hn
theorem s12 (hl : All l 8) (B : Bx S j n) (hn : n ≤ 500000000) : wp (t_law_12 (row s k j L l f way near) S) O := by
  have l1 := hl.1
  have l5 := hL.l5
  have c3 := cut_len (xs := L) (lo := none) (hi := some 3)
  have c4 := cut_len (xs := L) (lo := none) (hi := some 2)
  have c5 := cut_len (xs := L) (lo := some 3) (hi := none)
  unfold t_law_12 t_law_2 row
  walk_at "go"
  refine it2 (fun q => it2 (fun q2 => ?_) fun q2 => s11 hL hO ⟨by omega, hl.2⟩ B hn) fun q => s11 hL hO ⟨by omega, hl.2⟩ B hn
  have e0 : Sm (.tup []) 5 5000 := (SmA.nil (p := 0) (n := 0)).tup.mono (by decide) (by decide)
  have e1 : Sm (.int 0) 5 5000 := (sm_int (by decide)).mono (by decide) (by decide)
  refine ⟨by decide, by decide, itp (by omega) ⟨by decide, itp (by omega) (itp (by first | omega | (simp only [List.length_append, List.length_cons, List.length_nil]; omega)) ⟨by decide, itp (by first | omega | (simp only [List.length_cons, List.length_nil]; omega)) ?_⟩)⟩⟩
  exact s11 hL hO (by
    have a := hl.app (All.two (cutSm hL.sm (lo := none) (hi := some 3) e0) (cutSm2 hL.sm (lo := none) (hi := some 2) (lo' := some 3) (hi' := none) e1))
    exact ⟨by have := a.1; omega, a.2⟩) B hn
theorem s13 (hl : All l 6) (B : Bx S j n) (hn : n ≤ 500000000) : wp (t_law_13 (row s k j L l f way near) S) O := by
  have l1 := hl.1
  have l5 := hL.l5
  have c3 := cut_len (xs := L) (lo := none) (hi := some 3)
  unfold t_law_13 t_law_1 row
  walk_at "go"
  refine it2 (fun q => ?_) fun q => s12 hL hO ⟨by omega, hl.2⟩ B hn
  have l4 := hL.w1 q
  refine wp_at (by decide) (by omega) fun d2 h2 => ⟨by decide, itp (by omega) (wp_at (by decide) (by omega) fun d1 h1 => ⟨by decide, itp (by omega) ⟨by decide, itp (by first | omega | (simp only [List.length_cons, List.length_nil]; omega)) ?_⟩⟩)⟩
  exact s12 hL hO (by
    have a := hl.app (All.two (cutSm hL.sm (lo := none) (hi := some 3) ((SmA.mem hL.sm h2).mono (by decide) (by decide))) (cutSm hL.sm (lo := none) (hi := some 3) ((SmA.mem hL.sm h1).mono (by decide) (by decide))))
    exact ⟨by have := a.1; omega, a.2⟩) B hn
end
theorem math (ns : List Int) (hl : ns.length ≤ 63) : ∃ S', m_law [.seq (ns.map .int)] [] = some (.bl true, S') := by
  have main : wp (m_law [.seq (ns.map .int)] []) (fun x => x.1 = .bl true) := by
    unfold m_law t_law_21
    rw [w_def, w_seq, w_for]
    walk_at "go"
    rw [List.length_map]
    refine itp (by split <;> split <;> omega) ?_
    refine wp_loop (fun ds ρ S => (∀ d ∈ ds, ∃ k : Int, d = .int k ∧ 0 ≤ k) ∧ ∃ a b c d e f g, ρ = [some (.seq (ns.map .int)), a, b, c, d, e, f, g]) ?_ ?_ _ _ _ ⟨?_, _, _, _, _, _, _, _, rfl⟩
    · rintro ρ S ⟨-, a, b, c, d, e, f, g, rfl⟩
      unfold t_law_20
      walk_at "go"
    · rintro x ds ρ S ⟨hk, a, b, c, d, e, f, g, rfl⟩
      obtain ⟨k, rfl, k0⟩ := hk _ List.mem_cons_self
      have hk2 : ∀ d ∈ ds, ∃ k : Int, d = .int k ∧ 0 ≤ k := fun x hx => hk x (List.mem_cons_of_mem _ hx)
      unfold t_law_19
      walk_at "go"
      refine cell_spec k0 fun r => ?_
      walk_at "go"
      refine box_spec fun S1 B1 => ?_
      unfold t_law_18
      walk_at "go"
      refine take_spec B1 (by decide) (by decide) (by omega) fun way S2 w0 w1 B2 => ?_
      walk_at "go"
      refine take_spec B2 (by decide) (by decide) (by omega) fun near S3 n0 n1 B3 => ?_
      unfold t_law_17
      walk_at "go"
      refine command_spec B3 (by omega) w0 w1 fun L S4 hL B4 => ?_
      have sL : Sm (.tup L) 3 500 := hL.sm.tup
      unfold t_law_16
      walk_at "go"
      rw [l_command sL.1, hL.ok]
      walk_at "go"
      refine itn (by simp) ?_
      have ll2 := hL.l2
      have ll5 := hL.l5
      unfold t_law_15
      walk_at "go"
      refine spoiled_spec hL.sm (by omega) (by omega) B4 (by omega) fun e1 S5 he1 _ _ B5 => ?_
      walk_at "go"
      refine shape_spec hL.sm (by omega) B5 (by omega) fun e2 S6 he2 B6 => ?_
      walk_at "go"
      refine last_spec hL.sm (fun q => by rw [q] at ll2; exact absurd ll2 (by decide)) B6 (by omega) fun e3 S7 he3 B7 => ?_
      unfold t_law_14
      walk_at "go"
      refine ⟨by decide, ?_⟩
      refine renamed_spec hL.sm B7 (by omega) ll5 fun e4 S8 he4 B8 => ?_
      walk_at "go"
      refine ⟨by decide, itp (by decide) ?_⟩
      refine s13 hL (fun f l S => ⟨hk2, _, _, _, _, _, _, _, rfl⟩) ?_ B8 (by omega)
      have a := (All.three (he1.tup.mono (q := 20) (m := 20000) (by omega) (by omega)) (he2.mono (q := 20) (m := 20000) (by omega) (by omega)) he3).app (All.one he4)
      exact ⟨by simp, a.2⟩
    · intro d hd
      unfold upto at hd
      obtain ⟨i, _, rfl⟩ := List.mem_map.mp hd
      exact ⟨_, rfl, by omega⟩
  obtain ⟨⟨x, S'⟩, e, rfl⟩ := main
  exact ⟨S', e⟩
end K04


set_option maxHeartbeats 8000000
namespace K04
open PySem L2 W2 RZ M PySem.HandSPX
theorem tblF_all (Y_is_token Y__is_made Y_is_sending : Fn) {Q : Str → Fn → Prop} (h__is_name : Q "_is_name" m__is_name) (h__is_name_or_none : Q "_is_name_or_none" m__is_name_or_none) (h__is_bool : Q "_is_bool" m__is_bool) (h__is_count : Q "_is_count" m__is_count) (h__is_body : Q "_is_body" m__is_body) (h__is_priority : Q "_is_priority" m__is_priority) (h__is_wait : Q "_is_wait" m__is_wait) (h__is_number : Q "_is_number" m__is_number) (h__is_tries : Q "_is_tries" m__is_tries) (h_is_token : Q "is_token" Y_is_token) (h__is_made : Q "_is_made" Y__is_made) (h_is_sending : Q "is_sending" Y_is_sending) : ∀ z F, (tblF Y_is_token Y__is_made Y_is_sending) z = some F → Q z F := by
  intro z F q
  unfold tblF at q
  by_cases e : z = "_is_name"
  · rw [if_pos e] at q
    cases q
    rw [e]
    exact h__is_name
  rw [if_neg e] at q
  clear e
  by_cases e : z = "_is_name_or_none"
  · rw [if_pos e] at q
    cases q
    rw [e]
    exact h__is_name_or_none
  rw [if_neg e] at q
  clear e
  by_cases e : z = "_is_bool"
  · rw [if_pos e] at q
    cases q
    rw [e]
    exact h__is_bool
  rw [if_neg e] at q
  clear e
  by_cases e : z = "_is_count"
  · rw [if_pos e] at q
    cases q
    rw [e]
    exact h__is_count
  rw [if_neg e] at q
  clear e
  by_cases e : z = "_is_body"
  · rw [if_pos e] at q
    cases q
    rw [e]
    exact h__is_body
  rw [if_neg e] at q
  clear e
  by_cases e : z = "_is_priority"
  · rw [if_pos e] at q
    cases q
    rw [e]
    exact h__is_priority
  rw [if_neg e] at q
  clear e
  by_cases e : z = "_is_wait"
  · rw [if_pos e] at q
    cases q
    rw [e]
    exact h__is_wait
  rw [if_neg e] at q
  clear e
  by_cases e : z = "_is_number"
  · rw [if_pos e] at q
    cases q
    rw [e]
    exact h__is_number
  rw [if_neg e] at q
  clear e
  by_cases e : z = "_is_tries"
  · rw [if_pos e] at q
    cases q
    rw [e]
    exact h__is_tries
  rw [if_neg e] at q
  clear e
  by_cases e : z = "is_token"
  · rw [if_pos e] at q
    cases q
    rw [e]
    exact h_is_token
  rw [if_neg e] at q
  clear e
  by_cases e : z = "_is_made"
  · rw [if_pos e] at q
    cases q
    rw [e]
    exact h__is_made
  rw [if_neg e] at q
  clear e
  by_cases e : z = "is_sending"
  · rw [if_pos e] at q
    cases q
    rw [e]
    exact h_is_sending
  rw [if_neg e] at q
  clear e
  cases q
theorem all_mk {P : Program} {w : World} {K : PySem.W.Frag} {h : Heap} {mg : Str → Option Value} {fa : Addr} (X : K.In h) (G : h.Ns mainGlobals mg) (hfa : mg "law" = some (.ref fa))
    {f_is_integer f_is_between f_has_word f_is_signs f_is_text f_is_name f__is_name f__is_name_or_none f__is_bool f__is_count f__is_body f__is_priority f__is_wait f__is_number f__is_tries f_fits f_is_item f_is_token f_is_sending f__is_made f_is_command f__law_cell f__law_box f__law_take f__law_name f__law_text f__law_item f__law_odd f__law_within f__law_is_name f__law_is_body f__law_is_token f__law_is_item f__law_items f__law_number f__law_token f__law_command f__law_are_items f__law_is_command f__law_shape f__law_spoiled f__law_within_last f__law_told f__law_renamed f__law_right f_law : Addr} {od_is_integer an_is_integer od_is_between an_is_between od_has_word an_has_word od_is_signs an_is_signs od_is_text an_is_text od_is_name an_is_name od__is_name an__is_name od__is_name_or_none an__is_name_or_none od__is_bool an__is_bool od__is_count an__is_count od__is_body an__is_body od__is_priority an__is_priority od__is_wait an__is_wait od__is_number an__is_number od__is_tries an__is_tries od_fits an_fits od_is_item an_is_item od_is_token an_is_token od_is_sending an_is_sending od__is_made an__is_made od_is_command an_is_command od__law_cell an__law_cell od__law_box an__law_box od__law_take an__law_take od__law_name an__law_name od__law_text an__law_text od__law_item an__law_item od__law_odd an__law_odd od__law_within an__law_within od__law_is_name an__law_is_name od__law_is_body an__law_is_body od__law_is_token an__law_is_token od__law_is_item an__law_is_item od__law_items an__law_items od__law_number an__law_number od__law_token an__law_token od__law_command an__law_command od__law_are_items an__law_are_items od__law_is_command an__law_is_command od__law_shape an__law_shape od__law_spoiled an__law_spoiled od__law_within_last an__law_within_last od__law_told an__law_told od__law_renamed an__law_renamed od__law_right an__law_right od_law an_law : Option Addr} {sl_is_integer sl_is_between sl_has_word sl_is_signs sl_is_text sl_is_name sl__is_name sl__is_name_or_none sl__is_bool sl__is_count sl__is_body sl__is_priority sl__is_wait sl__is_number sl__is_tries sl_fits sl_is_item sl_is_token sl_is_sending sl__is_made sl_is_command sl__law_cell sl__law_box sl__law_take sl__law_name sl__law_text sl__law_item sl__law_odd sl__law_within sl__law_is_name sl__law_is_body sl__law_is_token sl__law_is_item sl__law_items sl__law_number sl__law_token sl__law_command sl__law_are_items sl__law_is_command sl__law_shape sl__law_spoiled sl__law_within_last sl__law_told sl__law_renamed sl__law_right sl_law : Array (Option Value)} {oc_is_integer kV_is_integer dc_is_integer pm_is_integer cd_is_integer ct_is_integer oc_is_between kV_is_between dc_is_between pm_is_between cd_is_between ct_is_between oc_has_word kV_has_word dc_has_word pm_has_word cd_has_word ct_has_word oc_is_signs kV_is_signs dc_is_signs pm_is_signs cd_is_signs ct_is_signs oc_is_text kV_is_text dc_is_text pm_is_text cd_is_text ct_is_text oc_is_name kV_is_name dc_is_name pm_is_name cd_is_name ct_is_name oc__is_name kV__is_name dc__is_name pm__is_name cd__is_name ct__is_name oc__is_name_or_none kV__is_name_or_none dc__is_name_or_none pm__is_name_or_none cd__is_name_or_none ct__is_name_or_none oc__is_bool kV__is_bool dc__is_bool pm__is_bool cd__is_bool ct__is_bool oc__is_count kV__is_count dc__is_count pm__is_count cd__is_count ct__is_count oc__is_body kV__is_body dc__is_body pm__is_body cd__is_body ct__is_body oc__is_priority kV__is_priority dc__is_priority pm__is_priority cd__is_priority ct__is_priority oc__is_wait kV__is_wait dc__is_wait pm__is_wait cd__is_wait ct__is_wait oc__is_number kV__is_number dc__is_number pm__is_number cd__is_number ct__is_number oc__is_tries kV__is_tries dc__is_tries pm__is_tries cd__is_tries ct__is_tries oc_fits kV_fits dc_fits pm_fits cd_fits ct_fits oc_is_item kV_is_item dc_is_item pm_is_item cd_is_item ct_is_item oc_is_token kV_is_token dc_is_token pm_is_token cd_is_token ct_is_token oc_is_sending kV_is_sending dc_is_sending pm_is_sending cd_is_sending ct_is_sending oc__is_made kV__is_made dc__is_made pm__is_made cd__is_made ct__is_made oc_is_command kV_is_command dc_is_command pm_is_command cd_is_command ct_is_command oc__law_cell kV__law_cell dc__law_cell pm__law_cell cd__law_cell ct__law_cell oc__law_box kV__law_box dc__law_box pm__law_box cd__law_box ct__law_box oc__law_take kV__law_take dc__law_take pm__law_take cd__law_take ct__law_take oc__law_name kV__law_name dc__law_name pm__law_name cd__law_name ct__law_name oc__law_text kV__law_text dc__law_text pm__law_text cd__law_text ct__law_text oc__law_item kV__law_item dc__law_item pm__law_item cd__law_item ct__law_item oc__law_odd kV__law_odd dc__law_odd pm__law_odd cd__law_odd ct__law_odd oc__law_within kV__law_within dc__law_within pm__law_within cd__law_within ct__law_within oc__law_is_name kV__law_is_name dc__law_is_name pm__law_is_name cd__law_is_name ct__law_is_name oc__law_is_body kV__law_is_body dc__law_is_body pm__law_is_body cd__law_is_body ct__law_is_body oc__law_is_token kV__law_is_token dc__law_is_token pm__law_is_token cd__law_is_token ct__law_is_token oc__law_is_item kV__law_is_item dc__law_is_item pm__law_is_item cd__law_is_item ct__law_is_item oc__law_items kV__law_items dc__law_items pm__law_items cd__law_items ct__law_items oc__law_number kV__law_number dc__law_number pm__law_number cd__law_number ct__law_number oc__law_token kV__law_token dc__law_token pm__law_token cd__law_token ct__law_token oc__law_command kV__law_command dc__law_command pm__law_command cd__law_command ct__law_command oc__law_are_items kV__law_are_items dc__law_are_items pm__law_are_items cd__law_are_items ct__law_are_items oc__law_is_command kV__law_is_command dc__law_is_command pm__law_is_command cd__law_is_command ct__law_is_command oc__law_shape kV__law_shape dc__law_shape pm__law_shape cd__law_shape ct__law_shape oc__law_spoiled kV__law_spoiled dc__law_spoiled pm__law_spoiled cd__law_spoiled ct__law_spoiled oc__law_within_last kV__law_within_last dc__law_within_last pm__law_within_last cd__law_within_last ct__law_within_last oc__law_told kV__law_told dc__law_told pm__law_told cd__law_told ct__law_told oc__law_renamed kV__law_renamed dc__law_renamed pm__law_renamed cd__law_renamed ct__law_renamed oc__law_right kV__law_right dc__law_right pm__law_right cd__law_right ct__law_right oc_law kV_law dc_law pm_law cd_law ct_law : Value} {a_COMMANDS : Addr} {es_COMMANDS : Array DictEntry} {ne_COMMANDS : Nat} {a_COMMANDS_0 : Addr} {ot_COMMANDS_0 : Option Addr} {nt_COMMANDS_0 : Nat} {st_COMMANDS_0 : Array (Option Value)} {a_COMMANDS_1 : Addr} {ot_COMMANDS_1 : Option Addr} {nt_COMMANDS_1 : Nat} {st_COMMANDS_1 : Array (Option Value)} {a_COMMANDS_2 : Addr} {ot_COMMANDS_2 : Option Addr} {nt_COMMANDS_2 : Nat} {st_COMMANDS_2 : Array (Option Value)} {a_COMMANDS_3 : Addr} {ot_COMMANDS_3 : Option Addr} {nt_COMMANDS_3 : Nat} {st_COMMANDS_3 : Array (Option Value)} {a_COMMANDS_4 : Addr} {ot_COMMANDS_4 : Option Addr} {nt_COMMANDS_4 : Nat} {st_COMMANDS_4 : Array (Option Value)} {a_COMMANDS_5 : Addr} {ot_COMMANDS_5 : Option Addr} {nt_COMMANDS_5 : Nat} {st_COMMANDS_5 : Array (Option Value)} {t_GREATEST : Tok} {t_HIGHEST_PRIORITY : Tok} {a_ITEM : Addr} {ot_ITEM : Option Addr} {nt_ITEM : Nat} {st_ITEM : Array (Option Value)} {t_LONGEST_WAIT : Tok} {t_MOST_OF_BODY : Tok} {t_MOST_OF_ITEMS : Tok} {t_MOST_OF_NAME : Tok} {t_MOST_TRIES : Tok} {a_TOKEN : Addr} {ot_TOKEN : Option Addr} {nt_TOKEN : Nat} {st_TOKEN : Array (Option Value)}
    (a_is_integer : PySem.W.nsIn K mainGlobals "is_integer" = some (some (.ref f_is_integer)))
    (l_is_integer : K.lookup f_is_integer = some ⟨oc_is_integer, od_is_integer, .func (PySem.W.fnOf "is_integer" "is_integer" (defArgs s_is_integer) (defBody s_is_integer) (defScope s_is_integer) .none kV_is_integer dc_is_integer pm_is_integer an_is_integer cd_is_integer ct_is_integer), sl_is_integer⟩)
    (c_is_integer : PySem.W.codeIn K cd_is_integer "is_integer" = true)
    (k_is_integer : PySem.W.keepIn K (.ref f_is_integer) = true)
    (a_is_between : PySem.W.nsIn K mainGlobals "is_between" = some (some (.ref f_is_between)))
    (l_is_between : K.lookup f_is_between = some ⟨oc_is_between, od_is_between, .func (PySem.W.fnOf "is_between" "is_between" (defArgs s_is_between) (defBody s_is_between) (defScope s_is_between) .none kV_is_between dc_is_between pm_is_between an_is_between cd_is_between ct_is_between), sl_is_between⟩)
    (c_is_between : PySem.W.codeIn K cd_is_between "is_between" = true)
    (k_is_between : PySem.W.keepIn K (.ref f_is_between) = true)
    (a_has_word : PySem.W.nsIn K mainGlobals "has_word" = some (some (.ref f_has_word)))
    (l_has_word : K.lookup f_has_word = some ⟨oc_has_word, od_has_word, .func (PySem.W.fnOf "has_word" "has_word" (defArgs s_has_word) (defBody s_has_word) (defScope s_has_word) .none kV_has_word dc_has_word pm_has_word an_has_word cd_has_word ct_has_word), sl_has_word⟩)
    (c_has_word : PySem.W.codeIn K cd_has_word "has_word" = true)
    (k_has_word : PySem.W.keepIn K (.ref f_has_word) = true)
    (a_is_signs : PySem.W.nsIn K mainGlobals "is_signs" = some (some (.ref f_is_signs)))
    (l_is_signs : K.lookup f_is_signs = some ⟨oc_is_signs, od_is_signs, .func (PySem.W.fnOf "is_signs" "is_signs" (defArgs s_is_signs) (defBody s_is_signs) (defScope s_is_signs) .none kV_is_signs dc_is_signs pm_is_signs an_is_signs cd_is_signs ct_is_signs), sl_is_signs⟩)
    (c_is_signs : PySem.W.codeIn K cd_is_signs "is_signs" = true)
    (k_is_signs : PySem.W.keepIn K (.ref f_is_signs) = true)
    (a_is_text : PySem.W.nsIn K mainGlobals "is_text" = some (some (.ref f_is_text)))
    (l_is_text : K.lookup f_is_text = some ⟨oc_is_text, od_is_text, .func (PySem.W.fnOf "is_text" "is_text" (defArgs s_is_text) (defBody s_is_text) (defScope s_is_text) .none kV_is_text dc_is_text pm_is_text an_is_text cd_is_text ct_is_text), sl_is_text⟩)
    (c_is_text : PySem.W.codeIn K cd_is_text "is_text" = true)
    (k_is_text : PySem.W.keepIn K (.ref f_is_text) = true)
    (a_is_name : PySem.W.nsIn K mainGlobals "is_name" = some (some (.ref f_is_name)))
    (l_is_name : K.lookup f_is_name = some ⟨oc_is_name, od_is_name, .func (PySem.W.fnOf "is_name" "is_name" (defArgs s_is_name) (defBody s_is_name) (defScope s_is_name) .none kV_is_name dc_is_name pm_is_name an_is_name cd_is_name ct_is_name), sl_is_name⟩)
    (c_is_name : PySem.W.codeIn K cd_is_name "is_name" = true)
    (k_is_name : PySem.W.keepIn K (.ref f_is_name) = true)
    (a__is_name : PySem.W.nsIn K mainGlobals "_is_name" = some (some (.ref f__is_name)))
    (l__is_name : K.lookup f__is_name = some ⟨oc__is_name, od__is_name, .func (PySem.W.fnOf "_is_name" "_is_name" (defArgs s__is_name) (defBody s__is_name) (defScope s__is_name) .none kV__is_name dc__is_name pm__is_name an__is_name cd__is_name ct__is_name), sl__is_name⟩)
    (c__is_name : PySem.W.codeIn K cd__is_name "_is_name" = true)
    (k__is_name : PySem.W.keepIn K (.ref f__is_name) = true)
    (a__is_name_or_none : PySem.W.nsIn K mainGlobals "_is_name_or_none" = some (some (.ref f__is_name_or_none)))
    (l__is_name_or_none : K.lookup f__is_name_or_none = some ⟨oc__is_name_or_none, od__is_name_or_none, .func (PySem.W.fnOf "_is_name_or_none" "_is_name_or_none" (defArgs s__is_name_or_none) (defBody s__is_name_or_none) (defScope s__is_name_or_none) .none kV__is_name_or_none dc__is_name_or_none pm__is_name_or_none an__is_name_or_none cd__is_name_or_none ct__is_name_or_none), sl__is_name_or_none⟩)
    (c__is_name_or_none : PySem.W.codeIn K cd__is_name_or_none "_is_name_or_none" = true)
    (k__is_name_or_none : PySem.W.keepIn K (.ref f__is_name_or_none) = true)
    (a__is_bool : PySem.W.nsIn K mainGlobals "_is_bool" = some (some (.ref f__is_bool)))
    (l__is_bool : K.lookup f__is_bool = some ⟨oc__is_bool, od__is_bool, .func (PySem.W.fnOf "_is_bool" "_is_bool" (defArgs s__is_bool) (defBody s__is_bool) (defScope s__is_bool) .none kV__is_bool dc__is_bool pm__is_bool an__is_bool cd__is_bool ct__is_bool), sl__is_bool⟩)
    (c__is_bool : PySem.W.codeIn K cd__is_bool "_is_bool" = true)
    (k__is_bool : PySem.W.keepIn K (.ref f__is_bool) = true)
    (a__is_count : PySem.W.nsIn K mainGlobals "_is_count" = some (some (.ref f__is_count)))
    (l__is_count : K.lookup f__is_count = some ⟨oc__is_count, od__is_count, .func (PySem.W.fnOf "_is_count" "_is_count" (defArgs s__is_count) (defBody s__is_count) (defScope s__is_count) .none kV__is_count dc__is_count pm__is_count an__is_count cd__is_count ct__is_count), sl__is_count⟩)
    (c__is_count : PySem.W.codeIn K cd__is_count "_is_count" = true)
    (k__is_count : PySem.W.keepIn K (.ref f__is_count) = true)
    (a__is_body : PySem.W.nsIn K mainGlobals "_is_body" = some (some (.ref f__is_body)))
    (l__is_body : K.lookup f__is_body = some ⟨oc__is_body, od__is_body, .func (PySem.W.fnOf "_is_body" "_is_body" (defArgs s__is_body) (defBody s__is_body) (defScope s__is_body) .none kV__is_body dc__is_body pm__is_body an__is_body cd__is_body ct__is_body), sl__is_body⟩)
    (c__is_body : PySem.W.codeIn K cd__is_body "_is_body" = true)
    (k__is_body : PySem.W.keepIn K (.ref f__is_body) = true)
    (a__is_priority : PySem.W.nsIn K mainGlobals "_is_priority" = some (some (.ref f__is_priority)))
    (l__is_priority : K.lookup f__is_priority = some ⟨oc__is_priority, od__is_priority, .func (PySem.W.fnOf "_is_priority" "_is_priority" (defArgs s__is_priority) (defBody s__is_priority) (defScope s__is_priority) .none kV__is_priority dc__is_priority pm__is_priority an__is_priority cd__is_priority ct__is_priority), sl__is_priority⟩)
    (c__is_priority : PySem.W.codeIn K cd__is_priority "_is_priority" = true)
    (k__is_priority : PySem.W.keepIn K (.ref f__is_priority) = true)
    (a__is_wait : PySem.W.nsIn K mainGlobals "_is_wait" = some (some (.ref f__is_wait)))
    (l__is_wait : K.lookup f__is_wait = some ⟨oc__is_wait, od__is_wait, .func (PySem.W.fnOf "_is_wait" "_is_wait" (defArgs s__is_wait) (defBody s__is_wait) (defScope s__is_wait) .none kV__is_wait dc__is_wait pm__is_wait an__is_wait cd__is_wait ct__is_wait), sl__is_wait⟩)
    (c__is_wait : PySem.W.codeIn K cd__is_wait "_is_wait" = true)
    (k__is_wait : PySem.W.keepIn K (.ref f__is_wait) = true)
    (a__is_number : PySem.W.nsIn K mainGlobals "_is_number" = some (some (.ref f__is_number)))
    (l__is_number : K.lookup f__is_number = some ⟨oc__is_number, od__is_number, .func (PySem.W.fnOf "_is_number" "_is_number" (defArgs s__is_number) (defBody s__is_number) (defScope s__is_number) .none kV__is_number dc__is_number pm__is_number an__is_number cd__is_number ct__is_number), sl__is_number⟩)
    (c__is_number : PySem.W.codeIn K cd__is_number "_is_number" = true)
    (k__is_number : PySem.W.keepIn K (.ref f__is_number) = true)
    (a__is_tries : PySem.W.nsIn K mainGlobals "_is_tries" = some (some (.ref f__is_tries)))
    (l__is_tries : K.lookup f__is_tries = some ⟨oc__is_tries, od__is_tries, .func (PySem.W.fnOf "_is_tries" "_is_tries" (defArgs s__is_tries) (defBody s__is_tries) (defScope s__is_tries) .none kV__is_tries dc__is_tries pm__is_tries an__is_tries cd__is_tries ct__is_tries), sl__is_tries⟩)
    (c__is_tries : PySem.W.codeIn K cd__is_tries "_is_tries" = true)
    (k__is_tries : PySem.W.keepIn K (.ref f__is_tries) = true)
    (a_fits : PySem.W.nsIn K mainGlobals "fits" = some (some (.ref f_fits)))
    (l_fits : K.lookup f_fits = some ⟨oc_fits, od_fits, .func (PySem.W.fnOf "fits" "fits" (defArgs s_fits) (defBody s_fits) (defScope s_fits) .none kV_fits dc_fits pm_fits an_fits cd_fits ct_fits), sl_fits⟩)
    (c_fits : PySem.W.codeIn K cd_fits "fits" = true)
    (k_fits : PySem.W.keepIn K (.ref f_fits) = true)
    (a_is_item : PySem.W.nsIn K mainGlobals "is_item" = some (some (.ref f_is_item)))
    (l_is_item : K.lookup f_is_item = some ⟨oc_is_item, od_is_item, .func (PySem.W.fnOf "is_item" "is_item" (defArgs s_is_item) (defBody s_is_item) (defScope s_is_item) .none kV_is_item dc_is_item pm_is_item an_is_item cd_is_item ct_is_item), sl_is_item⟩)
    (c_is_item : PySem.W.codeIn K cd_is_item "is_item" = true)
    (k_is_item : PySem.W.keepIn K (.ref f_is_item) = true)
    (a_is_token : PySem.W.nsIn K mainGlobals "is_token" = some (some (.ref f_is_token)))
    (l_is_token : K.lookup f_is_token = some ⟨oc_is_token, od_is_token, .func (PySem.W.fnOf "is_token" "is_token" (defArgs s_is_token) (defBody s_is_token) (defScope s_is_token) .none kV_is_token dc_is_token pm_is_token an_is_token cd_is_token ct_is_token), sl_is_token⟩)
    (c_is_token : PySem.W.codeIn K cd_is_token "is_token" = true)
    (k_is_token : PySem.W.keepIn K (.ref f_is_token) = true)
    (a_is_sending : PySem.W.nsIn K mainGlobals "is_sending" = some (some (.ref f_is_sending)))
    (l_is_sending : K.lookup f_is_sending = some ⟨oc_is_sending, od_is_sending, .func (PySem.W.fnOf "is_sending" "is_sending" (defArgs s_is_sending) (defBody s_is_sending) (defScope s_is_sending) .none kV_is_sending dc_is_sending pm_is_sending an_is_sending cd_is_sending ct_is_sending), sl_is_sending⟩)
    (c_is_sending : PySem.W.codeIn K cd_is_sending "is_sending" = true)
    (k_is_sending : PySem.W.keepIn K (.ref f_is_sending) = true)
    (a__is_made : PySem.W.nsIn K mainGlobals "_is_made" = some (some (.ref f__is_made)))
    (l__is_made : K.lookup f__is_made = some ⟨oc__is_made, od__is_made, .func (PySem.W.fnOf "_is_made" "_is_made" (defArgs s__is_made) (defBody s__is_made) (defScope s__is_made) .none kV__is_made dc__is_made pm__is_made an__is_made cd__is_made ct__is_made), sl__is_made⟩)
    (c__is_made : PySem.W.codeIn K cd__is_made "_is_made" = true)
    (k__is_made : PySem.W.keepIn K (.ref f__is_made) = true)
    (a_is_command : PySem.W.nsIn K mainGlobals "is_command" = some (some (.ref f_is_command)))
    (l_is_command : K.lookup f_is_command = some ⟨oc_is_command, od_is_command, .func (PySem.W.fnOf "is_command" "is_command" (defArgs s_is_command) (defBody s_is_command) (defScope s_is_command) .none kV_is_command dc_is_command pm_is_command an_is_command cd_is_command ct_is_command), sl_is_command⟩)
    (c_is_command : PySem.W.codeIn K cd_is_command "is_command" = true)
    (k_is_command : PySem.W.keepIn K (.ref f_is_command) = true)
    (a__law_cell : PySem.W.nsIn K mainGlobals "_law_cell" = some (some (.ref f__law_cell)))
    (l__law_cell : K.lookup f__law_cell = some ⟨oc__law_cell, od__law_cell, .func (PySem.W.fnOf "_law_cell" "_law_cell" (defArgs s__law_cell) (defBody s__law_cell) (defScope s__law_cell) .none kV__law_cell dc__law_cell pm__law_cell an__law_cell cd__law_cell ct__law_cell), sl__law_cell⟩)
    (c__law_cell : PySem.W.codeIn K cd__law_cell "_law_cell" = true)
    (k__law_cell : PySem.W.keepIn K (.ref f__law_cell) = true)
    (a__law_box : PySem.W.nsIn K mainGlobals "_law_box" = some (some (.ref f__law_box)))
    (l__law_box : K.lookup f__law_box = some ⟨oc__law_box, od__law_box, .func (PySem.W.fnOf "_law_box" "_law_box" (defArgs s__law_box) (defBody s__law_box) (defScope s__law_box) .none kV__law_box dc__law_box pm__law_box an__law_box cd__law_box ct__law_box), sl__law_box⟩)
    (c__law_box : PySem.W.codeIn K cd__law_box "_law_box" = true)
    (k__law_box : PySem.W.keepIn K (.ref f__law_box) = true)
    (a__law_take : PySem.W.nsIn K mainGlobals "_law_take" = some (some (.ref f__law_take)))
    (l__law_take : K.lookup f__law_take = some ⟨oc__law_take, od__law_take, .func (PySem.W.fnOf "_law_take" "_law_take" (defArgs s__law_take) (defBody s__law_take) (defScope s__law_take) .none kV__law_take dc__law_take pm__law_take an__law_take cd__law_take ct__law_take), sl__law_take⟩)
    (c__law_take : PySem.W.codeIn K cd__law_take "_law_take" = true)
    (k__law_take : PySem.W.keepIn K (.ref f__law_take) = true)
    (a__law_name : PySem.W.nsIn K mainGlobals "_law_name" = some (some (.ref f__law_name)))
    (l__law_name : K.lookup f__law_name = some ⟨oc__law_name, od__law_name, .func (PySem.W.fnOf "_law_name" "_law_name" (defArgs s__law_name) (defBody s__law_name) (defScope s__law_name) .none kV__law_name dc__law_name pm__law_name an__law_name cd__law_name ct__law_name), sl__law_name⟩)
    (c__law_name : PySem.W.codeIn K cd__law_name "_law_name" = true)
    (k__law_name : PySem.W.keepIn K (.ref f__law_name) = true)
    (a__law_text : PySem.W.nsIn K mainGlobals "_law_text" = some (some (.ref f__law_text)))
    (l__law_text : K.lookup f__law_text = some ⟨oc__law_text, od__law_text, .func (PySem.W.fnOf "_law_text" "_law_text" (defArgs s__law_text) (defBody s__law_text) (defScope s__law_text) .none kV__law_text dc__law_text pm__law_text an__law_text cd__law_text ct__law_text), sl__law_text⟩)
    (c__law_text : PySem.W.codeIn K cd__law_text "_law_text" = true)
    (k__law_text : PySem.W.keepIn K (.ref f__law_text) = true)
    (a__law_item : PySem.W.nsIn K mainGlobals "_law_item" = some (some (.ref f__law_item)))
    (l__law_item : K.lookup f__law_item = some ⟨oc__law_item, od__law_item, .func (PySem.W.fnOf "_law_item" "_law_item" (defArgs s__law_item) (defBody s__law_item) (defScope s__law_item) .none kV__law_item dc__law_item pm__law_item an__law_item cd__law_item ct__law_item), sl__law_item⟩)
    (c__law_item : PySem.W.codeIn K cd__law_item "_law_item" = true)
    (k__law_item : PySem.W.keepIn K (.ref f__law_item) = true)
    (a__law_odd : PySem.W.nsIn K mainGlobals "_law_odd" = some (some (.ref f__law_odd)))
    (l__law_odd : K.lookup f__law_odd = some ⟨oc__law_odd, od__law_odd, .func (PySem.W.fnOf "_law_odd" "_law_odd" (defArgs s__law_odd) (defBody s__law_odd) (defScope s__law_odd) .none kV__law_odd dc__law_odd pm__law_odd an__law_odd cd__law_odd ct__law_odd), sl__law_odd⟩)
    (c__law_odd : PySem.W.codeIn K cd__law_odd "_law_odd" = true)
    (k__law_odd : PySem.W.keepIn K (.ref f__law_odd) = true)
    (a__law_within : PySem.W.nsIn K mainGlobals "_law_within" = some (some (.ref f__law_within)))
    (l__law_within : K.lookup f__law_within = some ⟨oc__law_within, od__law_within, .func (PySem.W.fnOf "_law_within" "_law_within" (defArgs s__law_within) (defBody s__law_within) (defScope s__law_within) .none kV__law_within dc__law_within pm__law_within an__law_within cd__law_within ct__law_within), sl__law_within⟩)
    (c__law_within : PySem.W.codeIn K cd__law_within "_law_within" = true)
    (k__law_within : PySem.W.keepIn K (.ref f__law_within) = true)
    (a__law_is_name : PySem.W.nsIn K mainGlobals "_law_is_name" = some (some (.ref f__law_is_name)))
    (l__law_is_name : K.lookup f__law_is_name = some ⟨oc__law_is_name, od__law_is_name, .func (PySem.W.fnOf "_law_is_name" "_law_is_name" (defArgs s__law_is_name) (defBody s__law_is_name) (defScope s__law_is_name) .none kV__law_is_name dc__law_is_name pm__law_is_name an__law_is_name cd__law_is_name ct__law_is_name), sl__law_is_name⟩)
    (c__law_is_name : PySem.W.codeIn K cd__law_is_name "_law_is_name" = true)
    (k__law_is_name : PySem.W.keepIn K (.ref f__law_is_name) = true)
    (a__law_is_body : PySem.W.nsIn K mainGlobals "_law_is_body" = some (some (.ref f__law_is_body)))
    (l__law_is_body : K.lookup f__law_is_body = some ⟨oc__law_is_body, od__law_is_body, .func (PySem.W.fnOf "_law_is_body" "_law_is_body" (defArgs s__law_is_body) (defBody s__law_is_body) (defScope s__law_is_body) .none kV__law_is_body dc__law_is_body pm__law_is_body an__law_is_body cd__law_is_body ct__law_is_body), sl__law_is_body⟩)
    (c__law_is_body : PySem.W.codeIn K cd__law_is_body "_law_is_body" = true)
    (k__law_is_body : PySem.W.keepIn K (.ref f__law_is_body) = true)
    (a__law_is_token : PySem.W.nsIn K mainGlobals "_law_is_token" = some (some (.ref f__law_is_token)))
    (l__law_is_token : K.lookup f__law_is_token = some ⟨oc__law_is_token, od__law_is_token, .func (PySem.W.fnOf "_law_is_token" "_law_is_token" (defArgs s__law_is_token) (defBody s__law_is_token) (defScope s__law_is_token) .none kV__law_is_token dc__law_is_token pm__law_is_token an__law_is_token cd__law_is_token ct__law_is_token), sl__law_is_token⟩)
    (c__law_is_token : PySem.W.codeIn K cd__law_is_token "_law_is_token" = true)
    (k__law_is_token : PySem.W.keepIn K (.ref f__law_is_token) = true)
    (a__law_is_item : PySem.W.nsIn K mainGlobals "_law_is_item" = some (some (.ref f__law_is_item)))
    (l__law_is_item : K.lookup f__law_is_item = some ⟨oc__law_is_item, od__law_is_item, .func (PySem.W.fnOf "_law_is_item" "_law_is_item" (defArgs s__law_is_item) (defBody s__law_is_item) (defScope s__law_is_item) .none kV__law_is_item dc__law_is_item pm__law_is_item an__law_is_item cd__law_is_item ct__law_is_item), sl__law_is_item⟩)
    (c__law_is_item : PySem.W.codeIn K cd__law_is_item "_law_is_item" = true)
    (k__law_is_item : PySem.W.keepIn K (.ref f__law_is_item) = true)
    (a__law_items : PySem.W.nsIn K mainGlobals "_law_items" = some (some (.ref f__law_items)))
    (l__law_items : K.lookup f__law_items = some ⟨oc__law_items, od__law_items, .func (PySem.W.fnOf "_law_items" "_law_items" (defArgs s__law_items) (defBody s__law_items) (defScope s__law_items) .none kV__law_items dc__law_items pm__law_items an__law_items cd__law_items ct__law_items), sl__law_items⟩)
    (c__law_items : PySem.W.codeIn K cd__law_items "_law_items" = true)
    (k__law_items : PySem.W.keepIn K (.ref f__law_items) = true)
    (a__law_number : PySem.W.nsIn K mainGlobals "_law_number" = some (some (.ref f__law_number)))
    (l__law_number : K.lookup f__law_number = some ⟨oc__law_number, od__law_number, .func (PySem.W.fnOf "_law_number" "_law_number" (defArgs s__law_number) (defBody s__law_number) (defScope s__law_number) .none kV__law_number dc__law_number pm__law_number an__law_number cd__law_number ct__law_number), sl__law_number⟩)
    (c__law_number : PySem.W.codeIn K cd__law_number "_law_number" = true)
    (k__law_number : PySem.W.keepIn K (.ref f__law_number) = true)
    (a__law_token : PySem.W.nsIn K mainGlobals "_law_token" = some (some (.ref f__law_token)))
    (l__law_token : K.lookup f__law_token = some ⟨oc__law_token, od__law_token, .func (PySem.W.fnOf "_law_token" "_law_token" (defArgs s__law_token) (defBody s__law_token) (defScope s__law_token) .none kV__law_token dc__law_token pm__law_token an__law_token cd__law_token ct__law_token), sl__law_token⟩)
    (c__law_token : PySem.W.codeIn K cd__law_token "_law_token" = true)
    (k__law_token : PySem.W.keepIn K (.ref f__law_token) = true)
    (a__law_command : PySem.W.nsIn K mainGlobals "_law_command" = some (some (.ref f__law_command)))
    (l__law_command : K.lookup f__law_command = some ⟨oc__law_command, od__law_command, .func (PySem.W.fnOf "_law_command" "_law_command" (defArgs s__law_command) (defBody s__law_command) (defScope s__law_command) .none kV__law_command dc__law_command pm__law_command an__law_command cd__law_command ct__law_command), sl__law_command⟩)
    (c__law_command : PySem.W.codeIn K cd__law_command "_law_command" = true)
    (k__law_command : PySem.W.keepIn K (.ref f__law_command) = true)
    (a__law_are_items : PySem.W.nsIn K mainGlobals "_law_are_items" = some (some (.ref f__law_are_items)))
    (l__law_are_items : K.lookup f__law_are_items = some ⟨oc__law_are_items, od__law_are_items, .func (PySem.W.fnOf "_law_are_items" "_law_are_items" (defArgs s__law_are_items) (defBody s__law_are_items) (defScope s__law_are_items) .none kV__law_are_items dc__law_are_items pm__law_are_items an__law_are_items cd__law_are_items ct__law_are_items), sl__law_are_items⟩)
    (c__law_are_items : PySem.W.codeIn K cd__law_are_items "_law_are_items" = true)
    (k__law_are_items : PySem.W.keepIn K (.ref f__law_are_items) = true)
    (a__law_is_command : PySem.W.nsIn K mainGlobals "_law_is_command" = some (some (.ref f__law_is_command)))
    (l__law_is_command : K.lookup f__law_is_command = some ⟨oc__law_is_command, od__law_is_command, .func (PySem.W.fnOf "_law_is_command" "_law_is_command" (defArgs s__law_is_command) (defBody s__law_is_command) (defScope s__law_is_command) .none kV__law_is_command dc__law_is_command pm__law_is_command an__law_is_command cd__law_is_command ct__law_is_command), sl__law_is_command⟩)
    (c__law_is_command : PySem.W.codeIn K cd__law_is_command "_law_is_command" = true)
    (k__law_is_command : PySem.W.keepIn K (.ref f__law_is_command) = true)
    (a__law_shape : PySem.W.nsIn K mainGlobals "_law_shape" = some (some (.ref f__law_shape)))
    (l__law_shape : K.lookup f__law_shape = some ⟨oc__law_shape, od__law_shape, .func (PySem.W.fnOf "_law_shape" "_law_shape" (defArgs s__law_shape) (defBody s__law_shape) (defScope s__law_shape) .none kV__law_shape dc__law_shape pm__law_shape an__law_shape cd__law_shape ct__law_shape), sl__law_shape⟩)
    (c__law_shape : PySem.W.codeIn K cd__law_shape "_law_shape" = true)
    (k__law_shape : PySem.W.keepIn K (.ref f__law_shape) = true)
    (a__law_spoiled : PySem.W.nsIn K mainGlobals "_law_spoiled" = some (some (.ref f__law_spoiled)))
    (l__law_spoiled : K.lookup f__law_spoiled = some ⟨oc__law_spoiled, od__law_spoiled, .func (PySem.W.fnOf "_law_spoiled" "_law_spoiled" (defArgs s__law_spoiled) (defBody s__law_spoiled) (defScope s__law_spoiled) .none kV__law_spoiled dc__law_spoiled pm__law_spoiled an__law_spoiled cd__law_spoiled ct__law_spoiled), sl__law_spoiled⟩)
    (c__law_spoiled : PySem.W.codeIn K cd__law_spoiled "_law_spoiled" = true)
    (k__law_spoiled : PySem.W.keepIn K (.ref f__law_spoiled) = true)
    (a__law_within_last : PySem.W.nsIn K mainGlobals "_law_within_last" = some (some (.ref f__law_within_last)))
    (l__law_within_last : K.lookup f__law_within_last = some ⟨oc__law_within_last, od__law_within_last, .func (PySem.W.fnOf "_law_within_last" "_law_within_last" (defArgs s__law_within_last) (defBody s__law_within_last) (defScope s__law_within_last) .none kV__law_within_last dc__law_within_last pm__law_within_last an__law_within_last cd__law_within_last ct__law_within_last), sl__law_within_last⟩)
    (c__law_within_last : PySem.W.codeIn K cd__law_within_last "_law_within_last" = true)
    (k__law_within_last : PySem.W.keepIn K (.ref f__law_within_last) = true)
    (a__law_told : PySem.W.nsIn K mainGlobals "_law_told" = some (some (.ref f__law_told)))
    (l__law_told : K.lookup f__law_told = some ⟨oc__law_told, od__law_told, .func (PySem.W.fnOf "_law_told" "_law_told" (defArgs s__law_told) (defBody s__law_told) (defScope s__law_told) .none kV__law_told dc__law_told pm__law_told an__law_told cd__law_told ct__law_told), sl__law_told⟩)
    (c__law_told : PySem.W.codeIn K cd__law_told "_law_told" = true)
    (k__law_told : PySem.W.keepIn K (.ref f__law_told) = true)
    (a__law_renamed : PySem.W.nsIn K mainGlobals "_law_renamed" = some (some (.ref f__law_renamed)))
    (l__law_renamed : K.lookup f__law_renamed = some ⟨oc__law_renamed, od__law_renamed, .func (PySem.W.fnOf "_law_renamed" "_law_renamed" (defArgs s__law_renamed) (defBody s__law_renamed) (defScope s__law_renamed) .none kV__law_renamed dc__law_renamed pm__law_renamed an__law_renamed cd__law_renamed ct__law_renamed), sl__law_renamed⟩)
    (c__law_renamed : PySem.W.codeIn K cd__law_renamed "_law_renamed" = true)
    (k__law_renamed : PySem.W.keepIn K (.ref f__law_renamed) = true)
    (a__law_right : PySem.W.nsIn K mainGlobals "_law_right" = some (some (.ref f__law_right)))
    (l__law_right : K.lookup f__law_right = some ⟨oc__law_right, od__law_right, .func (PySem.W.fnOf "_law_right" "_law_right" (defArgs s__law_right) (defBody s__law_right) (defScope s__law_right) .none kV__law_right dc__law_right pm__law_right an__law_right cd__law_right ct__law_right), sl__law_right⟩)
    (c__law_right : PySem.W.codeIn K cd__law_right "_law_right" = true)
    (k__law_right : PySem.W.keepIn K (.ref f__law_right) = true)
    (a_law : PySem.W.nsIn K mainGlobals "law" = some (some (.ref f_law)))
    (l_law : K.lookup f_law = some ⟨oc_law, od_law, .func (PySem.W.fnOf "law" "law" (defArgs s_law) (defBody s_law) (defScope s_law) .none kV_law dc_law pm_law an_law cd_law ct_law), sl_law⟩)
    (c_law : PySem.W.codeIn K cd_law "law" = true)
    (k_law : PySem.W.keepIn K (.ref f_law) = true)
    (z_abs : PySem.W.nsIn K mainGlobals "abs" = some none)
    (z_all : PySem.W.nsIn K mainGlobals "all" = some none)
    (z_bool : PySem.W.nsIn K mainGlobals "bool" = some none)
    (z_dict : PySem.W.nsIn K mainGlobals "dict" = some none)
    (z_int : PySem.W.nsIn K mainGlobals "int" = some none)
    (z_isinstance : PySem.W.nsIn K mainGlobals "isinstance" = some none)
    (z_len : PySem.W.nsIn K mainGlobals "len" = some none)
    (z_list : PySem.W.nsIn K mainGlobals "list" = some none)
    (z_max : PySem.W.nsIn K mainGlobals "max" = some none)
    (z_min : PySem.W.nsIn K mainGlobals "min" = some none)
    (z_range : PySem.W.nsIn K mainGlobals "range" = some none)
    (z_repr : PySem.W.nsIn K mainGlobals "repr" = some none)
    (z_str : PySem.W.nsIn K mainGlobals "str" = some none)
    (z_sum : PySem.W.nsIn K mainGlobals "sum" = some none)
    (z_tuple : PySem.W.nsIn K mainGlobals "tuple" = some none)
    (z_zip : PySem.W.nsIn K mainGlobals "zip" = some none)
    (v_COMMANDS : PySem.W.nsIn K mainGlobals "COMMANDS" = some (some (.ref a_COMMANDS)))
    (dl_COMMANDS : K.lookup a_COMMANDS = some ⟨.type "dict", none, .dict es_COMMANDS ne_COMMANDS, #[]⟩)
    (dk_COMMANDS : PySem.W.KeysLit w.params es_COMMANDS.toList)
    (do_COMMANDS : (a_COMMANDS == sysModules) = false)
    (de_COMMANDS : Ents es_COMMANDS.toList [("topic", .ref a_COMMANDS_0), ("group", .ref a_COMMANDS_1), ("send", .ref a_COMMANDS_2), ("done", .ref a_COMMANDS_3), ("failed", .ref a_COMMANDS_4), ("now", .ref a_COMMANDS_5)])
    (w_COMMANDS_5 : K.lookup a_COMMANDS_5 = some ⟨.type "tuple", ot_COMMANDS_5, .seq #[.ref f__is_count] nt_COMMANDS_5, st_COMMANDS_5⟩)
    (w_COMMANDS_4 : K.lookup a_COMMANDS_4 = some ⟨.type "tuple", ot_COMMANDS_4, .seq #[.ref f__is_name, .ref f__is_number, .ref f__is_tries] nt_COMMANDS_4, st_COMMANDS_4⟩)
    (w_COMMANDS_3 : K.lookup a_COMMANDS_3 = some ⟨.type "tuple", ot_COMMANDS_3, .seq #[.ref f__is_name, .ref f__is_number, .ref f_is_token, .ref f__is_made] nt_COMMANDS_3, st_COMMANDS_3⟩)
    (w_COMMANDS_2 : K.lookup a_COMMANDS_2 = some ⟨.type "tuple", ot_COMMANDS_2, .seq #[.ref f__is_name, .ref f__is_number, .ref f_is_sending] nt_COMMANDS_2, st_COMMANDS_2⟩)
    (w_COMMANDS_1 : K.lookup a_COMMANDS_1 = some ⟨.type "tuple", ot_COMMANDS_1, .seq #[.ref f__is_name, .ref f__is_name, .ref f__is_name_or_none] nt_COMMANDS_1, st_COMMANDS_1⟩)
    (w_COMMANDS_0 : K.lookup a_COMMANDS_0 = some ⟨.type "tuple", ot_COMMANDS_0, .seq #[.ref f__is_name, .ref f__is_bool] nt_COMMANDS_0, st_COMMANDS_0⟩)
    (v_GREATEST : PySem.W.nsIn K mainGlobals "GREATEST" = some (some (.int 999999999999 t_GREATEST)))
    (v_HIGHEST_PRIORITY : PySem.W.nsIn K mainGlobals "HIGHEST_PRIORITY" = some (some (.int 3 t_HIGHEST_PRIORITY)))
    (v_ITEM : PySem.W.nsIn K mainGlobals "ITEM" = some (some (.ref a_ITEM)))
    (w_ITEM : K.lookup a_ITEM = some ⟨.type "tuple", ot_ITEM, .seq #[.ref f__is_name, .ref f__is_name, .ref f__is_body, .ref f__is_priority, .ref f__is_wait, .ref f__is_wait] nt_ITEM, st_ITEM⟩)
    (v_LONGEST_WAIT : PySem.W.nsIn K mainGlobals "LONGEST_WAIT" = some (some (.int 50 t_LONGEST_WAIT)))
    (v_MOST_OF_BODY : PySem.W.nsIn K mainGlobals "MOST_OF_BODY" = some (some (.int 40 t_MOST_OF_BODY)))
    (v_MOST_OF_ITEMS : PySem.W.nsIn K mainGlobals "MOST_OF_ITEMS" = some (some (.int 4 t_MOST_OF_ITEMS)))
    (v_MOST_OF_NAME : PySem.W.nsIn K mainGlobals "MOST_OF_NAME" = some (some (.int 8 t_MOST_OF_NAME)))
    (v_MOST_TRIES : PySem.W.nsIn K mainGlobals "MOST_TRIES" = some (some (.int 4 t_MOST_TRIES)))
    (v_TOKEN : PySem.W.nsIn K mainGlobals "TOKEN" = some (some (.ref a_TOKEN)))
    (w_TOKEN : K.lookup a_TOKEN = some ⟨.type "tuple", ot_TOKEN, .seq #[.ref f__is_number, .ref f__is_number] nt_TOKEN, st_TOKEN⟩)
    : ∃ fd : FuncData, (∀ (s : Shared) (v : Value), BindsTo s fd ⟨[v], []⟩ [("_law_script", v)]) ∧ ∀ base : Heap, K.In base → base.Ns mainGlobals mg → (∃ mm, base.Ns sysModules mm) → FnG P w K mg base 15 fa fd ["_law_script"] (spM K mg 1 m_law) := by
  have e := hfa.symm.trans (PySem.W.mg_of X G a_law)
  cases e
  have T : Txt w K mg := ⟨PySem.W.mg_none_of X G z_abs,
    PySem.W.mg_none_of X G z_all,
    PySem.W.mg_none_of X G z_bool,
    PySem.W.mg_none_of X G z_dict,
    PySem.W.mg_none_of X G z_int,
    PySem.W.mg_none_of X G z_isinstance,
    PySem.W.mg_none_of X G z_len,
    PySem.W.mg_none_of X G z_list,
    PySem.W.mg_none_of X G z_max,
    PySem.W.mg_none_of X G z_min,
    PySem.W.mg_none_of X G z_range,
    PySem.W.mg_none_of X G z_repr,
    PySem.W.mg_none_of X G z_str,
    PySem.W.mg_none_of X G z_sum,
    PySem.W.mg_none_of X G z_tuple,
    PySem.W.mg_none_of X G z_zip,
    tab_mk (PySem.W.mg_of X G v_COMMANDS) dl_COMMANDS dk_COMMANDS do_COMMANDS de_COMMANDS (.cons ⟨rfl, .ref a_COMMANDS_0, rfl, fun _ => (den_ktup (us := [.ref f__is_name, .ref f__is_bool]) (xs := [.ref f__is_name, .ref f__is_bool]) w_COMMANDS_0 (by simp) (.cons rfl (.cons rfl .nil)) (.cons (.fn (PySem.W.mg_of X G a__is_name)) (.cons (.fn (PySem.W.mg_of X G a__is_bool)) .nil)))⟩ (.cons ⟨rfl, .ref a_COMMANDS_1, rfl, fun _ => (den_ktup (us := [.ref f__is_name, .ref f__is_name, .ref f__is_name_or_none]) (xs := [.ref f__is_name, .ref f__is_name, .ref f__is_name_or_none]) w_COMMANDS_1 (by simp) (.cons rfl (.cons rfl (.cons rfl .nil))) (.cons (.fn (PySem.W.mg_of X G a__is_name)) (.cons (.fn (PySem.W.mg_of X G a__is_name)) (.cons (.fn (PySem.W.mg_of X G a__is_name_or_none)) .nil))))⟩ (.cons ⟨rfl, .ref a_COMMANDS_2, rfl, fun _ => (den_ktup (us := [.ref f__is_name, .ref f__is_number, .ref f_is_sending]) (xs := [.ref f__is_name, .ref f__is_number, .ref f_is_sending]) w_COMMANDS_2 (by simp) (.cons rfl (.cons rfl (.cons rfl .nil))) (.cons (.fn (PySem.W.mg_of X G a__is_name)) (.cons (.fn (PySem.W.mg_of X G a__is_number)) (.cons (.fn (PySem.W.mg_of X G a_is_sending)) .nil))))⟩ (.cons ⟨rfl, .ref a_COMMANDS_3, rfl, fun _ => (den_ktup (us := [.ref f__is_name, .ref f__is_number, .ref f_is_token, .ref f__is_made]) (xs := [.ref f__is_name, .ref f__is_number, .ref f_is_token, .ref f__is_made]) w_COMMANDS_3 (by simp) (.cons rfl (.cons rfl (.cons rfl (.cons rfl .nil)))) (.cons (.fn (PySem.W.mg_of X G a__is_name)) (.cons (.fn (PySem.W.mg_of X G a__is_number)) (.cons (.fn (PySem.W.mg_of X G a_is_token)) (.cons (.fn (PySem.W.mg_of X G a__is_made)) .nil)))))⟩ (.cons ⟨rfl, .ref a_COMMANDS_4, rfl, fun _ => (den_ktup (us := [.ref f__is_name, .ref f__is_number, .ref f__is_tries]) (xs := [.ref f__is_name, .ref f__is_number, .ref f__is_tries]) w_COMMANDS_4 (by simp) (.cons rfl (.cons rfl (.cons rfl .nil))) (.cons (.fn (PySem.W.mg_of X G a__is_name)) (.cons (.fn (PySem.W.mg_of X G a__is_number)) (.cons (.fn (PySem.W.mg_of X G a__is_tries)) .nil))))⟩ (.cons ⟨rfl, .ref a_COMMANDS_5, rfl, fun _ => (den_ktup (us := [.ref f__is_count]) (xs := [.ref f__is_count]) w_COMMANDS_5 (by simp) (.cons rfl .nil) (.cons (.fn (PySem.W.mg_of X G a__is_count)) .nil))⟩ .nil)))))),
    ⟨_, PySem.W.mg_of X G v_GREATEST⟩,
    ⟨_, PySem.W.mg_of X G v_HIGHEST_PRIORITY⟩,
    ⟨_, PySem.W.mg_of X G v_ITEM, fun _ => (den_ktup (us := [.ref f__is_name, .ref f__is_name, .ref f__is_body, .ref f__is_priority, .ref f__is_wait, .ref f__is_wait]) (xs := [.ref f__is_name, .ref f__is_name, .ref f__is_body, .ref f__is_priority, .ref f__is_wait, .ref f__is_wait]) w_ITEM (by simp) (.cons rfl (.cons rfl (.cons rfl (.cons rfl (.cons rfl (.cons rfl .nil)))))) (.cons (.fn (PySem.W.mg_of X G a__is_name)) (.cons (.fn (PySem.W.mg_of X G a__is_name)) (.cons (.fn (PySem.W.mg_of X G a__is_body)) (.cons (.fn (PySem.W.mg_of X G a__is_priority)) (.cons (.fn (PySem.W.mg_of X G a__is_wait)) (.cons (.fn (PySem.W.mg_of X G a__is_wait)) .nil)))))))⟩,
    ⟨_, PySem.W.mg_of X G v_LONGEST_WAIT⟩,
    ⟨_, PySem.W.mg_of X G v_MOST_OF_BODY⟩,
    ⟨_, PySem.W.mg_of X G v_MOST_OF_ITEMS⟩,
    ⟨_, PySem.W.mg_of X G v_MOST_OF_NAME⟩,
    ⟨_, PySem.W.mg_of X G v_MOST_TRIES⟩,
    ⟨_, PySem.W.mg_of X G v_TOKEN, fun _ => (den_ktup (us := [.ref f__is_number, .ref f__is_number]) (xs := [.ref f__is_number, .ref f__is_number]) w_TOKEN (by simp) (.cons rfl (.cons rfl .nil)) (.cons (.fn (PySem.W.mg_of X G a__is_number)) (.cons (.fn (PySem.W.mg_of X G a__is_number)) .nil)))⟩⟩
  have F_is_integer := fun_mk (st := s_is_integer) l_is_integer c_is_integer k_is_integer
  have b_is_integer := F_is_integer.binds (ps := ["value"]) fun _ _ _ _ _ _ us hl => match us, hl with | [_], _ => rfl
  have F_is_between := fun_mk (st := s_is_between) l_is_between c_is_between k_is_between
  have b_is_between := F_is_between.binds (ps := ["value", "least", "most"]) fun _ _ _ _ _ _ us hl => match us, hl with | [_, _, _], _ => rfl
  have F_has_word := fun_mk (st := s_has_word) l_has_word c_has_word k_has_word
  have b_has_word := F_has_word.binds (ps := ["value"]) fun _ _ _ _ _ _ us hl => match us, hl with | [_], _ => rfl
  have F_is_signs := fun_mk (st := s_is_signs) l_is_signs c_is_signs k_is_signs
  have b_is_signs := F_is_signs.binds (ps := ["value"]) fun _ _ _ _ _ _ us hl => match us, hl with | [_], _ => rfl
  have F_is_text := fun_mk (st := s_is_text) l_is_text c_is_text k_is_text
  have b_is_text := F_is_text.binds (ps := ["value", "most"]) fun _ _ _ _ _ _ us hl => match us, hl with | [_, _], _ => rfl
  have F_is_name := fun_mk (st := s_is_name) l_is_name c_is_name k_is_name
  have b_is_name := F_is_name.binds (ps := ["value"]) fun _ _ _ _ _ _ us hl => match us, hl with | [_], _ => rfl
  have F__is_name := fun_mk (st := s__is_name) l__is_name c__is_name k__is_name
  have b__is_name := F__is_name.binds (ps := ["value"]) fun _ _ _ _ _ _ us hl => match us, hl with | [_], _ => rfl
  have F__is_name_or_none := fun_mk (st := s__is_name_or_none) l__is_name_or_none c__is_name_or_none k__is_name_or_none
  have b__is_name_or_none := F__is_name_or_none.binds (ps := ["value"]) fun _ _ _ _ _ _ us hl => match us, hl with | [_], _ => rfl
  have F__is_bool := fun_mk (st := s__is_bool) l__is_bool c__is_bool k__is_bool
  have b__is_bool := F__is_bool.binds (ps := ["value"]) fun _ _ _ _ _ _ us hl => match us, hl with | [_], _ => rfl
  have F__is_count := fun_mk (st := s__is_count) l__is_count c__is_count k__is_count
  have b__is_count := F__is_count.binds (ps := ["value"]) fun _ _ _ _ _ _ us hl => match us, hl with | [_], _ => rfl
  have F__is_body := fun_mk (st := s__is_body) l__is_body c__is_body k__is_body
  have b__is_body := F__is_body.binds (ps := ["value"]) fun _ _ _ _ _ _ us hl => match us, hl with | [_], _ => rfl
  have F__is_priority := fun_mk (st := s__is_priority) l__is_priority c__is_priority k__is_priority
  have b__is_priority := F__is_priority.binds (ps := ["value"]) fun _ _ _ _ _ _ us hl => match us, hl with | [_], _ => rfl
  have F__is_wait := fun_mk (st := s__is_wait) l__is_wait c__is_wait k__is_wait
  have b__is_wait := F__is_wait.binds (ps := ["value"]) fun _ _ _ _ _ _ us hl => match us, hl with | [_], _ => rfl
  have F__is_number := fun_mk (st := s__is_number) l__is_number c__is_number k__is_number
  have b__is_number := F__is_number.binds (ps := ["value"]) fun _ _ _ _ _ _ us hl => match us, hl with | [_], _ => rfl
  have F__is_tries := fun_mk (st := s__is_tries) l__is_tries c__is_tries k__is_tries
  have b__is_tries := F__is_tries.binds (ps := ["value"]) fun _ _ _ _ _ _ us hl => match us, hl with | [_], _ => rfl
  have F_fits := fun_mk (st := s_fits) l_fits c_fits k_fits
  have b_fits := F_fits.binds (ps := ["value", "form"]) fun _ _ _ _ _ _ us hl => match us, hl with | [_, _], _ => rfl
  have F_is_item := fun_mk (st := s_is_item) l_is_item c_is_item k_is_item
  have b_is_item := F_is_item.binds (ps := ["value"]) fun _ _ _ _ _ _ us hl => match us, hl with | [_], _ => rfl
  have F_is_token := fun_mk (st := s_is_token) l_is_token c_is_token k_is_token
  have b_is_token := F_is_token.binds (ps := ["value"]) fun _ _ _ _ _ _ us hl => match us, hl with | [_], _ => rfl
  have F_is_sending := fun_mk (st := s_is_sending) l_is_sending c_is_sending k_is_sending
  have b_is_sending := F_is_sending.binds (ps := ["value"]) fun _ _ _ _ _ _ us hl => match us, hl with | [_], _ => rfl
  have F__is_made := fun_mk (st := s__is_made) l__is_made c__is_made k__is_made
  have b__is_made := F__is_made.binds (ps := ["value"]) fun _ _ _ _ _ _ us hl => match us, hl with | [_], _ => rfl
  have F_is_command := fun_mk (st := s_is_command) l_is_command c_is_command k_is_command
  have b_is_command := F_is_command.binds (ps := ["value"]) fun _ _ _ _ _ _ us hl => match us, hl with | [_], _ => rfl
  have F__law_cell := fun_mk (st := s__law_cell) l__law_cell c__law_cell k__law_cell
  have b__law_cell := F__law_cell.binds (ps := ["_law_script", "_law_k"]) fun _ _ _ _ _ _ us hl => match us, hl with | [_, _], _ => rfl
  have F__law_box := fun_mk (st := s__law_box) l__law_box c__law_box k__law_box
  have b__law_box := F__law_box.binds (ps := ["_law_great"]) fun _ _ _ _ _ _ us hl => match us, hl with | [_], _ => rfl
  have F__law_take := fun_mk (st := s__law_take) l__law_take c__law_take k__law_take
  have b__law_take := F__law_take.binds (ps := ["_law_box_here", "_law_many"]) fun _ _ _ _ _ _ us hl => match us, hl with | [_, _], _ => rfl
  have F__law_name := fun_mk (st := s__law_name) l__law_name c__law_name k__law_name
  have b__law_name := F__law_name.binds (ps := ["_law_box_here"]) fun _ _ _ _ _ _ us hl => match us, hl with | [_], _ => rfl
  have F__law_text := fun_mk (st := s__law_text) l__law_text c__law_text k__law_text
  have b__law_text := F__law_text.binds (ps := ["_law_box_here", "_law_most"]) fun _ _ _ _ _ _ us hl => match us, hl with | [_, _], _ => rfl
  have F__law_item := fun_mk (st := s__law_item) l__law_item c__law_item k__law_item
  have b__law_item := F__law_item.binds (ps := ["_law_box_here"]) fun _ _ _ _ _ _ us hl => match us, hl with | [_], _ => rfl
  have F__law_odd := fun_mk (st := s__law_odd) l__law_odd c__law_odd k__law_odd
  have b__law_odd := F__law_odd.binds (ps := ["_law_box_here"]) fun _ _ _ _ _ _ us hl => match us, hl with | [_], _ => rfl
  have F__law_within := fun_mk (st := s__law_within) l__law_within c__law_within k__law_within
  have b__law_within := F__law_within.binds (ps := ["_law_value", "_law_least", "_law_most"]) fun _ _ _ _ _ _ us hl => match us, hl with | [_, _, _], _ => rfl
  have F__law_is_name := fun_mk (st := s__law_is_name) l__law_is_name c__law_is_name k__law_is_name
  have b__law_is_name := F__law_is_name.binds (ps := ["_law_value"]) fun _ _ _ _ _ _ us hl => match us, hl with | [_], _ => rfl
  have F__law_is_body := fun_mk (st := s__law_is_body) l__law_is_body c__law_is_body k__law_is_body
  have b__law_is_body := F__law_is_body.binds (ps := ["_law_value"]) fun _ _ _ _ _ _ us hl => match us, hl with | [_], _ => rfl
  have F__law_is_token := fun_mk (st := s__law_is_token) l__law_is_token c__law_is_token k__law_is_token
  have b__law_is_token := F__law_is_token.binds (ps := ["_law_value"]) fun _ _ _ _ _ _ us hl => match us, hl with | [_], _ => rfl
  have F__law_is_item := fun_mk (st := s__law_is_item) l__law_is_item c__law_is_item k__law_is_item
  have b__law_is_item := F__law_is_item.binds (ps := ["_law_value"]) fun _ _ _ _ _ _ us hl => match us, hl with | [_], _ => rfl
  have F__law_items := fun_mk (st := s__law_items) l__law_items c__law_items k__law_items
  have b__law_items := F__law_items.binds (ps := ["_law_box_here", "_law_least"]) fun _ _ _ _ _ _ us hl => match us, hl with | [_, _], _ => rfl
  have F__law_number := fun_mk (st := s__law_number) l__law_number c__law_number k__law_number
  have b__law_number := F__law_number.binds (ps := ["_law_box_here"]) fun _ _ _ _ _ _ us hl => match us, hl with | [_], _ => rfl
  have F__law_token := fun_mk (st := s__law_token) l__law_token c__law_token k__law_token
  have b__law_token := F__law_token.binds (ps := ["_law_box_here"]) fun _ _ _ _ _ _ us hl => match us, hl with | [_], _ => rfl
  have F__law_command := fun_mk (st := s__law_command) l__law_command c__law_command k__law_command
  have b__law_command := F__law_command.binds (ps := ["_law_box_here", "_law_way"]) fun _ _ _ _ _ _ us hl => match us, hl with | [_, _], _ => rfl
  have F__law_are_items := fun_mk (st := s__law_are_items) l__law_are_items c__law_are_items k__law_are_items
  have b__law_are_items := F__law_are_items.binds (ps := ["_law_value", "_law_least"]) fun _ _ _ _ _ _ us hl => match us, hl with | [_, _], _ => rfl
  have F__law_is_command := fun_mk (st := s__law_is_command) l__law_is_command c__law_is_command k__law_is_command
  have b__law_is_command := F__law_is_command.binds (ps := ["_law_value"]) fun _ _ _ _ _ _ us hl => match us, hl with | [_], _ => rfl
  have F__law_shape := fun_mk (st := s__law_shape) l__law_shape c__law_shape k__law_shape
  have b__law_shape := F__law_shape.binds (ps := ["_law_box_here", "_law_value"]) fun _ _ _ _ _ _ us hl => match us, hl with | [_, _], _ => rfl
  have F__law_spoiled := fun_mk (st := s__law_spoiled) l__law_spoiled c__law_spoiled k__law_spoiled
  have b__law_spoiled := F__law_spoiled.binds (ps := ["_law_box_here", "_law_value"]) fun _ _ _ _ _ _ us hl => match us, hl with | [_, _], _ => rfl
  have F__law_within_last := fun_mk (st := s__law_within_last) l__law_within_last c__law_within_last k__law_within_last
  have b__law_within_last := F__law_within_last.binds (ps := ["_law_box_here", "_law_value"]) fun _ _ _ _ _ _ us hl => match us, hl with | [_, _], _ => rfl
  have F__law_told := fun_mk (st := s__law_told) l__law_told c__law_told k__law_told
  have b__law_told := F__law_told.binds (ps := ["_law_answer", "_law_due"]) fun _ _ _ _ _ _ us hl => match us, hl with | [_, _], _ => rfl
  have F__law_renamed := fun_mk (st := s__law_renamed) l__law_renamed c__law_renamed k__law_renamed
  have b__law_renamed := F__law_renamed.binds (ps := ["_law_box_here", "_law_value"]) fun _ _ _ _ _ _ us hl => match us, hl with | [_, _], _ => rfl
  have F__law_right := fun_mk (st := s__law_right) l__law_right c__law_right k__law_right
  have b__law_right := F__law_right.binds (ps := ["_law_value"]) fun _ _ _ _ _ _ us hl => match us, hl with | [_], _ => rfl
  have F_law := fun_mk (st := s_law) l_law c_law k_law
  refine ⟨PySem.W.fnOf "law" "law" (defArgs s_law) (defBody s_law) (defScope s_law) .none kV_law dc_law pm_law an_law cd_law ct_law, fun s v => .of_eq rfl, fun base _ _ hsys => ?_⟩
  have G_is_integer := ok_is_integer (P := P) (w := w) (base := base) T F_is_integer
  have C_is_integer := cal_mk F_is_integer (PySem.W.mg_of X G a_is_integer) b_is_integer (np := 1) rfl G_is_integer
  have G_is_between := ok_is_between (P := P) (w := w) (base := base) T F_is_between C_is_integer
  have C_is_between := cal_mk F_is_between (PySem.W.mg_of X G a_is_between) b_is_between (np := 3) rfl G_is_between
  have G_has_word := ok_has_word (P := P) (w := w) (base := base) T F_has_word
  have C_has_word := cal_mk F_has_word (PySem.W.mg_of X G a_has_word) b_has_word (np := 1) rfl G_has_word
  have G_is_signs := ok_is_signs (P := P) (w := w) (base := base) T F_is_signs
  have C_is_signs := cal_mk F_is_signs (PySem.W.mg_of X G a_is_signs) b_is_signs (np := 1) rfl G_is_signs
  have G_is_text := ok_is_text (P := P) (w := w) (base := base) T F_is_text C_is_signs
  have C_is_text := cal_mk F_is_text (PySem.W.mg_of X G a_is_text) b_is_text (np := 2) rfl G_is_text
  have G_is_name := ok_is_name (P := P) (w := w) (base := base) T F_is_name C_is_text
  have C_is_name := cal_mk F_is_name (PySem.W.mg_of X G a_is_name) b_is_name (np := 1) rfl G_is_name
  have G__is_name := ok__is_name (P := P) (w := w) (base := base) T F__is_name C_is_name
  have C__is_name := cal_mk F__is_name (PySem.W.mg_of X G a__is_name) b__is_name (np := 1) rfl G__is_name
  have G__is_name_or_none := ok__is_name_or_none (P := P) (w := w) (base := base) T F__is_name_or_none C_is_name
  have C__is_name_or_none := cal_mk F__is_name_or_none (PySem.W.mg_of X G a__is_name_or_none) b__is_name_or_none (np := 1) rfl G__is_name_or_none
  have G__is_bool := ok__is_bool (P := P) (w := w) (base := base) T F__is_bool
  have C__is_bool := cal_mk F__is_bool (PySem.W.mg_of X G a__is_bool) b__is_bool (np := 1) rfl G__is_bool
  have G__is_count := ok__is_count (P := P) (w := w) (base := base) T F__is_count C_is_between
  have C__is_count := cal_mk F__is_count (PySem.W.mg_of X G a__is_count) b__is_count (np := 1) rfl G__is_count
  have G__is_body := ok__is_body (P := P) (w := w) (base := base) T F__is_body C_is_text
  have C__is_body := cal_mk F__is_body (PySem.W.mg_of X G a__is_body) b__is_body (np := 1) rfl G__is_body
  have G__is_priority := ok__is_priority (P := P) (w := w) (base := base) T F__is_priority C_is_between
  have C__is_priority := cal_mk F__is_priority (PySem.W.mg_of X G a__is_priority) b__is_priority (np := 1) rfl G__is_priority
  have G__is_wait := ok__is_wait (P := P) (w := w) (base := base) T F__is_wait C_is_between
  have C__is_wait := cal_mk F__is_wait (PySem.W.mg_of X G a__is_wait) b__is_wait (np := 1) rfl G__is_wait
  have G__is_number := ok__is_number (P := P) (w := w) (base := base) T F__is_number C_is_between
  have C__is_number := cal_mk F__is_number (PySem.W.mg_of X G a__is_number) b__is_number (np := 1) rfl G__is_number
  have G__is_tries := ok__is_tries (P := P) (w := w) (base := base) T F__is_tries C_is_between
  have C__is_tries := cal_mk F__is_tries (PySem.W.mg_of X G a__is_tries) b__is_tries (np := 1) rfl G__is_tries
  have S0 : ∀ n : Nat, Cal P w K mg base (4 + n) "fits" 2 (m_fits n) ∧
      Cal P w K mg base (4 + n) "is_item" 1 (m_is_item n) ∧
      Cal P w K mg base (4 + n) "is_token" 1 (m_is_token n) ∧
      Cal P w K mg base (4 + n) "is_sending" 1 (m_is_sending n) ∧
      Cal P w K mg base (4 + n) "_is_made" 1 (m__is_made n) := by
    intro n
    induction n with
    | zero => exact ⟨cal_none F_fits (PySem.W.mg_of X G a_fits) b_fits rfl, cal_none F_is_item (PySem.W.mg_of X G a_is_item) b_is_item rfl, cal_none F_is_token (PySem.W.mg_of X G a_is_token) b_is_token rfl, cal_none F_is_sending (PySem.W.mg_of X G a_is_sending) b_is_sending rfl, cal_none F__is_made (PySem.W.mg_of X G a__is_made) b__is_made rfl⟩
    | succ n ih =>
    obtain ⟨C_fits, C_is_item, C_is_token, C_is_sending, C__is_made⟩ := ih
    have C_tblF : ∀ z F, (tblF (m_is_token n) (m__is_made n) (m_is_sending n)) z = some F → Cal P w K mg base (4 + n) z 1 F := tblF_all _ _ _ (Q := fun z F => Cal P w K mg base (4 + n) z 1 F) (C__is_name.mono (Nat.le_trans (by decide : _ ≤ 4) (Nat.le_add_right 4 n))) (C__is_name_or_none.mono (Nat.le_trans (by decide : _ ≤ 4) (Nat.le_add_right 4 n))) (C__is_bool.mono (Nat.le_trans (by decide : _ ≤ 4) (Nat.le_add_right 4 n))) (C__is_count.mono (Nat.le_trans (by decide : _ ≤ 4) (Nat.le_add_right 4 n))) (C__is_body.mono (Nat.le_trans (by decide : _ ≤ 4) (Nat.le_add_right 4 n))) (C__is_priority.mono (Nat.le_trans (by decide : _ ≤ 4) (Nat.le_add_right 4 n))) (C__is_wait.mono (Nat.le_trans (by decide : _ ≤ 4) (Nat.le_add_right 4 n))) (C__is_number.mono (Nat.le_trans (by decide : _ ≤ 4) (Nat.le_add_right 4 n))) (C__is_tries.mono (Nat.le_trans (by decide : _ ≤ 4) (Nat.le_add_right 4 n))) C_is_token C__is_made C_is_sending
    exact ⟨cal_mk F_fits (PySem.W.mg_of X G a_fits) b_fits (np := 2) rfl (ok_fits (P := P) (w := w) (base := base) T F_fits (k := 4 + n) (Nat.le_add_right _ _) (m_fits n) (m_is_item n) (m_is_token n) (m_is_sending n) (m__is_made n) C_tblF),
      cal_mk F_is_item (PySem.W.mg_of X G a_is_item) b_is_item (np := 1) rfl (ok_is_item (P := P) (w := w) (base := base) T F_is_item (k := 4 + n) (Nat.le_add_right _ _) (m_fits n) (m_is_item n) (m_is_token n) (m_is_sending n) (m__is_made n) C_fits),
      cal_mk F_is_token (PySem.W.mg_of X G a_is_token) b_is_token (np := 1) rfl (ok_is_token (P := P) (w := w) (base := base) T F_is_token (k := 4 + n) (Nat.le_add_right _ _) (m_fits n) (m_is_item n) (m_is_token n) (m_is_sending n) (m__is_made n) C_fits),
      cal_mk F_is_sending (PySem.W.mg_of X G a_is_sending) b_is_sending (np := 1) rfl (ok_is_sending (P := P) (w := w) (base := base) T F_is_sending (k := 4 + n) (Nat.le_add_right _ _) (m_fits n) (m_is_item n) (m_is_token n) (m_is_sending n) (m__is_made n) C__is_made),
      cal_mk F__is_made (PySem.W.mg_of X G a__is_made) b__is_made (np := 1) rfl (ok__is_made (P := P) (w := w) (base := base) T F__is_made (k := 4 + n) (Nat.le_add_right _ _) (m_fits n) (m_is_item n) (m_is_token n) (m_is_sending n) (m__is_made n) C_is_item)⟩
  have C_fits : Cal P w K mg base 12 "fits" 2 (m_fits 8) := (S0 8).1
  have C_is_item : Cal P w K mg base 12 "is_item" 1 (m_is_item 8) := (S0 8).2.1
  have C_is_token : Cal P w K mg base 12 "is_token" 1 (m_is_token 8) := (S0 8).2.2.1
  have C_is_sending : Cal P w K mg base 12 "is_sending" 1 (m_is_sending 8) := (S0 8).2.2.2.1
  have C__is_made : Cal P w K mg base 12 "_is_made" 1 (m__is_made 8) := (S0 8).2.2.2.2
  have G_is_command := ok_is_command (P := P) (w := w) (base := base) T F_is_command C_has_word C_fits
  have C_is_command := cal_mk F_is_command (PySem.W.mg_of X G a_is_command) b_is_command (np := 1) rfl G_is_command
  have K_is_command := calK_mk F_is_command (PySem.W.mg_of X G a_is_command) (fun s u => .of_eq rfl) G_is_command
  have G__law_cell := ok__law_cell (P := P) (w := w) (base := base) T F__law_cell
  have C__law_cell := cal_mk F__law_cell (PySem.W.mg_of X G a__law_cell) b__law_cell (np := 2) rfl G__law_cell
  have G__law_box := ok__law_box (P := P) (w := w) (base := base) T F__law_box
  have C__law_box := cal_mk F__law_box (PySem.W.mg_of X G a__law_box) b__law_box (np := 1) rfl G__law_box
  have G__law_take := ok__law_take (P := P) (w := w) (base := base) T F__law_take
  have C__law_take := cal_mk F__law_take (PySem.W.mg_of X G a__law_take) b__law_take (np := 2) rfl G__law_take
  have G__law_name := ok__law_name (P := P) (w := w) (base := base) T F__law_name C__law_take
  have C__law_name := cal_mk F__law_name (PySem.W.mg_of X G a__law_name) b__law_name (np := 1) rfl G__law_name
  have G__law_text := ok__law_text (P := P) (w := w) (base := base) T F__law_text C__law_take
  have C__law_text := cal_mk F__law_text (PySem.W.mg_of X G a__law_text) b__law_text (np := 2) rfl G__law_text
  have G__law_item := ok__law_item (P := P) (w := w) (base := base) T F__law_item C__law_take C__law_text C__law_name
  have C__law_item := cal_mk F__law_item (PySem.W.mg_of X G a__law_item) b__law_item (np := 1) rfl G__law_item
  have G__law_odd := ok__law_odd (P := P) (w := w) (base := base) T F__law_odd C__law_take
  have C__law_odd := cal_mk F__law_odd (PySem.W.mg_of X G a__law_odd) b__law_odd (np := 1) rfl G__law_odd
  have G__law_within := ok__law_within (P := P) (w := w) (base := base) T F__law_within
  have C__law_within := cal_mk F__law_within (PySem.W.mg_of X G a__law_within) b__law_within (np := 3) rfl G__law_within
  have G__law_is_name := ok__law_is_name (P := P) (w := w) (base := base) T F__law_is_name
  have C__law_is_name := cal_mk F__law_is_name (PySem.W.mg_of X G a__law_is_name) b__law_is_name (np := 1) rfl G__law_is_name
  have G__law_is_body := ok__law_is_body (P := P) (w := w) (base := base) T F__law_is_body
  have C__law_is_body := cal_mk F__law_is_body (PySem.W.mg_of X G a__law_is_body) b__law_is_body (np := 1) rfl G__law_is_body
  have G__law_is_token := ok__law_is_token (P := P) (w := w) (base := base) T F__law_is_token C__law_within
  have C__law_is_token := cal_mk F__law_is_token (PySem.W.mg_of X G a__law_is_token) b__law_is_token (np := 1) rfl G__law_is_token
  have G__law_is_item := ok__law_is_item (P := P) (w := w) (base := base) T F__law_is_item C__law_is_body C__law_is_name C__law_within
  have C__law_is_item := cal_mk F__law_is_item (PySem.W.mg_of X G a__law_is_item) b__law_is_item (np := 1) rfl G__law_is_item
  have G__law_items := ok__law_items (P := P) (w := w) (base := base) T F__law_items C__law_take C__law_item
  have C__law_items := cal_mk F__law_items (PySem.W.mg_of X G a__law_items) b__law_items (np := 2) rfl G__law_items
  have G__law_number := ok__law_number (P := P) (w := w) (base := base) T F__law_number C__law_take
  have C__law_number := cal_mk F__law_number (PySem.W.mg_of X G a__law_number) b__law_number (np := 1) rfl G__law_number
  have G__law_token := ok__law_token (P := P) (w := w) (base := base) T F__law_token C__law_number
  have C__law_token := cal_mk F__law_token (PySem.W.mg_of X G a__law_token) b__law_token (np := 1) rfl G__law_token
  have G__law_command := ok__law_command (P := P) (w := w) (base := base) T F__law_command C__law_name C__law_take C__law_items C__law_number C__law_token
  have C__law_command := cal_mk F__law_command (PySem.W.mg_of X G a__law_command) b__law_command (np := 2) rfl G__law_command
  have G__law_are_items := ok__law_are_items (P := P) (w := w) (base := base) T F__law_are_items C__law_is_item
  have C__law_are_items := cal_mk F__law_are_items (PySem.W.mg_of X G a__law_are_items) b__law_are_items (np := 2) rfl G__law_are_items
  have G__law_is_command := ok__law_is_command (P := P) (w := w) (base := base) T F__law_is_command C__law_within C__law_is_name C__law_are_items C__law_is_token
  have C__law_is_command := cal_mk F__law_is_command (PySem.W.mg_of X G a__law_is_command) b__law_is_command (np := 1) rfl G__law_is_command
  have G__law_shape := ok__law_shape (P := P) (w := w) (base := base) T F__law_shape C__law_take
  have C__law_shape := cal_mk F__law_shape (PySem.W.mg_of X G a__law_shape) b__law_shape (np := 2) rfl G__law_shape
  have G__law_spoiled := ok__law_spoiled (P := P) (w := w) (base := base) T F__law_spoiled C__law_take C__law_odd
  have C__law_spoiled := cal_mk F__law_spoiled (PySem.W.mg_of X G a__law_spoiled) b__law_spoiled (np := 2) rfl G__law_spoiled
  have G__law_within_last := ok__law_within_last (P := P) (w := w) (base := base) T F__law_within_last C__law_odd C__law_take C__law_spoiled C__law_shape
  have C__law_within_last := cal_mk F__law_within_last (PySem.W.mg_of X G a__law_within_last) b__law_within_last (np := 2) rfl G__law_within_last
  have G__law_told := ok__law_told (P := P) (w := w) (base := base) T F__law_told
  have C__law_told := cal_mk F__law_told (PySem.W.mg_of X G a__law_told) b__law_told (np := 2) rfl G__law_told
  have G__law_renamed := ok__law_renamed (P := P) (w := w) (base := base) T F__law_renamed C__law_take
  have C__law_renamed := cal_mk F__law_renamed (PySem.W.mg_of X G a__law_renamed) b__law_renamed (np := 2) rfl G__law_renamed
  have G__law_right := ok__law_right (P := P) (w := w) (base := base) T F__law_right hsys C__law_is_command C__law_told C_is_command K_is_command
  have C__law_right := cal_mk F__law_right (PySem.W.mg_of X G a__law_right) b__law_right (np := 1) rfl G__law_right
  exact ok_law (P := P) (w := w) (base := base) T F_law C__law_box C__law_cell C__law_take C__law_command C__law_is_command C__law_within_last C__law_shape C__law_spoiled C__law_renamed C__law_item C__law_right
end K04
open PySem PySem.W PyProof.Rows in
set_option maxRecDepth 100000 in
set_option maxHeartbeats 0 in
theorem PySem.Challenge.cw_inorderonce_k04_commands_holds : PySem.Challenge.rw_inorderonce_k04_commands.Holds := by
  w_on; o_law; k_head; (case hw => w_witness2)
  k_fill
  refine M.walk_end (l := PySem.Challenge.rw_inorderonce_k04_commands) (F := K04.m_law) (k := 15) (x := "_law_script") rfl (by decide +kernel) rfl ⟨rfl, by decide, by decide⟩ (fun w h Y => PySem.W.kIn_of Y) K04.math ?Z
  case Z =>
    intro w mg fa h KX G hmg
    refine' K04.all_mk KX G hmg ?a_is_integer ?l_is_integer ?c_is_integer ?k_is_integer ?a_is_between ?l_is_between ?c_is_between ?k_is_between ?a_has_word ?l_has_word ?c_has_word ?k_has_word ?a_is_signs ?l_is_signs ?c_is_signs ?k_is_signs ?a_is_text ?l_is_text ?c_is_text ?k_is_text ?a_is_name ?l_is_name ?c_is_name ?k_is_name ?a__is_name ?l__is_name ?c__is_name ?k__is_name ?a__is_name_or_none ?l__is_name_or_none ?c__is_name_or_none ?k__is_name_or_none ?a__is_bool ?l__is_bool ?c__is_bool ?k__is_bool ?a__is_count ?l__is_count ?c__is_count ?k__is_count ?a__is_body ?l__is_body ?c__is_body ?k__is_body ?a__is_priority ?l__is_priority ?c__is_priority ?k__is_priority ?a__is_wait ?l__is_wait ?c__is_wait ?k__is_wait ?a__is_number ?l__is_number ?c__is_number ?k__is_number ?a__is_tries ?l__is_tries ?c__is_tries ?k__is_tries ?a_fits ?l_fits ?c_fits ?k_fits ?a_is_item ?l_is_item ?c_is_item ?k_is_item ?a_is_token ?l_is_token ?c_is_token ?k_is_token ?a_is_sending ?l_is_sending ?c_is_sending ?k_is_sending ?a__is_made ?l__is_made ?c__is_made ?k__is_made ?a_is_command ?l_is_command ?c_is_command ?k_is_command ?a__law_cell ?l__law_cell ?c__law_cell ?k__law_cell ?a__law_box ?l__law_box ?c__law_box ?k__law_box ?a__law_take ?l__law_take ?c__law_take ?k__law_take ?a__law_name ?l__law_name ?c__law_name ?k__law_name ?a__law_text ?l__law_text ?c__law_text ?k__law_text ?a__law_item ?l__law_item ?c__law_item ?k__law_item ?a__law_odd ?l__law_odd ?c__law_odd ?k__law_odd ?a__law_within ?l__law_within ?c__law_within ?k__law_within ?a__law_is_name ?l__law_is_name ?c__law_is_name ?k__law_is_name ?a__law_is_body ?l__law_is_body ?c__law_is_body ?k__law_is_body ?a__law_is_token ?l__law_is_token ?c__law_is_token ?k__law_is_token ?a__law_is_item ?l__law_is_item ?c__law_is_item ?k__law_is_item ?a__law_items ?l__law_items ?c__law_items ?k__law_items ?a__law_number ?l__law_number ?c__law_number ?k__law_number ?a__law_token ?l__law_token ?c__law_token ?k__law_token ?a__law_command ?l__law_command ?c__law_command ?k__law_command ?a__law_are_items ?l__law_are_items ?c__law_are_items ?k__law_are_items ?a__law_is_command ?l__law_is_command ?c__law_is_command ?k__law_is_command ?a__law_shape ?l__law_shape ?c__law_shape ?k__law_shape ?a__law_spoiled ?l__law_spoiled ?c__law_spoiled ?k__law_spoiled ?a__law_within_last ?l__law_within_last ?c__law_within_last ?k__law_within_last ?a__law_told ?l__law_told ?c__law_told ?k__law_told ?a__law_renamed ?l__law_renamed ?c__law_renamed ?k__law_renamed ?a__law_right ?l__law_right ?c__law_right ?k__law_right ?a_law ?l_law ?c_law ?k_law ?z_abs ?z_all ?z_bool ?z_dict ?z_int ?z_isinstance ?z_len ?z_list ?z_max ?z_min ?z_range ?z_repr ?z_str ?z_sum ?z_tuple ?z_zip ?v_COMMANDS ?dl_COMMANDS ?dk_COMMANDS ?do_COMMANDS ?de_COMMANDS ?w_COMMANDS_5 ?w_COMMANDS_4 ?w_COMMANDS_3 ?w_COMMANDS_2 ?w_COMMANDS_1 ?w_COMMANDS_0 ?v_GREATEST ?v_HIGHEST_PRIORITY ?v_ITEM ?w_ITEM ?v_LONGEST_WAIT ?v_MOST_OF_BODY ?v_MOST_OF_ITEMS ?v_MOST_OF_NAME ?v_MOST_TRIES ?v_TOKEN ?w_TOKEN
    (case a_is_integer => k_is)
    (case l_is_integer => k_is)
    (case c_is_integer => k_is)
    (case k_is_integer => k_is)
    (case a_is_between => k_is)
    (case l_is_between => k_is)
    (case c_is_between => k_is)
    (case k_is_between => k_is)
    (case a_has_word => k_is)
    (case l_has_word => k_is)
    (case c_has_word => k_is)
    (case k_has_word => k_is)
    (case a_is_signs => k_is)
    (case l_is_signs => k_is)
    (case c_is_signs => k_is)
    (case k_is_signs => k_is)
    (case a_is_text => k_is)
    (case l_is_text => k_is)
    (case c_is_text => k_is)
    (case k_is_text => k_is)
    (case a_is_name => k_is)
    (case l_is_name => k_is)
    (case c_is_name => k_is)
    (case k_is_name => k_is)
    (case a__is_name => k_is)
    (case l__is_name => k_is)
    (case c__is_name => k_is)
    (case k__is_name => k_is)
    (case a__is_name_or_none => k_is)
    (case l__is_name_or_none => k_is)
    (case c__is_name_or_none => k_is)
    (case k__is_name_or_none => k_is)
    (case a__is_bool => k_is)
    (case l__is_bool => k_is)
    (case c__is_bool => k_is)
    (case k__is_bool => k_is)
    (case a__is_count => k_is)
    (case l__is_count => k_is)
    (case c__is_count => k_is)
    (case k__is_count => k_is)
    (case a__is_body => k_is)
    (case l__is_body => k_is)
    (case c__is_body => k_is)
    (case k__is_body => k_is)
    (case a__is_priority => k_is)
    (case l__is_priority => k_is)
    (case c__is_priority => k_is)
    (case k__is_priority => k_is)
    (case a__is_wait => k_is)
    (case l__is_wait => k_is)
    (case c__is_wait => k_is)
    (case k__is_wait => k_is)
    (case a__is_number => k_is)
    (case l__is_number => k_is)
    (case c__is_number => k_is)
    (case k__is_number => k_is)
    (case a__is_tries => k_is)
    (case l__is_tries => k_is)
    (case c__is_tries => k_is)
    (case k__is_tries => k_is)
    (case a_fits => k_is)
    (case l_fits => k_is)
    (case c_fits => k_is)
    (case k_fits => k_is)
    (case a_is_item => k_is)
    (case l_is_item => k_is)
    (case c_is_item => k_is)
    (case k_is_item => k_is)
    (case a_is_token => k_is)
    (case l_is_token => k_is)
    (case c_is_token => k_is)
    (case k_is_token => k_is)
    (case a_is_sending => k_is)
    (case l_is_sending => k_is)
    (case c_is_sending => k_is)
    (case k_is_sending => k_is)
    (case a__is_made => k_is)
    (case l__is_made => k_is)
    (case c__is_made => k_is)
    (case k__is_made => k_is)
    (case a_is_command => k_is)
    (case l_is_command => k_is)
    (case c_is_command => k_is)
    (case k_is_command => k_is)
    (case a__law_cell => k_is)
    (case l__law_cell => k_is)
    (case c__law_cell => k_is)
    (case k__law_cell => k_is)
    (case a__law_box => k_is)
    (case l__law_box => k_is)
    (case c__law_box => k_is)
    (case k__law_box => k_is)
    (case a__law_take => k_is)
    (case l__law_take => k_is)
    (case c__law_take => k_is)
    (case k__law_take => k_is)
    (case a__law_name => k_is)
    (case l__law_name => k_is)
    (case c__law_name => k_is)
    (case k__law_name => k_is)
    (case a__law_text => k_is)
    (case l__law_text => k_is)
    (case c__law_text => k_is)
    (case k__law_text => k_is)
    (case a__law_item => k_is)
    (case l__law_item => k_is)
    (case c__law_item => k_is)
    (case k__law_item => k_is)
    (case a__law_odd => k_is)
    (case l__law_odd => k_is)
    (case c__law_odd => k_is)
    (case k__law_odd => k_is)
    (case a__law_within => k_is)
    (case l__law_within => k_is)
    (case c__law_within => k_is)
    (case k__law_within => k_is)
    (case a__law_is_name => k_is)
    (case l__law_is_name => k_is)
    (case c__law_is_name => k_is)
    (case k__law_is_name => k_is)
    (case a__law_is_body => k_is)
    (case l__law_is_body => k_is)
    (case c__law_is_body => k_is)
    (case k__law_is_body => k_is)
    (case a__law_is_token => k_is)
    (case l__law_is_token => k_is)
    (case c__law_is_token => k_is)
    (case k__law_is_token => k_is)
    (case a__law_is_item => k_is)
    (case l__law_is_item => k_is)
    (case c__law_is_item => k_is)
    (case k__law_is_item => k_is)
    (case a__law_items => k_is)
    (case l__law_items => k_is)
    (case c__law_items => k_is)
    (case k__law_items => k_is)
    (case a__law_number => k_is)
    (case l__law_number => k_is)
    (case c__law_number => k_is)
    (case k__law_number => k_is)
    (case a__law_token => k_is)
    (case l__law_token => k_is)
    (case c__law_token => k_is)
    (case k__law_token => k_is)
    (case a__law_command => k_is)
    (case l__law_command => k_is)
    (case c__law_command => k_is)
    (case k__law_command => k_is)
    (case a__law_are_items => k_is)
    (case l__law_are_items => k_is)
    (case c__law_are_items => k_is)
    (case k__law_are_items => k_is)
    (case a__law_is_command => k_is)
    (case l__law_is_command => k_is)
    (case c__law_is_command => k_is)
    (case k__law_is_command => k_is)
    (case a__law_shape => k_is)
    (case l__law_shape => k_is)
    (case c__law_shape => k_is)
    (case k__law_shape => k_is)
    (case a__law_spoiled => k_is)
    (case l__law_spoiled => k_is)
    (case c__law_spoiled => k_is)
    (case k__law_spoiled => k_is)
    (case a__law_within_last => k_is)
    (case l__law_within_last => k_is)
    (case c__law_within_last => k_is)
    (case k__law_within_last => k_is)
    (case a__law_told => k_is)
    (case l__law_told => k_is)
    (case c__law_told => k_is)
    (case k__law_told => k_is)
    (case a__law_renamed => k_is)
    (case l__law_renamed => k_is)
    (case c__law_renamed => k_is)
    (case k__law_renamed => k_is)
    (case a__law_right => k_is)
    (case l__law_right => k_is)
    (case c__law_right => k_is)
    (case k__law_right => k_is)
    (case a_law => k_is)
    (case l_law => k_is)
    (case c_law => k_is)
    (case k_law => k_is)
    (case z_abs => k_is)
    (case z_all => k_is)
    (case z_bool => k_is)
    (case z_dict => k_is)
    (case z_int => k_is)
    (case z_isinstance => k_is)
    (case z_len => k_is)
    (case z_list => k_is)
    (case z_max => k_is)
    (case z_min => k_is)
    (case z_range => k_is)
    (case z_repr => k_is)
    (case z_str => k_is)
    (case z_sum => k_is)
    (case z_tuple => k_is)
    (case z_zip => k_is)
    (case v_COMMANDS => k_is)
    (case dl_COMMANDS => k_is)
    (case dk_COMMANDS => k_keys)
    (case do_COMMANDS => decide)
    (case de_COMMANDS => repeat (first | exact .nil | refine .cons ⟨_, rfl, rfl⟩ ?_))
    (case w_COMMANDS_5 => k_is)
    (case w_COMMANDS_4 => k_is)
    (case w_COMMANDS_3 => k_is)
    (case w_COMMANDS_2 => k_is)
    (case w_COMMANDS_1 => k_is)
    (case w_COMMANDS_0 => k_is)
    (case v_GREATEST => k_is)
    (case v_HIGHEST_PRIORITY => k_is)
    (case v_ITEM => k_is)
    (case w_ITEM => k_is)
    (case v_LONGEST_WAIT => k_is)
    (case v_MOST_OF_BODY => k_is)
    (case v_MOST_OF_ITEMS => k_is)
    (case v_MOST_OF_NAME => k_is)
    (case v_MOST_TRIES => k_is)
    (case v_TOKEN => k_is)
    (case w_TOKEN => k_is)

