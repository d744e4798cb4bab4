import PyProof.Rows.All
import Wide.All
import OpenK.AllK
import Wide.FinOn
import HandS.ForMost
import HandS.Wide
import HandS.Style
import HandS.Codes
import HandS.Conv
import HandS.IsInst
import HandS.Zip
import HandS.Walk
import HandS.SetFor
import HandS.Strs
import HandS.NoneIn
import HandS.Deep
import HandS.TupLe
import KE.SortData
import HandS.TupAny
import PyProof.ReprRoads
import HandS.Iter
import HandS.Text
import HandS.Comp
import HandS.Dict
import KE.GoesNew
import KE.GoesMore
import HandS.Zip
import PyProof.LongRange
import PySem.Challenge.RW_bothdoors_k24_whole_back_and_in_pieces
set_option Elab.async false
set_option linter.all false
set_option maxRecDepth 100000
set_option maxHeartbeats 2000000
namespace Bd
open PySem PySem.Spec PyProof.Rows L2 HT
section
variable {prog : Program} {w : World} {A : Around} {E : Value → Shared → Prop} {s : Shared}
theorem sliceApplied_two {sl : Addr} {i : Int} {tk : Tok} {Q : Int × Int × Nat → Shared → Prop} (hs : s.heap.IsSliceOf sl .none .none (.int i tk)) (hi : i = 1 ∨ i = -1)
    (h : Q (if i = 1 then (0, 1, 2) else (1, -1, 2)) s) : wpAny (model prog w) A (Builtin.Slice.sliceApplied (.ref sl) (pure ((2 : Nat) : Int))) Q E s := by
  obtain ⟨os, hos, hcs, hds⟩ := id hs
  unfold Builtin.Slice.sliceApplied Builtin.Slice.sliceFields
  refine wpAny_bind (wpAny_bind (wpAny_field hos hds (x := .none) rfl (wpAny_bind (wpAny_field hos hds (x := .none) rfl (wpAny_bind (wpAny_field hos hds (x := .int i tk) rfl (wpAny_pure ?_)))))))
  refine wpAny_bind (slicePart_int ?_)
  rcases hi with rfl | rfl
  · show wpAny _ _ (if ((1 : Int) == 0) = true then _ else _) _ _ s
    rw [if_neg (by decide)]
    refine wpAny_bind (slicePart_none (wpAny_bind (slicePart_none (wpAny_bind (wpAny_pure ?_)))))
    exact wpAny_pure h
  · show wpAny _ _ (if ((-1 : Int) == 0) = true then _ else _) _ _ s
    rw [if_neg (by decide)]
    refine wpAny_bind (slicePart_none (wpAny_bind (slicePart_none (wpAny_bind (wpAny_pure ?_)))))
    exact wpAny_pure h
theorem getItem_pair_step {t sl : Addr} {x y : Value} {i : Int} {tk : Tok} {Q : Value → Shared → Prop} (ht : IsTup s.heap t #[x, y]) (hs : s.heap.IsSliceOf sl .none .none (.int i tk)) (hi : i = 1 ∨ i = -1)
    (h1 : i = 1 → Q (.ref t) s) (h2 : i = -1 → Q (.ref s.heap.objs.size) { s with heap := s.heap.push { cls := .type "tuple", data := .seq #[y, x] } }) :
    wpAny (model prog w) A (getItem (.ref t) (.ref sl)) Q E s := by
  have T : s.TypeIs (.ref sl) "slice" := let ⟨o, a, b, _⟩ := hs; ⟨o, a, b⟩
  unfold getItem; try with_reducible refine wpAny_holding ?_
  first | refine wpAny_bind (wpAny_pure ?_) | (skip; skip)
  refine wpAny_bind (wpAny_sequenceKey ht.typeIs (by decide) (wpAny_bind (wpAny_callSpecial?_slot (name := Str.ofString "__getitem__") ht.typeIs PyProof.Rows.slot_tuple_getitem (wpAny_call_entry PyProof.Rows.slot_tuple_getitem ht.typeIs entry_tuple_getitem ?_ (args_tuple_getitem _ _)))))
  show wpAny _ _ (Builtin.Tuple.tupleItemsOf (.ref t) >>= fun z => _) _ _ s
  refine wpAny_bind (tupleItemsOf_ ht (wpAny_bind (wpAny_typeOf T ?_)))
  rw [if_pos (by decide)]; refine wpAny_bind (sliceApplied_two hs hi ?_)
  rcases hi with rfl | rfl
  · rw [if_pos rfl]
    show wpAny _ _ (if (((0 : Int) == 0 && (1 : Int) == 1 && (2 : Nat) == 2)) = true then _ else _) _ _ s
    rw [if_pos (by decide)]; refine wpAny_bind ?_
    show wpAny _ _ (typeOf (.ref t) >>= fun z => pure (z == .type "tuple")) _ _ s
    refine wpAny_bind (wpAny_typeOf ht.typeIs (wpAny_pure ?_)); first | rw [if_pos (by decide)] | simp only [beq_self_eq_true, if_true]
    have h := h1 rfl
    first | exact wpAny_bind (wpAny_rule (wpAny_pure ⟨_, rfl, wpAny_pure h⟩)) | exact wpAny_bind (wpAny_rule (wpAny_bind (wpAny_pure (wpAny_pure ⟨_, rfl, wpAny_pure h⟩))))
  · rw [if_neg (by decide)]
    show wpAny _ _ (if (((1 : Int) == 0 && (-1 : Int) == 1 && (2 : Nat) == 2)) = true then _ else _) _ _ s
    rw [if_neg (by decide)]
    have e : ((List.range 2).filterMap fun (m : Nat) => (#[x, y] : Array Value)[((1 : Int) + (m : Int) * (-1)).toNat]?).toArray = #[y, x] := by rfl
    have z : sizeOk (.seq (#[y, x] : Array Value)) := by show (2 : Nat) ≤ sizeLine; decide
    rw [e]; have h := h2 rfl
    first | exact wpAny_bind (m := Builtin.Tuple.tupleExact _) (wpAny_newObj_type (wpAny_pure ⟨_, rfl, wpAny_pure h⟩) z) | exact wpAny_bind (m := Builtin.Tuple.tupleExact _) (wpAny_newObj_type (wpAny_bind (wpAny_pure (wpAny_pure ⟨_, rfl, wpAny_pure h⟩))) z) | exact wpAny_bind (wpAny_bind (m := Builtin.Tuple.tupleExact _) (wpAny_newObj_type (wpAny_pure (wpAny_pure ⟨_, rfl, wpAny_pure h⟩)) z)) | exact wpAny_bind (wpAny_bind (m := Builtin.Tuple.tupleExact _) (wpAny_newObj_type (wpAny_pure ⟨_, rfl, wpAny_pure h⟩) z))
end
section
variable {X : Cx}
/-! ### own rules -/
theorem op_powW : OpR X (binaryOp .Pow) (rI (fun i j => 0 ≤ j ∧ (Builtin.Int.intBits i : Int) * j ≤ 2 ^ 27) fun i j => .int (i ^ j.toNat)) :=
  opI fun _ _ _ _ _ _ _ hc q => pow_int hc.1 hc.2 q
/-- o[i] of a list, read for o[i] op= e -/
def rGetL (K : PySem.W.Frag) : V → V → Hp → VK → Prop := fun o i H Q => ∃ p xs k v, o = .ref p ∧ i = .int k ∧ 0 ≤ k ∧ SqL K H p xs ∧ atI xs k = some v ∧ Q v H
theorem get_list : PGet X (rGetL X.K) := by
  intro pins s σ H o i ov iv Q I ro ri h
  obtain ⟨p, xs, k, z, rfl, rfl, h0, hq, he, q⟩ := h
  cases ro
  obtain ⟨t, rfl⟩ := ri
  obtain ⟨its, r, pl, hz⟩ := I.list hq
  obtain ⟨j, h1, h2, h3, h4, h5⟩ := atI_get he
  obtain ⟨w, ew, rw'⟩ := r.get h2
  have hl := r.length
  have hn := line63
  have fin : EP X pins σ Q w s := ⟨z, H, I, rw', q⟩
  have hj : k.toNat = j := by
    rw [seqIndex_of h0 h5] at h1
    exact Option.some.inj h1
  exact wpAny_getItem_list pl.isList h0 (by omega) (by rw [hj]; simpa using ew) fin
/-- t[::e], t a pair, e 1 or -1 -/
def tStepT (K : PySem.W.Frag) (te ts : TE) : TE := fun σ H Q => te σ H fun x H1 => ts σ H1 fun y H2 => ∃ i a u v, y = .int i ∧ x = .ref a ∧ SqT K H2 a [u, v] ∧ (i = 1 ∨ i = -1) ∧ (i = 1 → Q (.ref a) H2) ∧ (i = -1 → ∀ p, H2 p = none → Q (.ref p) (upd H2 p (.tup [v, u])))
theorem pe_stepT {e st : Expr} {te ts : TE} {p3 pos : Pos} (he : PE X e te) (hst : PE X st ts) : PE X (.Subscript e (.Slice none none (some st) p3) pos) (tStepT X.K te ts) := by
  refine ⟨fun pins s σ H Q I h => ?_⟩
  refine Subscript_ (thn (he.run pins s σ H _ I h) fun v s1 ⟨x, H1, I1, r1, q⟩ => ?_)
  refine wpAny_Slice (thn (po_none.run pins s1 σ H1 (fun o H2 => o = none ∧ H2 = H1) I1 ⟨rfl, rfl⟩) fun vl s2 ⟨l, H2, I2, pl, el, e2⟩ => ?_)
  subst el e2
  refine thn (po_none.run pins s2 σ H2 (fun o H3 => o = none ∧ H3 = H2) I2 ⟨rfl, rfl⟩) fun vu s3 ⟨u, H3, I3, pu, eu, e3⟩ => ?_
  subst eu e3
  rw [evalPart_some]
  refine thn (hst.run pins s3 σ H3 _ I3 q) fun vs s4 ⟨y, H4, I4, r4, i, a, ux, vx, ey, ex, hx, hi, q1, q2⟩ => ?_
  subst ey ex
  cases r1
  obtain ⟨tk, rfl⟩ := r4
  cases pl
  cases pu
  have I5 : Inv X pins σ H4 { s4 with heap := s4.heap.push { cls := .type "slice", data := .fields #[.none, .none, .int i tk] } } := I4.kept (t' := s4.toks) fun b ob q => Heap.get?_push_of_some _ q
  obtain ⟨its, r, ht, hz⟩ := I5.tuple hx
  obtain ⟨wu, wv, rfl, ru, rv⟩ : ∃ wu wv, its = [wu, wv] ∧ RelV ux wu ∧ RelV vx wv := by
    cases r with
    | cons r1 r2 =>
      cases r2 with
      | cons r3 r4 =>
        cases r4
        exact ⟨_, _, rfl, r1, r3⟩
  show wpAny (model X.prog X.w) X.A (subscriptTail e (.Slice none none (some st) p3) (.ref a) (.ref s4.heap.objs.size)) (EP X pins σ Q) X.xe { s4 with heap := s4.heap.push { cls := .type "slice", data := .fields #[.none, .none, .int i tk] } }
  refine tail_any (ops := [.ref a, .ref s4.heap.objs.size]) ht.typeIs (PyProof.Rows.slot_tuple_getitem.lookup) ?_ (by with_unfolding_all rfl)
  refine getItem_pair_step (x := wu) (y := wv) ht (Heap.IsSliceOf.new _ _ _ _) hi (fun e1 => ?_) fun e1 => ?_
  · exact ⟨.ref _, _, I5, rfl, q1 e1⟩
  · refine ⟨.ref _, _, I5.laid (t' := s4.toks) (o := .tup [vx, ux]) (fun b ob q => Heap.get?_push_of_some _ q) (Nat.le_refl _) ?_, rfl, q2 e1 _ (I5.hok.fresh (Nat.le_refl _))⟩
    exact ⟨(by show 2 ≤ sizeLine; decide), _, .cons rv (.cons ru .nil), IsTup.new _ _⟩
end
/-! ### own calls -/
/-- a def of the module, by its promise -/
structure Ca (P : Program) (w : World) (K : PySem.W.Frag) (mg : Str → Option Value) (base : Heap) (k : Nat) (x : Str) (sp : Sp) : Prop where
  ex : ∃ (f : Addr) (fd : FuncData) (ps : List Str), FnOk P w K mg base CX0 k f fd ps sp ∧ mg x = some (.ref f) ∧ PySem.W.keepIn K (.ref f) = true ∧ Binds K fd ps []
/-- .. called by names alone -/
structure Ck (P : Program) (w : World) (K : PySem.W.Frag) (mg : Str → Option Value) (base : Heap) (k : Nat) (x : Str) (ks : List Str) (gV : List V → List V) (sp : Sp) : Prop where
  ex : ∃ (f : Addr) (fd : FuncData) (ps : List Str) (g : List Value → List Value), FnOk P w K mg base CX0 k f fd ps sp ∧ mg x = some (.ref f) ∧ PySem.W.keepIn K (.ref f) = true ∧
    (∀ (s : Shared) (ws : List Value), (g ws).length = ps.length → BindsTo s fd ⟨[], ks.zip ws⟩ (ps.zip (g ws))) ∧ ∀ {zs : List V} {ws : List Value}, Vals zs ws → Vals (gV zs) (g ws)
def tKw (sp : Sp) (gV : List V → List V) (tk : TA) : TE := fun σ H Q => tk σ H fun zs H1 => sp (gV zs) H1 Q E0
section
variable {X : Cx} {k j : Nat} {x : Str} {ks : List Str} {gV : List V → List V} {sp : Sp} {p pos : Pos} {e : Expr} {es : List Expr} {kws : List Keyword} {t tk : TA}
theorem pe_u (c : Ca X.prog X.w X.K X.mg X.base k x sp) (hr : Room j X.A) (hk : k ≤ j) (hg : Gl X x) (ha : PA X (e :: es) t)
    (hd : (x == ("__debug__" : Str)) = false := by decide) (h1 : starEach (e :: es) X.env = (false, eval e X.env) :: starEach es X.env := by rfl) (h2 : (backTo pos (starEach es X.env)).any (·.1) = false := by rfl) :
    PE X (.Call (.Name x p) (e :: es) [] pos) (tCall sp [] E0 t) := by
  obtain ⟨f, fd, ps, F, hm, kp, b⟩ := c.ex
  exact pe_call F (hr.mono hk) hg hm kp b .nil pass0 ha hd h1 h2
theorem pe_kw (c : Ck X.prog X.w X.K X.mg X.base k x ks gV sp) (hr : Room j X.A) (hk : k ≤ j) (hg : Gl X x) (ha : PK X kws tk)
    (h1 : (backToKw pos (keywordEach kws X.env)).all (·.1.isSome) = true := by rfl) (h2 : (backToKw pos (keywordEach kws X.env)).filterMap (·.1) = ks := by rfl)
    (hd : (x == ("__debug__" : Str)) = false := by decide) (h3 : ((backTo pos (starEach [] X.env)).any (·.1) || (backToKw pos (keywordEach kws X.env)).any (·.1.isNone)) = false := by rfl) :
    PE X (.Call (.Name x p) [] kws pos) (tKw sp gV tk) := by
  obtain ⟨f, fd, ps, g, F, hm, kp, b, br⟩ := c.ex
  refine ⟨fun pins s σ H Q I h => ?_⟩
  refine wpAny_Call_Name_kw (ld_glob I hg hm ?_ hd)
  refine PySem.W.callWith_KW0 (h₀ := X.base) I.ok.mod.kin kp h1 (thn (ha.run pos pins s σ H _ I h) fun ws s2 ⟨zs, H2, I2, rz, q2⟩ => ⟨I2.kIn, ?_⟩) h3
  rw [h2]
  have rg := br rz
  have hl : (g ws).length = ps.length := by rw [← rg.length]; exact F.len _ _ _ _ q2
  show wpAny _ _ (call (.ref f) [] (ks.zip ws)) _ _ _
  refine wpAny_call (codeAny_mono (F.run X.A X.stack s2 H2 ⟨[], ks.zip ws⟩ (g ws) (gV zs) Q E0 (hr.mono hk) I2.env0 (b s2 ws hl) rg q2) fun r s' hq => ?_)
  cases r with
  | error e => exact hq.elim
  | ok fl =>
    cases fl with
    | ret u => exact I2.after hq
    | next => exact hq.elim
    | brk => exact hq.elim
    | cont => exact hq.elim
end
/-- a statement, then the rest, with what holds between them -/
def tMid (t u : TS) : TS := fun D σ H => ∃ M : L2.St → Hp → Prop, t { D with nx := M } σ H ∧ ∀ σ' H', M σ' H' → u D σ' H'
theorem pss_mid {X : Cx} {st : Stmt} {rest : List Stmt} {t u : TS} (a : PS X st t) (b : PSs X rest u) : PSs X (st :: rest) (tMid t u) :=
  ⟨fun pins s σ H D I h => by
    obtain ⟨M, hm, hn⟩ := h
    refine wpAny_execs_cons (thn (a.run pins s σ H { D with nx := M } I hm) fun f s1 q => ?_)
    cases f with
    | next =>
      obtain ⟨σ1, H1, I1, q1⟩ := q
      exact b.run pins s1 σ1 H1 D I1 (hn σ1 H1 q1)
    | ret v => exact q
    | brk => exact q
    | cont => exact q⟩
/-! ### rules whose reading names the written part K alone (within comprehensions) -/
theorem opK {X : Cx} {f : Value → Value → Sem Value} (r : R2) (h : OpR X f r) : OpR X f r := h
theorem ixK {X : Cx} (r : R2) (h : IxR X r) : IxR X r := h
theorem clK {X : Cx} {f : Value} (r : List V → Hp → VK → Prop) (h : CallR X f r) : CallR X f r := h
theorem slK {X : Cx} (r : V → Option Int → Option Int → Hp → VK → Prop) (h : SlR X r) : SlR X r := h
def rLenK (K : PySem.W.Frag) : List V → Hp → VK → Prop := fun as H Q => ∃ p ys, as = [.ref p] ∧ (SqL K H p ys ∨ SqT K H p ys) ∧ Q (.int ys.length) H
def rListK (K : PySem.W.Frag) : List V → Hp → VK → Prop := fun as H Q => ∃ p ys, as = [.ref p] ∧ (SqL K H p ys ∨ SqT K H p ys) ∧ ∀ l, H l = none → Q (.ref l) (upd H l (.lst ys))
theorem teK {X : Cx} {e : Expr} (t : TE) (h : PE X e t) : PE X e t := h
end Bd
namespace Bd
open PySem PySem.Spec PyProof.Rows L2 HT
theorem ifT {c A B : Prop} [Decidable c] (hc : c) (h : A) : if c then A else B := by rw [if_pos hc]; exact h
theorem ifF {c A B : Prop} [Decidable c] (hc : ¬ c) (h : B) : if c then A else B := by rw [if_neg hc]; exact h
/-! ### heaps without some addresses -/
def hid (S : List Addr) (H : Hp) : Hp := fun b => if b ∈ S then none else H b
theorem hid_of {S : List Addr} {H : Hp} {b : Addr} {o : HO} (h : H b = some o) (n : b ∉ S) : hid S H b = some o := by
  unfold hid; rw [if_neg n]; exact h
theorem of_hid {S : List Addr} {H : Hp} {b : Addr} {o : HO} (h : hid S H b = some o) : H b = some o ∧ b ∉ S := by
  unfold hid at h
  by_cases n : b ∈ S
  · rw [if_pos n] at h; cases h
  · rw [if_neg n] at h; exact ⟨h, n⟩
theorem hid_none {S : List Addr} {H : Hp} {b : Addr} (h : H b = none) : hid S H b = none := by
  unfold hid; split <;> first | rfl | exact h
/-- kept but for the addresses of S -/
def Kp (S : List Addr) (H H' : Hp) : Prop := Same (hid S H) (hid S H')
theorem Kp.refl {S : List Addr} {H : Hp} : Kp S H H := fun _ _ h => h
theorem Kp.trans {S : List Addr} {H H1 H2 : Hp} (a : Kp S H H1) (b : Kp S H1 H2) : Kp S H H2 := fun x o h => b x o (a x o h)
theorem Kp.at {S : List Addr} {H H1 : Hp} (k : Kp S H H1) {b : Addr} {o : HO} (h : H b = some o) (n : b ∉ S) : H1 b = some o := (of_hid (k b o (hid_of h n))).1
theorem Kp.wr {S : List Addr} {H H1 : Hp} (k : Kp S H H1) {a : Addr} {o : HO} (n : a ∈ S) : Kp S H (upd H1 a o) := fun b u h => by
  obtain ⟨h1, h2⟩ := of_hid (k b u h)
  exact hid_of (by rw [upd_ne (fun (e : b = a) => h2 (by rw [e]; exact n))]; exact h1) h2
/-- something that H does not know is laid or written -/
theorem Kp.new {S : List Addr} {H H1 : Hp} (k : Kp S H H1) {p : Addr} {o : HO} (n : hid S H p = none) : Kp S H (upd H1 p o) := fun b u h => by
  obtain ⟨h1, h2⟩ := of_hid (k b u h)
  refine hid_of ?_ h2
  rw [upd_ne (fun e => by rw [e, n] at h; cases h)]
  exact h1
theorem Kp.same {S : List Addr} {H H1 : Hp} (k : Same H H1) : Kp S H H1 := fun b u h => by
  obtain ⟨h1, h2⟩ := of_hid h
  exact hid_of (k b u h1) h2
theorem Kp.sub {S S' : List Addr} {H H1 : Hp} (k : Kp S H H1) (h : ∀ b ∈ S, b ∉ S' → ∀ o, H b = some o → H1 b = some o) : Kp S' H H1 := fun b u e => by
  obtain ⟨h1, h2⟩ := of_hid e
  by_cases n : b ∈ S
  · exact hid_of (h b n h2 u h1) h2
  · exact hid_of (k.at h1 n) h2
/-- addresses that H does not know may be dropped from S -/
theorem Kp.drop {S S' : List Addr} {H H1 : Hp} (k : Kp S H H1) (h : ∀ b ∈ S, b ∉ S' → H b = none) : Kp S' H H1 :=
  k.sub fun b n n' o e => by rw [h b n n'] at e; cases e
theorem Kp.mono {S S' : List Addr} {H H1 : Hp} (k : Kp S H H1) (h : ∀ b ∈ S, b ∈ S') : Kp S' H H1 := k.sub fun b n n' => absurd (h b n) n'
theorem hid_same {S : List Addr} {H : Hp} : Same (hid S H) H := fun b o h => (of_hid h).1
theorem hid_sub {S S' : List Addr} {H : Hp} (h : ∀ b ∈ S', b ∈ S) : Same (hid S H) (hid S' H) := fun b o e => hid_of (of_hid e).1 fun n => (of_hid e).2 (h b n)
theorem same_new {H : Hp} {p : Addr} {o : HO} (h : H p = none) : Same H (upd H p o) := fun b x e => by
  rw [upd_ne (ne_of_none e h)]
  exact e
theorem ne_new {H : Hp} {a p : Addr} {o : HO} (h : H a = some o) (n : H p = none) : p ≠ a := fun e => by rw [e, h] at n; cases n
/-! ### data in a heap -/
theorem same_tup {K : PySem.W.Frag} {H H' : Hp} {a : Addr} {xs : List V} (e : Same H H') (h : SqT K H a xs) : SqT K H' a xs := by
  rcases h with (h | ⟨o, h⟩) | h
  · exact .inl (.inl (e _ _ h))
  · exact .inl (.inr ⟨o, e _ _ h⟩)
  · exact .inr h
mutual
theorem dp_same {K : PySem.W.Frag} {H H' : Hp} (k : Same H H') : ∀ {d : PyData} {v : V}, Dp K H v d → Dp K H' v d
  | .none, _, h => by cases h; exact .non
  | .bool b, _, h => by cases h; exact .bl b
  | .int i, _, h => by cases h; exact .int i
  | .str x, _, h => by cases h; exact .str x
  | .list ds, _, h => by
    cases h with
    | lst hs ha => exact .lst (k.seq hs) (dps_same k ha)
  | .tuple ds, _, h => by
    cases h with
    | tup hs ha => exact .tup (same_tup k hs) (dps_same k ha)
  | .dict _, _, h => by cases h
theorem dps_same {K : PySem.W.Frag} {H H' : Hp} (k : Same H H') : ∀ {ds : List PyData} {vs : List V}, DpAll K H vs ds → DpAll K H' vs ds
  | [], _, h => by cases h; exact .nil
  | d :: ds, _, h => by
    cases h with
    | cons h1 h2 => exact .cons (dp_same k h1) (dps_same k h2)
end
theorem dps_len {K : PySem.W.Frag} {H : Hp} : ∀ {ds : List PyData} {vs : List V}, DpAll K H vs ds → vs.length = ds.length
  | [], _, h => by cases h; rfl
  | d :: ds, _, h => by
    cases h with
    | cons h1 h2 => rw [List.length_cons, List.length_cons, dps_len h2]
theorem dps_at {K : PySem.W.Frag} {H : Hp} : ∀ {ds : List PyData} {vs : List V} {i : Nat} {d : PyData}, DpAll K H vs ds → ds[i]? = some d → ∃ v, vs[i]? = some v ∧ Dp K H v d
  | [], _, i, _, h, e => by simp at e
  | d :: ds, _, 0, _, h, e => by
    cases h with
    | cons h1 h2 =>
      cases e
      exact ⟨_, rfl, h1⟩
  | d :: ds, _, i + 1, _, h, e => by
    cases h with
    | cons h1 h2 =>
      obtain ⟨v, h3, h4⟩ := dps_at h2 (i := i) (by simpa using e)
      exact ⟨v, by simpa using h3, h4⟩
theorem dps_app {K : PySem.W.Frag} {H : Hp} : ∀ {ds es : List PyData} {vs us : List V}, DpAll K H vs ds → DpAll K H us es → DpAll K H (vs ++ us) (ds ++ es)
  | [], _, _, _, h, g => by cases h; exact g
  | d :: ds, _, _, _, h, g => by
    cases h with
    | cons h1 h2 => exact .cons h1 (dps_app h2 g)
theorem dps_ints {K : PySem.W.Frag} {H : Hp} : ∀ ns : List Int, DpAll K H (ns.map V.int) (ns.map PyData.int)
  | [] => .nil
  | n :: ns => .cons (.int n) (dps_ints ns)
theorem dps_ints_eq {K : PySem.W.Frag} {H : Hp} : ∀ {ns : List Int} {vs : List V}, DpAll K H vs (ns.map PyData.int) → vs = ns.map V.int
  | [], _, h => by cases h; rfl
  | n :: ns, _, h => by
    cases h with
    | cons h1 h2 =>
      cases h1
      rw [dps_ints_eq h2]
      rfl
theorem dp_list {K : PySem.W.Frag} {H : Hp} {v : V} {ds : List PyData} (h : Dp K H v (.list ds)) : ∃ a xs, v = .ref a ∧ SqL K H a xs ∧ DpAll K H xs ds := by
  cases h with
  | lst h1 h2 => exact ⟨_, _, rfl, h1, h2⟩
theorem dp_tup {K : PySem.W.Frag} {H : Hp} {v : V} {ds : List PyData} (h : Dp K H v (.tuple ds)) : ∃ a xs, v = .ref a ∧ SqT K H a xs ∧ DpAll K H xs ds := by
  cases h with
  | tup h1 h2 => exact ⟨_, _, rfl, h1, h2⟩
theorem dp_int {K : PySem.W.Frag} {H : Hp} {v : V} {i : Int} (h : Dp K H v (.int i)) : v = .int i := by
  cases h; rfl
theorem dp_pair {K : PySem.W.Frag} {H : Hp} {v : V} {d e : PyData} (h : Dp K H v (.tuple [d, e])) : ∃ a x y, v = .ref a ∧ SqT K H a [x, y] ∧ Dp K H x d ∧ Dp K H y e := by
  cases h with
  | tup h1 h2 =>
    cases h2 with
    | cons h3 h4 =>
      cases h4 with
      | cons h5 h6 =>
        cases h6
        exact ⟨_, _, _, rfl, h1, h3, h5⟩
theorem mk_pair {K : PySem.W.Frag} {H : Hp} {a : Addr} {x y : V} {d e : PyData} (h : H a = some (.tup [x, y])) (hx : Dp K H x d) (hy : Dp K H y e) : Dp K H (.ref a) (.tuple [d, e]) :=
  .tup (.inl (.inl h)) (.cons hx (.cons hy .nil))
theorem mk_ints {K : PySem.W.Frag} {H : Hp} {a : Addr} {ns : List Int} (h : H a = some (.lst (ns.map V.int))) : Dp K H (.ref a) (.list (ns.map .int)) :=
  .lst (.inl (.inl h)) (dps_ints ns)
theorem dp_ints {K : PySem.W.Frag} {H : Hp} {v : V} {ns : List Int} (h : Dp K H v (.list (ns.map .int))) : ∃ a, v = .ref a ∧ SqL K H a (ns.map V.int) := by
  obtain ⟨a, xs, rfl, h1, h2⟩ := dp_list h
  rw [dps_ints_eq h2] at h1
  exact ⟨a, rfl, h1⟩
/-! ### the bag -/
def bagL (c : Addr) (i s t : Int) : List V := [.ref c, .int i, .int s, .int t]
structure Bag (H : Hp) (a c : Addr) : Prop where
  ex : ∃ (ls : List Int) (i s t : Int), H a = some (.lst (bagL c i s t)) ∧ H c = some (.lst (ls.map V.int)) ∧ 0 ≤ i ∧ ls.length ≤ 1000 ∧ 0 ≤ s ∧ s < 2 ^ 63
  ne : a ≠ c
theorem Bag.keep {H H' : Hp} {a c : Addr} (b : Bag H a c) (k : Same H H') : Bag H' a c := by
  obtain ⟨⟨ls, i, s, t, h1, h2, h3⟩, h4⟩ := b
  exact ⟨⟨ls, i, s, t, k _ _ h1, k _ _ h2, h3⟩, h4⟩
theorem Bag.ha {H : Hp} {a c : Addr} (b : Bag H a c) : ∃ o, H a = some o := by
  obtain ⟨⟨ls, i, s, t, h1, h2, h3⟩, h4⟩ := b
  exact ⟨_, h1⟩
theorem Bag.hc {H : Hp} {a c : Addr} (b : Bag H a c) : ∃ o, H c = some o := by
  obtain ⟨⟨ls, i, s, t, h1, h2, h3⟩, h4⟩ := b
  exact ⟨_, h2⟩
/-- a new object is laid: the bag stays -/
theorem Bag.new {H : Hp} {a c p : Addr} {o : HO} (b : Bag H a c) (n : H p = none) : Bag (upd H p o) a c := b.keep (same_new n)
theorem Bag.out {H : Hp} {a c p : Addr} (b : Bag H a c) (n : H p = none) : p ∉ [a, c] := by
  obtain ⟨o, h1⟩ := b.ha
  obtain ⟨o2, h2⟩ := b.hc
  intro z
  rcases List.mem_cons.mp z with rfl | z
  · rw [h1] at n; cases n
  · rcases List.mem_cons.mp z with rfl | z
    · rw [h2] at n; cases n
    · cases z
/-- an object beside the bag is written -/
theorem Bag.wr {H : Hp} {a c p : Addr} {o : HO} (b : Bag H a c) (n : p ∉ [a, c]) : Bag (upd H p o) a c := by
  obtain ⟨⟨ls, i, s, t, h1, h2, h3⟩, h4⟩ := b
  refine ⟨⟨ls, i, s, t, ?_, ?_, h3⟩, h4⟩
  · rw [upd_ne (fun e => n (by simp [e]))]; exact h1
  · rw [upd_ne (fun e => n (by simp [e]))]; exact h2
/-- the promise of a draw -/
def spDraw : Sp := fun vs H Q _ => ∃ (a c : Addr) (m : Int), vs = [.ref a, .int m] ∧ Bag H a c ∧ 0 < m ∧ m < 2 ^ 1000 ∧
  ∀ r H', 0 ≤ r → r < m → Bag H' a c → Kp [a, c] H H' → Q (.int r) H'
end Bd
namespace Bd
open PySem PySem.Spec PyProof.Rows L2 HT
theorem cut_ints (ns : List Int) (lo hi : Option Int) : ∃ ms : List Int, cutV (ns.map V.int) lo hi = ms.map V.int ∧ ms.length ≤ ns.length := by
  refine ⟨(ns.drop (HT.sIx (ns.map V.int).length 0 lo)).take (HT.sIx (ns.map V.int).length (ns.map V.int).length hi - HT.sIx (ns.map V.int).length 0 lo), ?_, ?_⟩
  · unfold cutV
    rw [List.map_take, List.map_drop]
  · rw [List.length_take, List.length_drop]
    omega
theorem ints_at {ns : List Int} {i : Nat} {x : V} (h : (ns.map V.int)[i]? = some x) : ∃ n, x = V.int n ∧ ns[i]? = some n := by
  rw [List.getElem?_map] at h
  cases e : ns[i]? with
  | none => rw [e] at h; cases h
  | some n =>
    rw [e] at h
    exact ⟨n, (Option.some.inj h).symm, rfl⟩
theorem lt_of_at {α : Type} {xs : List α} {i : Nat} {x : α} (h : xs[i]? = some x) : i < xs.length := (List.getElem?_eq_some_iff.mp h).1
def spBag (K : PySem.W.Frag) : Sp := fun vs H Q _ => ∃ (a : Addr) (ns : List Int), vs = [.ref a] ∧ SqL K H a (ns.map V.int) ∧ ns.length ≤ 63 ∧
  ∀ b c H', Same H H' → H b = none → H c = none → Bag H' b c → Q (.ref b) H'
end Bd
namespace Bd
open PySem PySem.Spec PyProof.Rows L2 HT
def pairD (p : Nat × Nat) : PyData := .tuple [.int p.1, .int p.2]
def doorsD (ds : List (Nat × Nat)) : PyData := .list (ds.map pairD)
def houseD (rooms : Nat) (ds : List (Nat × Nat)) : PyData := .tuple [.int rooms, doorsD ds]
/-- doors of so many rooms -/
def Doors (rooms : Nat) (ds : List (Nat × Nat)) : Prop := ∀ d ∈ ds, d.1 < rooms ∧ d.2 < rooms ∧ d.1 ≠ d.2
theorem Kp.free {S : List Addr} {H H1 : Hp} (k : Kp S H H1) {p : Addr} (n : H1 p = none) : hid S H p = none := by
  cases e : hid S H p with
  | none => rfl
  | some o =>
    have := (of_hid (k p o e)).1
    rw [n] at this; cases this
/-- data of a shape that == takes, of depth n at most -/
def Shp (n : Nat) (d : PyData) : Prop := d.canLay0 = true ∧ d.depth ≤ n
theorem Shp.ok {n : Nat} {d : PyData} (h : Shp n d) (hn : n ≤ 64) : SeqAt.shaped d = true := by
  unfold SeqAt.shaped
  rw [h.1, Bool.true_and]
  exact decide_eq_true (Nat.le_trans h.2 hn)
theorem shp_int {n : Nat} (i : Int) : Shp n (.int i) := ⟨rfl, Nat.zero_le _⟩
theorem shp_all {n : Nat} : ∀ {xs : List PyData}, (∀ x ∈ xs, Shp n x) → PyData.canLayAll0 xs = true ∧ PyData.depthAll xs ≤ n
  | [], _ => ⟨rfl, Nat.zero_le _⟩
  | x :: xs, h => by
    obtain ⟨h1, h2⟩ := h x (List.mem_cons_self)
    obtain ⟨h3, h4⟩ := shp_all (xs := xs) fun y hy => h y (List.mem_cons_of_mem _ hy)
    exact ⟨by rw [PyData.canLayAll0, h1, h3]; rfl, by rw [PyData.depthAll]; exact Nat.max_le.mpr ⟨h2, h4⟩⟩
theorem shp_list {n : Nat} {xs : List PyData} (h : ∀ x ∈ xs, Shp n x) : Shp (n + 1) (.list xs) := by
  obtain ⟨h1, h2⟩ := shp_all h
  exact ⟨by rw [PyData.canLay0]; exact h1, by rw [PyData.depth]; omega⟩
theorem shp_tup {n : Nat} {xs : List PyData} (h : ∀ x ∈ xs, Shp n x) : Shp (n + 1) (.tuple xs) := by
  obtain ⟨h1, h2⟩ := shp_all h
  exact ⟨by rw [PyData.canLay0]; exact h1, by rw [PyData.depth]; omega⟩
theorem shp_ints {n : Nat} (ns : List Int) : Shp (n + 1) (.list (ns.map .int)) := shp_list fun x hx => by
  obtain ⟨i, _, rfl⟩ := List.mem_map.mp hx
  exact shp_int i
theorem shp_pair {n : Nat} (p : Nat × Nat) : Shp (n + 1) (pairD p) := shp_tup fun x hx => by
  rcases List.mem_cons.mp hx with rfl | hx
  · exact shp_int _
  · rcases List.mem_cons.mp hx with rfl | hx
    · exact shp_int _
    · cases hx
theorem shp_doors {n : Nat} (ds : List (Nat × Nat)) : Shp (n + 2) (doorsD ds) := shp_list fun x hx => by
  obtain ⟨p, _, rfl⟩ := List.mem_map.mp hx
  exact shp_pair p
theorem shp_house {n : Nat} (rooms : Nat) (ds : List (Nat × Nat)) : Shp (n + 3) (houseD rooms ds) := shp_tup fun x hx => by
  rcases List.mem_cons.mp hx with rfl | hx
  · exact shp_int _
  · rcases List.mem_cons.mp hx with rfl | hx
    · exact shp_doors ds
    · cases hx
theorem atI_two {x y : V} {r : Int} (h0 : 0 ≤ r) (h1 : r < 2) : ∃ v, atI [x, y] r = some v ∧ (v = x ∨ v = y) := by
  have : r = 0 ∨ r = 1 := by omega
  rcases this with rfl | rfl
  · exact ⟨x, rfl, .inl rfl⟩
  · exact ⟨y, rfl, .inr rfl⟩
def spGround (K : PySem.W.Frag) : Sp := fun vs H Q _ => ∃ (a c : Addr) (most wide : Nat), vs = [.ref a, .int most, .int wide] ∧ Bag H a c ∧ 0 < most ∧ most ≤ 10 ∧ wide ≤ 24 ∧
  ∀ hv H' rooms ds, 0 < rooms → rooms ≤ max 4 most → ds.length ≤ max 5 wide → Doors rooms ds → Bag H' a c → Kp [a, c] H H' → Dp K (hid [a, c] H') hv (houseD rooms ds) → Q hv H'
end Bd
namespace Bd
open PySem PySem.Spec PyProof.Rows L2 HT
/-! ### what rooms meet, what leaves lots -/
abbrev Dc := (Nat × Nat) × Int
def metAt (z : List Dc) (r : Nat) : Int := (z.map fun x => (if x.1.1 = r then x.2 else 0) + (if x.1.2 = r then x.2 else 0)).sum
def metL (rooms : Nat) (z : List Dc) : List Int := (List.range rooms).map (metAt z)
def lvAt (lot : List Nat) (x : Dc) : Bool := decide (x.1.1 ∈ lot) != decide (x.1.2 ∈ lot)
def leaveM (z : List Dc) (lot : List Nat) : Int := ((z.filter (lvAt lot)).map (·.2)).sum
def natsL (lot : List Nat) : List Int := lot.map fun (r : Nat) => (r : Int)
theorem natsL_len (lot : List Nat) : (natsL lot).length = lot.length := by unfold natsL; rw [List.length_map]
theorem natsL_at {lot : List Nat} {i r : Nat} (h : lot[i]? = some r) : (natsL lot)[i]? = some (r : Int) := by
  unfold natsL; rw [List.getElem?_map, h]; rfl
theorem metAt_snoc (z : List Dc) (x : Dc) (r : Nat) : metAt (z ++ [x]) r = metAt z r + ((if x.1.1 = r then x.2 else 0) + (if x.1.2 = r then x.2 else 0)) := by
  unfold metAt
  rw [List.map_append, List.sum_append]
  simp
theorem metL_len (rooms : Nat) (z : List Dc) : (metL rooms z).length = rooms := by unfold metL; rw [List.length_map, List.length_range]
theorem metL_at {rooms r : Nat} (z : List Dc) (h : r < rooms) : (metL rooms z)[r]? = some (metAt z r) := by
  unfold metL
  rw [List.getElem?_map, List.getElem?_range h]
  rfl
theorem metL_snoc {rooms : Nat} (z : List Dc) (x : Dc) (h1 : x.1.1 < rooms) (h2 : x.1.2 < rooms) (hn : x.1.1 ≠ x.1.2) :
    ((metL rooms z).set x.1.1 (metAt z x.1.1 + x.2)).set x.1.2 (metAt z x.1.2 + x.2) = metL rooms (z ++ [x]) := by
  apply List.ext_getElem?
  intro i
  by_cases hi : i < rooms
  · rw [metL_at _ hi, metAt_snoc]
    by_cases e2 : x.1.2 = i
    · subst e2
      rw [List.getElem?_set_self (by rw [List.length_set, metL_len]; exact hi), if_neg hn, if_pos rfl, Int.zero_add]
    · rw [List.getElem?_set_ne e2, if_neg e2, Int.add_zero]
      by_cases e1 : x.1.1 = i
      · subst e1
        rw [List.getElem?_set_self (by rw [metL_len]; exact hi), if_pos rfl]
      · rw [List.getElem?_set_ne e1, if_neg e1, Int.add_zero, metL_at _ hi]
  · rw [List.getElem?_eq_none (by simp only [List.length_set, metL_len]; omega), List.getElem?_eq_none (by rw [metL_len]; omega)]
theorem metL_nil (rooms : Nat) : metL rooms [] = List.replicate rooms 0 := by
  apply List.ext_getElem?
  intro i
  by_cases hi : i < rooms
  · rw [metL_at _ hi, List.getElem?_replicate, if_pos hi]
    rfl
  · rw [List.getElem?_eq_none (by rw [metL_len]; omega), List.getElem?_eq_none (by simp; omega)]
theorem zip_at {ds : List (Nat × Nat)} {cs : List Int} {i : Nat} {d : Nat × Nat} {c : Int} (h1 : ds[i]? = some d) (h2 : cs[i]? = some c) : (ds.zip cs)[i]? = some (d, c) := by
  rw [List.getElem?_zip_eq_some]
  exact ⟨h1, h2⟩
theorem take_snoc {α : Type} {xs : List α} {i : Nat} {x : α} (h : xs[i]? = some x) : xs.take (i + 1) = xs.take i ++ [x] := by
  rw [List.take_add_one, h]
  rfl
theorem inV_nats (r : Nat) (lot : List Nat) : inV (.int r) ((natsL lot).map V.int) = decide (r ∈ lot) := by
  unfold inV natsL
  rw [List.map_map, List.any_map]
  induction lot with
  | nil => rfl
  | cons x xs ih =>
    rw [List.any_cons, ih]
    show ((x : Int) == (r : Int) || decide (r ∈ xs)) = decide (r ∈ x :: xs)
    by_cases h : r = x
    · subst h
      simp
    · have h2 : ((x : Int) == (r : Int)) = false := by
        rw [beq_eq_false_iff_ne]
        omega
      rw [h2, Bool.false_or]
      simp [h]
theorem flat_ints (ns : List Int) : (ns.map V.int).all flatV = true := by
  rw [List.all_map, List.all_eq_true]
  intro x _
  rfl
theorem leave_take {z : List Dc} {lot : List Nat} {i : Nat} {x : Dc} (h : z[i]? = some x) :
    ((z.take (i + 1)).filter (lvAt lot)).map (·.2) = if lvAt lot x = true then ((z.take i).filter (lvAt lot)).map (·.2) ++ [x.2] else ((z.take i).filter (lvAt lot)).map (·.2) := by
  rw [take_snoc h, List.filter_append, List.map_append]
  by_cases e : lvAt lot x = true
  · rw [if_pos e, List.filter_cons_of_pos e]
    rfl
  · rw [if_neg e, List.filter_cons_of_neg e]
    simp
def spMet (K : PySem.W.Frag) : Sp := fun vs H Q _ => ∃ (hv cv : V) (rooms : Nat) (ds : List (Nat × Nat)) (cs : List Int), vs = [hv, cv] ∧ Dp K H hv (houseD rooms ds) ∧ Dp K H cv (.list (cs.map .int)) ∧ rooms ≤ 100 ∧ cs.length = ds.length ∧ ds.length ≤ 500 ∧ Doors rooms ds ∧
  ∀ H' p, Same H H' → H p = none → H' p = some (.lst ((metL rooms (ds.zip cs)).map V.int)) → Q (.ref p) H'
def spLeave (K : PySem.W.Frag) : Sp := fun vs H Q _ => ∃ (hv cv lv : V) (rooms : Nat) (ds : List (Nat × Nat)) (cs : List Int) (lot : List Nat), vs = [hv, cv, lv] ∧ Dp K H hv (houseD rooms ds) ∧ Dp K H cv (.list (cs.map .int)) ∧ Dp K H lv (.list ((natsL lot).map .int)) ∧
  cs.length = ds.length ∧ ds.length ≤ 500 ∧ ∀ H', Same H H' → Q (.int (leaveM (ds.zip cs) lot)) H'
/-- a house, read -/
theorem house_of {K : PySem.W.Frag} {H : Hp} {hv : V} {rooms : Nat} {ds : List (Nat × Nat)} (h : Dp K H hv (houseD rooms ds)) :
    ∃ s d vs, hv = .ref s ∧ SqT K H s [.int rooms, .ref d] ∧ SqL K H d vs ∧ DpAll K H vs (ds.map pairD) := by
  obtain ⟨s, x, y, rfl, h1, h2, h3⟩ := dp_pair h
  obtain rfl := dp_int h2
  obtain ⟨d, vs, rfl, h4, h5⟩ := dp_list h3
  exact ⟨s, d, vs, rfl, h1, h4, h5⟩
theorem pair_of {K : PySem.W.Frag} {H : Hp} {v : V} {d : Nat × Nat} (h : Dp K H v (pairD d)) : ∃ p, v = .ref p ∧ SqT K H p [.int d.1, .int d.2] := by
  obtain ⟨s, x, y, rfl, h1, h2, h3⟩ := dp_pair h
  obtain rfl := dp_int h2
  obtain rfl := dp_int h3
  exact ⟨s, rfl, h1⟩
theorem pairs_at {K : PySem.W.Frag} {H : Hp} {vs : List V} {ds : List (Nat × Nat)} {i : Nat} {v : V} (h : DpAll K H vs (ds.map pairD)) (e : vs[i]? = some v) : ∃ d p, ds[i]? = some d ∧ v = .ref p ∧ SqT K H p [.int d.1, .int d.2] := by
  have hl := dps_len h
  rw [List.length_map] at hl
  have hi : i < ds.length := by have := lt_of_at e; omega
  obtain ⟨u, e1, h1⟩ := dps_at h (i := i) (d := pairD ds[i]) (by rw [List.getElem?_map, List.getElem?_eq_getElem hi]; rfl)
  rw [e] at e1
  cases e1
  obtain ⟨p, rfl, h2⟩ := pair_of h1
  exact ⟨ds[i], p, List.getElem?_eq_getElem hi, rfl, h2⟩
end Bd
namespace Bd
open PySem PySem.Spec PyProof.Rows L2 HT
theorem ixN_nat {n j : Nat} (h : j < n) : ixN n (j : Int) = some j := by
  unfold ixN
  rw [if_pos (by omega), if_pos (by omega)]
  simp
theorem flat_rep (n : Nat) : (List.replicate n [V.int 0]).flatten = (List.replicate n (0 : Int)).map V.int := by
  induction n with
  | zero => rfl
  | succ n ih => rw [List.replicate_succ, List.flatten_cons, ih, List.replicate_succ]; rfl
end Bd
namespace Bd
open PySem PySem.Spec PyProof.Rows L2 HT
/-! ### two things that are the same data -/
/-- ints, and lists and tuples of such, at most n deep, of at most 1000 things each -/
inductive Gd : Nat → PyData → Prop
  | int (n : Nat) (i : Int) : Gd n (.int i)
  | lst {n : Nat} {ds : List PyData} (h : ∀ d ∈ ds, Gd n d) (l : ds.length ≤ 1000) : Gd (n + 1) (.list ds)
  | tup {n : Nat} {ds : List PyData} (h : ∀ d ∈ ds, Gd n d) (l : ds.length ≤ 1000) : Gd (n + 1) (.tuple ds)
theorem tyx_list {K : PySem.W.Frag} {H : Hp} {a : Addr} {xs : List V} (h : SqL K H a xs) : TyX K H (.ref a) (.type "list") := by
  rcases h with (h | ⟨o, h⟩) | ⟨o, its, n, h, c, _⟩
  · exact .base (.lst h)
  · exact .base (.frz h)
  · exact .kList h c
theorem tyx_tup {K : PySem.W.Frag} {H : Hp} {a : Addr} {xs : List V} (h : SqT K H a xs) : TyX K H (.ref a) (.type "tuple") := by
  rcases h with (h | ⟨o, h⟩) | ⟨o, its, n, h, c, _⟩
  · exact .base (.tup h)
  · exact .fTuple h
  · exact .kTuple h c
theorem tyx_same {K : PySem.W.Frag} {H H' : Hp} {v : V} {n : String} (k : Same H H') (h : (∃ a xs, v = .ref a ∧ n = "list" ∧ SqL K H a xs) ∨ (∃ a xs, v = .ref a ∧ n = "tuple" ∧ SqT K H a xs) ∨ (∃ i, v = .int i ∧ n = "int")) : TyX K H' v (.type n) := by
  rcases h with ⟨a, xs, rfl, rfl, h⟩ | ⟨a, xs, rfl, rfl, h⟩ | ⟨i, rfl, rfl⟩
  · exact tyx_list (k.seq h)
  · exact tyx_tup (same_tup k h)
  · exact .base (.int i)
theorem kit_two {K : PySem.W.Frag} {a b c : String} {v u : Bool} (h1 : kitB a b = some v) (h2 : kitB a c = some u) : PySem.W.kitAny K (.type a) [.type b, .type c] = some (v || u) := by
  refine kitAny_cons (kit_ty h1) (fun e => ?_) (fun e => by rw [e]; rfl)
  rw [e, Bool.false_or]
  refine kitAny_cons (kit_ty h2) (fun e => by rw [e]; exact kitAny_nil) (fun e => e)
def spAlike (K : PySem.W.Frag) : Nat → Sp
  | 0 => fun _ _ _ _ => False
  | n + 1 => fun vs H Q _ => ∃ (v u : V) (d : PyData), vs = [v, u] ∧ Dp K H v d ∧ Dp K H u d ∧ Gd n d ∧ ∀ H', Same H H' → Q (.bl true) H'
end Bd
namespace Bd
open PySem PySem.Spec PyProof.Rows L2 HT
theorem atI_three {x y z : V} {r : Int} (h0 : 0 ≤ r) (h1 : r < 3) : ∃ v, atI [x, y, z] r = some v ∧ (v = x ∨ v = y ∨ v = z) := by
  have : r = 0 ∨ r = 1 ∨ r = 2 := by omega
  rcases this with rfl | rfl | rfl
  · exact ⟨x, rfl, .inl rfl⟩
  · exact ⟨y, rfl, .inr (.inl rfl)⟩
  · exact ⟨z, rfl, .inr (.inr rfl)⟩
def spTallies (K : PySem.W.Frag) : Sp := fun vs H Q _ => ∃ (a c : Addr) (dv : V) (ds : List (Nat × Nat)), vs = [.ref a, dv] ∧ Bag H a c ∧ Dp K (hid [a, c] H) dv (doorsD ds) ∧ ds.length ≤ 100 ∧
  ∀ t H' (cs : List Int), cs.length = ds.length → (∀ x ∈ cs, 0 ≤ x ∧ x < 10 ^ 20) → Bag H' a c → Kp [a, c] H H' → Dp K (hid [a, c] H') (.ref t) (.list (cs.map .int)) → Q (.ref t) H'
def spLot (K : PySem.W.Frag) : Sp := fun vs H Q _ => ∃ (a c : Addr) (rooms : Nat), vs = [.ref a, .int rooms] ∧ Bag H a c ∧ rooms ≤ 100 ∧
  ∀ t H' (lot : List Nat), lot.length ≤ rooms → Bag H' a c → Kp [a, c] H H' → Dp K (hid [a, c] H') (.ref t) (.list ((natsL lot).map .int)) → Q (.ref t) H'
end Bd
namespace Bd
open PySem PySem.Spec PyProof.Rows L2 HT
theorem rgV_nats (n : Nat) : rgV 0 (n : Int) = (natsL (List.range n)).map V.int := by
  unfold rgV natsL
  rw [List.map_map, Int.sub_zero, Int.toNat_natCast]
  refine List.map_congr_left fun i _ => ?_
  show V.int (0 + (i : Int)) = V.int (i : Int)
  rw [Int.zero_add]
end Bd
namespace Bd
open PySem PySem.Spec PyProof.Rows L2 HT
theorem filt_take {z : List Dc} {p : Dc → Bool} {i : Nat} {x : Dc} (h : z[i]? = some x) :
    ((z.take (i + 1)).filter p).map (fun x => V.int x.2) = if p x = true then ((z.take i).filter p).map (fun x => V.int x.2) ++ [V.int x.2] else ((z.take i).filter p).map (fun x => V.int x.2) := by
  rw [take_snoc h, List.filter_append, List.map_append]
  by_cases e : p x = true
  · rw [if_pos e, List.filter_cons_of_pos e]
    rfl
  · rw [if_neg e, List.filter_cons_of_neg e]
    simp
/-- a door at a room -/
def atRoom (r : Nat) (x : Dc) : Bool := decide (r = x.1.1) || decide (r = x.1.2)
theorem atRoom_sum (r : Nat) : ∀ z : List Dc, (∀ x ∈ z, x.1.1 ≠ x.1.2) → ((z.filter (atRoom r)).map Prod.snd).sum = metAt z r
  | [], _ => rfl
  | x :: z, h => by
    have h1 := h x List.mem_cons_self
    have ih := atRoom_sum r z fun y hy => h y (List.mem_cons_of_mem _ hy)
    have e : metAt (x :: z) r = ((if x.1.1 = r then x.2 else 0) + (if x.1.2 = r then x.2 else 0)) + metAt z r := by
      unfold metAt
      rw [List.map_cons, List.sum_cons]
    rw [e, ← ih]
    by_cases c1 : x.1.1 = r
    · have c2 : x.1.2 ≠ r := fun q => h1 (c1.trans q.symm)
      rw [List.filter_cons_of_pos (by unfold atRoom; simp [c1]), List.map_cons, List.sum_cons, if_pos c1, if_neg c2, Int.add_zero]
    · by_cases c2 : x.1.2 = r
      · rw [List.filter_cons_of_pos (by unfold atRoom; simp [c2]), List.map_cons, List.sum_cons, if_neg c1, if_pos c2, Int.zero_add]
      · rw [List.filter_cons_of_neg (by unfold atRoom; simp; exact ⟨fun q => c1 q.symm, fun q => c2 q.symm⟩), if_neg c1, if_neg c2, Int.add_zero, Int.zero_add]
theorem inV_pair (r a b : Nat) : inV (.int r) [.int a, .int b] = (decide (r = a) || decide (r = b)) := by
  show ((a : Int) == (r : Int) || ((b : Int) == (r : Int) || false)) = _
  rw [Bool.or_false]
  congr 1
  · by_cases h : r = a
    · subst h; simp
    · rw [beq_eq_false_iff_ne.mpr (by omega), decide_eq_false h]
  · by_cases h : r = b
    · subst h; simp
    · rw [beq_eq_false_iff_ne.mpr (by omega), decide_eq_false h]
theorem zip_doors {rooms : Nat} {ds : List (Nat × Nat)} {cs : List Int} (h : Doors rooms ds) : ∀ x ∈ ds.zip cs, x.1.1 ≠ x.1.2 := fun x hx => (h x.1 (List.of_mem_zip (a := x.1) (b := x.2) hx).1).2.2
theorem gd_ints {n : Nat} {ns : List Int} (l : ns.length ≤ 1000) : Gd (n + 1) (.list (ns.map .int)) := .lst (fun d hd => by
  obtain ⟨i, _, rfl⟩ := List.mem_map.mp hd
  exact .int _ _) (by rw [List.length_map]; exact l)
def spRight (K : PySem.W.Frag) : Sp := fun vs H Q _ => ∃ (hv cv : V) (rooms : Nat) (ds : List (Nat × Nat)) (cs : List Int), vs = [hv, cv] ∧ Dp K H hv (houseD rooms ds) ∧ Dp K H cv (.list (cs.map .int)) ∧ rooms ≤ 100 ∧ cs.length = ds.length ∧ ds.length ≤ 500 ∧ Doors rooms ds ∧
  ∀ H', Same H H' → Q (.bl true) H'
def spLotRight (K : PySem.W.Frag) : Sp := fun vs H Q _ => ∃ (hv cv lv : V) (rooms : Nat) (ds : List (Nat × Nat)) (cs : List Int) (lot : List Nat), vs = [hv, cv, lv] ∧ Dp K H hv (houseD rooms ds) ∧ Dp K H cv (.list (cs.map .int)) ∧ Dp K H lv (.list ((natsL lot).map .int)) ∧
  rooms ≤ 100 ∧ lot.length ≤ 100 ∧ cs.length = ds.length ∧ ds.length ≤ 500 ∧ Doors rooms ds ∧ ∀ H', Same H H' → Q (.bl true) H'
end Bd
namespace Bd
open PySem PySem.Spec PyProof.Rows L2 HT
theorem leaveM_snoc (z : List Dc) (x : Dc) (lot : List Nat) : leaveM (z ++ [x]) lot = leaveM z lot + (if lvAt lot x = true then x.2 else 0) := by
  unfold leaveM
  rw [List.filter_append, List.map_append, List.sum_append]
  by_cases e : lvAt lot x = true
  · rw [if_pos e, List.filter_cons_of_pos e]
    simp
  · rw [if_neg e, List.filter_cons_of_neg e]
    simp
/-- rooms that are not in a lot -/
def besideL (rooms : Nat) (lot : List Nat) : List Nat := (List.range rooms).filter fun r => !decide (r ∈ lot)
theorem mem_beside {rooms r : Nat} {lot : List Nat} (h : r < rooms) : decide (r ∈ besideL rooms lot) = !decide (r ∈ lot) := by
  unfold besideL
  by_cases e : r ∈ lot
  · rw [decide_eq_true e, decide_eq_false]
    · rfl
    · intro q
      have := (List.mem_filter.mp q).2
      rw [decide_eq_true e] at this
      cases this
  · rw [decide_eq_false e, decide_eq_true]
    · rfl
    · exact List.mem_filter.mpr ⟨List.mem_range.mpr h, by rw [decide_eq_false e]; rfl⟩
theorem leave_beside {rooms : Nat} {lot : List Nat} : ∀ {z : List Dc}, (∀ x ∈ z, x.1.1 < rooms ∧ x.1.2 < rooms) → leaveM z (besideL rooms lot) = leaveM z lot := by
  intro z h
  unfold leaveM
  have e : z.filter (lvAt (besideL rooms lot)) = z.filter (lvAt lot) := by
    refine List.filter_congr fun x hx => ?_
    obtain ⟨h1, h2⟩ := h x hx
    unfold lvAt
    rw [mem_beside h1, mem_beside h2]
    cases decide (x.1.1 ∈ lot) <;> cases decide (x.1.2 ∈ lot) <;> rfl
  rw [e]
theorem zip_rooms {rooms : Nat} {ds : List (Nat × Nat)} {cs : List Int} (h : Doors rooms ds) : ∀ x ∈ ds.zip cs, x.1.1 < rooms ∧ x.1.2 < rooms := fun x hx =>
  ⟨(h x.1 (List.of_mem_zip (a := x.1) (b := x.2) hx).1).1, (h x.1 (List.of_mem_zip (a := x.1) (b := x.2) hx).1).2.1⟩
theorem nats_at {lot : List Nat} {i : Nat} {x : V} (h : ((natsL lot).map V.int)[i]? = some x) : ∃ r : Nat, x = V.int r ∧ lot[i]? = some r := by
  obtain ⟨n, rfl, e⟩ := ints_at h
  unfold natsL at e
  rw [List.getElem?_map] at e
  cases q : lot[i]? with
  | none => rw [q] at e; cases e
  | some r =>
    rw [q] at e
    exact ⟨r, by rw [← Option.some.inj e], rfl⟩
/-- what a comprehension with a test has made, a turn more -/
theorem nats_take {lot : List Nat} {p : Nat → Bool} {i r : Nat} (h : lot[i]? = some r) :
    (natsL ((lot.take (i + 1)).filter p)).map V.int = if p r = true then (natsL ((lot.take i).filter p)).map V.int ++ [V.int r] else (natsL ((lot.take i).filter p)).map V.int := by
  unfold natsL
  rw [take_snoc h, List.filter_append, List.map_append, List.map_append]
  by_cases e : p r = true
  · rw [if_pos e, List.filter_cons_of_pos e]
    rfl
  · rw [if_neg e, List.filter_cons_of_neg e]
    simp
theorem one_in (a b : Nat) (lot : List Nat) (c : Int) : (([a, b].filter fun r => decide (r ∈ lot)).length : Int) = 1 ↔ lvAt lot ((a, b), c) = true := by
  unfold lvAt
  by_cases h1 : a ∈ lot <;> by_cases h2 : b ∈ lot <;> simp [h1, h2]
end Bd
namespace Bd
open PySem PySem.Spec PyProof.Rows L2 HT
theorem shp_two {n : Nat} {d e : PyData} (h1 : Shp n d) (h2 : Shp n e) : Shp (n + 1) (.list [d, e]) := shp_list fun x hx => by
  rcases List.mem_cons.mp hx with rfl | hx
  · exact h1
  · rcases List.mem_cons.mp hx with rfl | hx
    · exact h2
    · cases hx
theorem Shp.refl {n : Nat} {d : PyData} (h : Shp n d) : PyData.eqv d d = true := SeqAt.eqv_refl d h.1
end Bd
namespace Bd
open PySem PySem.Spec PyProof.Rows L2 HT
/-! ### parts, by leaders -/
def relab (L : List Nat) (a b : Nat) : List Nat := L.map fun v => if v = max (L.getD a 0) (L.getD b 0) then min (L.getD a 0) (L.getD b 0) else v
def leadStep (L : List Nat) (x : Dc) : List Nat := if 0 < x.2 then relab L x.1.1 x.1.2 else L
def leadL (n : Nat) (z : List Dc) : List Nat := z.foldl leadStep (List.range n)
structure Led (n : Nat) (z : List Dc) (L : List Nat) : Prop where
  len : L.length = n
  low : ∀ r, r < n → L.getD r 0 ≤ r
  idem : ∀ r, r < n → L.getD (L.getD r 0) 0 = L.getD r 0
  eq : ∀ x ∈ z, 0 < x.2 → L.getD x.1.1 0 = L.getD x.1.2 0
  con : ∀ S : Nat → Prop, (∀ x ∈ z, 0 < x.2 → (S x.1.1 ↔ S x.1.2)) → ∀ r, r < n → (S r ↔ S (L.getD r 0))
theorem getD_map {f : Nat → Nat} {L : List Nat} {r : Nat} (h : r < L.length) : (L.map f).getD r 0 = f (L.getD r 0) := by
  rw [List.getD_eq_getElem?_getD, List.getD_eq_getElem?_getD, List.getElem?_map, List.getElem?_eq_getElem h]
  rfl
theorem led_nil (n : Nat) : Led n [] (List.range n) := by
  have e : ∀ r, r < n → (List.range n).getD r 0 = r := fun r h => by
    rw [List.getD_eq_getElem?_getD, List.getElem?_range h]
    rfl
  refine ⟨List.length_range, fun r h => by rw [e r h]; exact Nat.le_refl _, fun r h => by rw [e r h, e r h], (fun x hx => by cases hx), fun S _ r h => by rw [e r h]⟩
theorem led_step {n : Nat} {z : List Dc} {L : List Nat} {x : Dc} (h : Led n z L) (ha : x.1.1 < n) (hb : x.1.2 < n) : Led n (z ++ [x]) (leadStep L x) := by
  unfold leadStep
  by_cases c : 0 < x.2
  · rw [if_pos c]
    have hmax : max (L.getD x.1.1 0) (L.getD x.1.2 0) = L.getD x.1.1 0 ∨ max (L.getD x.1.1 0) (L.getD x.1.2 0) = L.getD x.1.2 0 := by omega
    have hmin : min (L.getD x.1.1 0) (L.getD x.1.2 0) = L.getD x.1.1 0 ∨ min (L.getD x.1.1 0) (L.getD x.1.2 0) = L.getD x.1.2 0 := by omega
    have hle : min (L.getD x.1.1 0) (L.getD x.1.2 0) ≤ max (L.getD x.1.1 0) (L.getD x.1.2 0) := by omega
    have hcov : ∀ v, v = L.getD x.1.1 0 ∨ v = L.getD x.1.2 0 → v = max (L.getD x.1.1 0) (L.getD x.1.2 0) ∨ v = min (L.getD x.1.1 0) (L.getD x.1.2 0) := by intro v hv; omega
    have il : L.getD (min (L.getD x.1.1 0) (L.getD x.1.2 0)) 0 = min (L.getD x.1.1 0) (L.getD x.1.2 0) := by
      rcases hmin with e | e
      · rw [e]; exact h.idem _ ha
      · rw [e]; exact h.idem _ hb
    have ll : min (L.getD x.1.1 0) (L.getD x.1.2 0) < n := by
      have := h.low _ ha
      omega
    generalize hlo : min (L.getD x.1.1 0) (L.getD x.1.2 0) = lo at *
    generalize hhi : max (L.getD x.1.1 0) (L.getD x.1.2 0) = hi at *
    have g : ∀ r, r < n → (relab L x.1.1 x.1.2).getD r 0 = if L.getD r 0 = hi then lo else L.getD r 0 := fun r hr => by
      unfold relab
      rw [getD_map (by rw [h.len]; exact hr), hlo, hhi]
    have lt : ∀ r, r < n → L.getD r 0 < n := fun r hr => Nat.lt_of_le_of_lt (h.low r hr) hr
    have gl : ∀ r, r < n → (relab L x.1.1 x.1.2).getD (L.getD r 0) 0 = if L.getD r 0 = hi then lo else L.getD r 0 := fun r hr => by rw [g _ (lt r hr), h.idem r hr]
    refine ⟨by unfold relab; rw [List.length_map]; exact h.len, fun r hr => ?_, fun r hr => ?_, fun y hy hp => ?_, fun S hS r hr => ?_⟩
    · rw [g r hr]
      have := h.low r hr
      split <;> omega
    · rw [g r hr]
      by_cases e : L.getD r 0 = hi
      · rw [if_pos e, g lo ll, il]
        split <;> rfl
      · rw [if_neg e, gl r hr, if_neg e]
    · rcases List.mem_append.mp hy with hy | hy
      · have hlt := h.eq y hy hp
        by_cases q1 : y.1.1 < n
        · by_cases q2 : y.1.2 < n
          · rw [g _ q1, g _ q2, hlt]
          · -- beyond the rooms both are 0 by default
            have e2 : ∀ M : List Nat, M.length = n → M.getD y.1.2 0 = 0 := fun M hM => by rw [List.getD_eq_getElem?_getD, List.getElem?_eq_none (by omega)]; rfl
            have h2 := e2 L h.len
            have h3 := e2 (relab L x.1.1 x.1.2) (by unfold relab; rw [List.length_map]; exact h.len)
            rw [h3, g _ q1, hlt, h2]
            split <;> omega
        · have e1 : ∀ M : List Nat, M.length = n → M.getD y.1.1 0 = 0 := fun M hM => by rw [List.getD_eq_getElem?_getD, List.getElem?_eq_none (by omega)]; rfl
          have h2 := e1 L h.len
          have h3 := e1 (relab L x.1.1 x.1.2) (by unfold relab; rw [List.length_map]; exact h.len)
          by_cases q2 : y.1.2 < n
          · rw [h3, g _ q2, ← hlt, h2]
            split <;> omega
          · have e2 : ∀ M : List Nat, M.length = n → M.getD y.1.2 0 = 0 := fun M hM => by rw [List.getD_eq_getElem?_getD, List.getElem?_eq_none (by omega)]; rfl
            rw [h3, e2 (relab L x.1.1 x.1.2) (by unfold relab; rw [List.length_map]; exact h.len)]
      · rw [List.mem_singleton.mp hy, g _ ha, g _ hb]
        have c1 := hcov _ (.inl rfl)
        have c2 := hcov _ (.inr rfl)
        split <;> split <;> omega
    · have base := h.con S (fun y hy => hS y (List.mem_append_left _ hy))
      have hx := hS x (List.mem_append_right _ (List.mem_singleton.mpr rfl)) c
      have sa := base _ ha
      have sb := base _ hb
      have same : S lo ↔ S hi := by
        have e1 : S (L.getD x.1.1 0) ↔ S (L.getD x.1.2 0) := sa.symm.trans (hx.trans sb)
        rcases hmin with e | e <;> rcases hmax with e' | e' <;> rw [e, e'] <;> first | exact Iff.rfl | exact e1 | exact e1.symm
      rw [g r hr]
      by_cases e : L.getD r 0 = hi
      · rw [if_pos e, same, ← e]; exact base r hr
      · rw [if_neg e]; exact base r hr
  · rw [if_neg c]
    refine ⟨h.len, h.low, h.idem, fun y hy hp => ?_, fun S hS r hr => h.con S (fun y hy => hS y (List.mem_append_left _ hy)) r hr⟩
    rcases List.mem_append.mp hy with hy | hy
    · exact h.eq y hy hp
    · rw [List.mem_singleton.mp hy] at hp
      exact absurd hp c
theorem leadL_snoc (n : Nat) (z : List Dc) (x : Dc) : leadL n (z ++ [x]) = leadStep (leadL n z) x := by
  unfold leadL
  rw [List.foldl_append]
  rfl
theorem led_all {n : Nat} : ∀ z : List Dc, (∀ x ∈ z, x.1.1 < n ∧ x.1.2 < n) → Led n z (leadL n z) := by
  intro z
  induction hz : z.length generalizing z with
  | zero =>
    intro _
    rw [List.length_eq_zero_iff.mp hz]
    exact led_nil n
  | succ m ih =>
    intro h
    obtain ⟨y, x, rfl⟩ : ∃ y x, z = y ++ [x] := ⟨z.dropLast, z.getLast (by intro e; rw [e] at hz; cases hz), (List.dropLast_concat_getLast _).symm⟩
    have hy : y.length = m := by
      rw [List.length_append] at hz
      exact Nat.succ.inj hz
    have hx := h x (by simp)
    rw [leadL_snoc]
    exact led_step (ih y hy fun w hw => h w (List.mem_append_left _ hw)) hx.1 hx.2
end Bd
namespace Bd
open PySem PySem.Spec PyProof.Rows L2 HT
/-! ### parts, by marks that run along doors -/
def markStep (M : List Nat) (x : Dc) : List Nat := if 0 < x.2 then (M.set x.1.1 (min (M.getD x.1.1 0) (M.getD x.1.2 0))).set x.1.2 (min (M.getD x.1.1 0) (M.getD x.1.2 0)) else M
def markTurn (z : List Dc) (M : List Nat) : List Nat := z.foldl markStep M
def markTurns (z : List Dc) : Nat → List Nat → List Nat
  | 0, M => M
  | k + 1, M => markTurn z (markTurns z k M)
structure Mkd (n : Nat) (L M : List Nat) : Prop where
  len : M.length = n
  low : ∀ r, r < n → M.getD r 0 ≤ r
  same : ∀ r, r < n → L.getD (M.getD r 0) 0 = L.getD r 0
theorem getD_set {M : List Nat} {a r v : Nat} (h : a < M.length) : (M.set a v).getD r 0 = if r = a then v else M.getD r 0 := by
  rw [List.getD_eq_getElem?_getD, List.getD_eq_getElem?_getD]
  by_cases e : r = a
  · subst e
    rw [List.getElem?_set_self h, if_pos rfl]
    rfl
  · rw [List.getElem?_set_ne (fun q => e q.symm), if_neg e]
theorem getD_step {n : Nat} {M : List Nat} {x : Dc} (h : M.length = n) (ha : x.1.1 < n) (hb : x.1.2 < n) (c : 0 < x.2) (r : Nat) :
    (markStep M x).getD r 0 = if r = x.1.1 ∨ r = x.1.2 then min (M.getD x.1.1 0) (M.getD x.1.2 0) else M.getD r 0 := by
  unfold markStep
  rw [if_pos c, getD_set (by rw [List.length_set, h]; exact hb), getD_set (by rw [h]; exact ha)]
  by_cases e2 : r = x.1.2
  · rw [if_pos e2, if_pos (.inr e2)]
  · by_cases e1 : r = x.1.1
    · rw [if_neg e2, if_pos e1, if_pos (.inl e1)]
    · rw [if_neg e2, if_neg e1, if_neg (fun q => q.elim e1 e2)]
section
variable {n : Nat} {z : List Dc} {L M : List Nat}
theorem Mkd.le (h : Mkd n L M) (hL : Led n z L) {r : Nat} (hr : r < n) : L.getD r 0 ≤ M.getD r 0 := by
  rw [← h.same r hr]
  exact hL.low _ (Nat.lt_of_le_of_lt (h.low r hr) hr)
theorem mkd_step {x : Dc} (h : Mkd n L M) (hL : Led n z L) (hx : x ∈ z) (ha : x.1.1 < n) (hb : x.1.2 < n) : Mkd n L (markStep M x) := by
  by_cases c : 0 < x.2
  · have e := hL.eq x hx c
    have l1 := h.low _ ha
    have l2 := h.low _ hb
    have s1 := h.same _ ha
    have s2 := h.same _ hb
    refine ⟨by unfold markStep; rw [if_pos c, List.length_set, List.length_set]; exact h.len, fun r hr => ?_, fun r hr => ?_⟩
    · rw [getD_step h.len ha hb c]
      split
      · rename_i q
        rcases q with rfl | rfl <;> omega
      · exact h.low r hr
    · rw [getD_step h.len ha hb c]
      split
      · rename_i q
        have hm : min (M.getD x.1.1 0) (M.getD x.1.2 0) = M.getD x.1.1 0 ∨ min (M.getD x.1.1 0) (M.getD x.1.2 0) = M.getD x.1.2 0 := by omega
        rcases hm with hm | hm <;> rw [hm] <;> rcases q with rfl | rfl
        · exact s1
        · rw [s1]; exact e
        · rw [s2]; exact e.symm
        · exact s2
      · exact h.same r hr
  · unfold markStep
    rw [if_neg c]
    exact h
/-- a room that has its leader keeps it -/
theorem keep_step {x : Dc} (h : Mkd n L M) (hL : Led n z L) (hx : x ∈ z) (ha : x.1.1 < n) (hb : x.1.2 < n) {r : Nat} (hr : r < n) (e : M.getD r 0 = L.getD r 0) : (markStep M x).getD r 0 = L.getD r 0 := by
  by_cases c : 0 < x.2
  · have h2 := (mkd_step h hL hx ha hb).le hL hr
    have : (markStep M x).getD r 0 ≤ M.getD r 0 := by
      rw [getD_step h.len ha hb c]
      split
      · rename_i q
        rcases q with rfl | rfl <;> omega
      · exact Nat.le_refl _
    omega
  · unfold markStep
    rw [if_neg c]
    exact e
theorem mkd_fold (hL : Led n z L) (hz : ∀ x ∈ z, x.1.1 < n ∧ x.1.2 < n) : ∀ (y : List Dc), (∀ x ∈ y, x ∈ z) → ∀ M, Mkd n L M → Mkd n L (y.foldl markStep M) ∧ ∀ r, r < n → M.getD r 0 = L.getD r 0 → (y.foldl markStep M).getD r 0 = L.getD r 0
  | [], _, M, h => ⟨h, fun _ _ e => e⟩
  | x :: y, hy, M, h => by
    have hx := hy x List.mem_cons_self
    obtain ⟨ha, hb⟩ := hz x hx
    obtain ⟨h1, h2⟩ := mkd_fold hL hz y (fun w hw => hy w (List.mem_cons_of_mem _ hw)) _ (mkd_step h hL hx ha hb)
    exact ⟨h1, fun r hr e => h2 r hr (keep_step h hL hx ha hb hr e)⟩
/-- across a passed door the leader comes over within a turn -/
theorem turn_over (hL : Led n z L) (hz : ∀ x ∈ z, x.1.1 < n ∧ x.1.2 < n) {M : List Nat} (h : Mkd n L M) {x : Dc} (hx : x ∈ z) (c : 0 < x.2) (e : M.getD x.1.1 0 = L.getD x.1.1 0 ∨ M.getD x.1.2 0 = L.getD x.1.2 0) :
    (markTurn z M).getD x.1.1 0 = L.getD x.1.1 0 ∧ (markTurn z M).getD x.1.2 0 = L.getD x.1.2 0 := by
  obtain ⟨ha, hb⟩ := hz x hx
  obtain ⟨u, v, rfl⟩ := List.append_of_mem hx
  unfold markTurn
  rw [List.foldl_append, List.foldl_cons]
  obtain ⟨h1, k1⟩ := mkd_fold hL hz u (fun w hw => List.mem_append_left _ hw) M h
  have h2 := mkd_step h1 hL hx ha hb
  obtain ⟨h3, k3⟩ := mkd_fold hL hz v (fun w hw => List.mem_append_right _ (List.mem_cons_of_mem _ hw)) _ h2
  have eL := hL.eq x hx c
  have l1 := h1.le hL ha
  have l2 := h1.le hL hb
  have e' : (u.foldl markStep M).getD x.1.1 0 = L.getD x.1.1 0 ∨ (u.foldl markStep M).getD x.1.2 0 = L.getD x.1.2 0 := e.elim (fun q => .inl (k1 _ ha q)) (fun q => .inr (k1 _ hb q))
  refine ⟨k3 _ ha ?_, k3 _ hb ?_⟩
  · rw [getD_step h1.len ha hb c, if_pos (.inl rfl)]; omega
  · rw [getD_step h1.len ha hb c, if_pos (.inr rfl)]; omega
def doneM (n : Nat) (L M : List Nat) : Nat := (List.range n).countP fun r => decide (M.getD r 0 = L.getD r 0)
theorem countP_lt {α : Type} {p q : α → Bool} : ∀ {xs : List α}, (∀ x ∈ xs, p x = true → q x = true) → (∃ x ∈ xs, q x = true ∧ p x = false) → xs.countP p < xs.countP q
  | [], _, h => by obtain ⟨x, hx, _⟩ := h; cases hx
  | x :: xs, h, ⟨y, hy, q1, q2⟩ => by
    have hm : xs.countP p ≤ xs.countP q := List.countP_mono_left fun z hz => h z (List.mem_cons_of_mem _ hz)
    rcases List.mem_cons.mp hy with rfl | hy
    · rw [List.countP_cons_of_pos q1, List.countP_cons_of_neg (by rw [q2]; decide)]
      omega
    · have ih := countP_lt (fun z hz => h z (List.mem_cons_of_mem _ hz)) ⟨y, hy, q1, q2⟩
      by_cases c : p x = true
      · rw [List.countP_cons_of_pos c, List.countP_cons_of_pos (h x List.mem_cons_self c)]
        omega
      · rw [List.countP_cons_of_neg c]
        have : xs.countP q ≤ (x :: xs).countP q := by rw [List.countP_cons]; omega
        omega
theorem turn_more (hL : Led n z L) (hz : ∀ x ∈ z, x.1.1 < n ∧ x.1.2 < n) {M : List Nat} (h : Mkd n L M) (hd : ∃ r, r < n ∧ M.getD r 0 ≠ L.getD r 0) : doneM n L M < doneM n L (markTurn z M) := by
  obtain ⟨h1, k1⟩ := mkd_fold hL hz z (fun _ hw => hw) M h
  unfold doneM
  refine countP_lt (fun r hr e => ?_) ?_
  · exact decide_eq_true (k1 r (List.mem_range.mp hr) (of_decide_eq_true e))
  · -- a passed door between one that has its leader and one that has not
    obtain ⟨r, hr, ne⟩ := hd
    have lead : M.getD (L.getD r 0) 0 = L.getD (L.getD r 0) 0 := by
      have hlt : L.getD r 0 < n := Nat.lt_of_le_of_lt (hL.low r hr) hr
      have a1 := h.low _ hlt
      have a2 := h.le hL hlt
      rw [hL.idem r hr] at a2 ⊢
      omega
    by_cases cl : ∀ x ∈ z, 0 < x.2 → (M.getD x.1.1 0 = L.getD x.1.1 0 ↔ M.getD x.1.2 0 = L.getD x.1.2 0)
    · exact absurd ((hL.con (fun q => M.getD q 0 = L.getD q 0) cl r hr).mpr lead) ne
    · obtain ⟨x, q⟩ := Classical.not_forall.mp cl
      obtain ⟨hx, q⟩ := Classical.not_forall.mp q
      obtain ⟨c, q⟩ := Classical.not_forall.mp q
      obtain ⟨ha, hb⟩ := hz x hx
      by_cases e1 : M.getD x.1.1 0 = L.getD x.1.1 0
      · have e2 : ¬ M.getD x.1.2 0 = L.getD x.1.2 0 := fun e2 => q ⟨fun _ => e2, fun _ => e1⟩
        exact ⟨x.1.2, List.mem_range.mpr hb, decide_eq_true (turn_over hL hz h hx c (.inl e1)).2, decide_eq_false e2⟩
      · by_cases e2 : M.getD x.1.2 0 = L.getD x.1.2 0
        · exact ⟨x.1.1, List.mem_range.mpr ha, decide_eq_true (turn_over hL hz h hx c (.inr e2)).1, decide_eq_false e1⟩
        · exact absurd ⟨fun z => absurd z e1, fun z => absurd z e2⟩ q
theorem turns_done (hL : Led n z L) (hz : ∀ x ∈ z, x.1.1 < n ∧ x.1.2 < n) {M : List Nat} (h : Mkd n L M) : ∀ k, Mkd n L (markTurns z k M) ∧ ((∀ r, r < n → (markTurns z k M).getD r 0 = L.getD r 0) ∨ k ≤ doneM n L (markTurns z k M))
  | 0 => ⟨h, .inr (Nat.zero_le _)⟩
  | k + 1 => by
    obtain ⟨h1, h2⟩ := turns_done hL hz h k
    obtain ⟨h3, k3⟩ := mkd_fold hL hz z (fun _ hw => hw) _ h1
    refine ⟨h3, ?_⟩
    rcases h2 with h2 | h2
    · exact .inl fun r hr => k3 r hr (h2 r hr)
    · by_cases d : ∃ r, r < n ∧ (markTurns z k M).getD r 0 ≠ L.getD r 0
      · exact .inr (Nat.lt_of_le_of_lt h2 (turn_more hL hz h1 d))
      · refine .inl fun r hr => k3 r hr ?_
        exact Classical.byContradiction fun q => d ⟨r, hr, q⟩
/-- after as many turns as rooms the marks are the leaders -/
theorem marks_end (hL : Led n z L) (hz : ∀ x ∈ z, x.1.1 < n ∧ x.1.2 < n) : markTurns z n (List.range n) = L := by
  have h0 : Mkd n L (List.range n) := by
    have e : ∀ r, r < n → (List.range n).getD r 0 = r := fun r h => by
      rw [List.getD_eq_getElem?_getD, List.getElem?_range h]
      rfl
    exact ⟨List.length_range, fun r h => by rw [e r h]; exact Nat.le_refl _, fun r h => by rw [e r h]⟩
  obtain ⟨h1, h2⟩ := turns_done hL hz h0 n
  have all : ∀ r, r < n → (markTurns z n (List.range n)).getD r 0 = L.getD r 0 := by
    rcases h2 with h2 | h2
    · exact h2
    · intro r hr
      refine Classical.byContradiction fun ne => ?_
      have : doneM n L (markTurns z n (List.range n)) < (List.range n).countP (fun _ => true) := by
        unfold doneM
        exact countP_lt (fun _ _ _ => rfl) ⟨r, List.mem_range.mpr hr, rfl, decide_eq_false ne⟩
      rw [List.countP_true, List.length_range] at this
      omega
  apply List.ext_getElem?
  intro i
  by_cases hi : i < n
  · have e := all i hi
    rw [List.getD_eq_getElem?_getD, List.getD_eq_getElem?_getD, List.getElem?_eq_getElem (by rw [h1.len]; exact hi), List.getElem?_eq_getElem (by rw [hL.len]; exact hi)] at e
    rw [List.getElem?_eq_getElem (by rw [h1.len]; exact hi), List.getElem?_eq_getElem (by rw [hL.len]; exact hi)]
    exact congrArg some e
  · rw [List.getElem?_eq_none (by rw [h1.len]; omega), List.getElem?_eq_none (by rw [hL.len]; omega)]
end
/-- the lots, by leaders -/
def lotsOf (n : Nat) (L : List Nat) : List (List Nat) := ((List.range n).filter fun m => decide (m ∈ L)).map fun m => (List.range n).filter fun r => decide (L.getD r 0 = m)
end Bd
namespace Bd
open PySem PySem.Spec PyProof.Rows L2 HT
def lotD (l : List Nat) : PyData := .list ((natsL l).map .int)
def lotsD (ls : List (List Nat)) : PyData := .list (ls.map lotD)
theorem rising_eq : ∀ {xs ys : List Int}, xs.Pairwise (· < ·) → ys.Pairwise (· < ·) → (∀ k, k ∈ xs ↔ k ∈ ys) → xs = ys
  | [], [], _, _, _ => rfl
  | [], y :: ys, _, _, h => absurd ((h y).mpr List.mem_cons_self) (fun q => by cases q)
  | x :: xs, [], _, _, h => absurd ((h x).mp List.mem_cons_self) (fun q => by cases q)
  | x :: xs, y :: ys, h1, h2, h => by
    obtain ⟨a1, a2⟩ := List.pairwise_cons.mp h1
    obtain ⟨b1, b2⟩ := List.pairwise_cons.mp h2
    have e : x = y := by
      rcases List.mem_cons.mp ((h x).mp List.mem_cons_self) with e | e
      · exact e
      · rcases List.mem_cons.mp ((h y).mpr List.mem_cons_self) with e' | e'
        · exact e'.symm
        · have := a1 y e'
          have := b1 x e
          omega
    subst e
    have := rising_eq a2 b2 fun k => by
      constructor
      · intro hk
        rcases List.mem_cons.mp ((h k).mp (List.mem_cons_of_mem _ hk)) with e | e
        · have := a1 k hk
          omega
        · exact e
      · intro hk
        rcases List.mem_cons.mp ((h k).mpr (List.mem_cons_of_mem _ hk)) with e | e
        · have := b1 k hk
          omega
        · exact e
    rw [this]
theorem sort_two {x y : Int} {zs : List Int} (p : zs.Perm [x, y]) (s : zs.Pairwise (· ≤ ·)) : zs = [min x y, max x y] := by
  have hl : zs.length = 2 := p.length_eq
  obtain ⟨a, b, rfl⟩ : ∃ a b, zs = [a, b] := by
    match zs, hl with
    | [a, b], _ => exact ⟨a, b, rfl⟩
  have hab : a ≤ b := by
    have := (List.pairwise_cons.mp s).1 b (by simp)
    exact this
  have m1 := (p.mem_iff (a := a)).mp (by simp)
  have m2 := (p.mem_iff (a := b)).mp (by simp)
  have m3 := (p.mem_iff (a := x)).mpr (by simp)
  have m4 := (p.mem_iff (a := y)).mpr (by simp)
  simp only [List.mem_cons, List.not_mem_nil, or_false] at m1 m2 m3 m4
  have e1 : a = min x y := by omega
  have e2 : b = max x y := by omega
  rw [e1, e2]
theorem range_rising (n : Nat) (p : Nat → Bool) : (natsL ((List.range n).filter p)).Pairwise (· < ·) := by
  unfold natsL
  rw [List.pairwise_map]
  refine List.Pairwise.imp (R := (· < ·)) (fun h => by omega) ?_
  exact List.Pairwise.filter _ List.pairwise_lt_range
theorem nats_mem {r : Nat} {l : List Nat} : (r : Int) ∈ natsL l ↔ r ∈ l := by
  unfold natsL
  rw [List.mem_map]
  constructor
  · rintro ⟨x, hx, e⟩
    have : x = r := by omega
    exact this ▸ hx
  · exact fun h => ⟨r, h, rfl⟩
/-- the leaders that there are, rising -/
def kindsL (n : Nat) (L : List Nat) : List Nat := (List.range n).filter fun m => decide (m ∈ L)
theorem kinds_eq {n : Nat} {L : List Nat} {ns : List Int} (hb : ∀ m ∈ L, m < n) (s : ns.Pairwise (· < ·)) (h : ∀ k : Int, k ∈ ns ↔ decide (k ∈ natsL L) = true) : ns = natsL (kindsL n L) := by
  refine rising_eq s (range_rising n _) fun k => ?_
  rw [h, decide_eq_true_iff]
  constructor
  · intro hk
    obtain ⟨r, hr, rfl⟩ := List.mem_map.mp hk
    exact nats_mem.mpr (List.mem_filter.mpr ⟨List.mem_range.mpr (hb r hr), decide_eq_true hr⟩)
  · intro hk
    obtain ⟨r, hr, rfl⟩ := List.mem_map.mp hk
    exact nats_mem.mpr (of_decide_eq_true (List.mem_filter.mp hr).2)
theorem led_mem {n : Nat} {z : List Dc} {L : List Nat} (h : Led n z L) : ∀ m ∈ L, m < n := fun m hm => by
  obtain ⟨i, hi, e⟩ := List.getElem_of_mem hm
  have hi2 : i < n := by rw [← h.len]; exact hi
  have := h.low i hi2
  rw [List.getD_eq_getElem?_getD, List.getElem?_eq_getElem hi] at this
  have e' : m ≤ i := by rw [← e]; exact this
  omega
theorem kinds_pos {n : Nat} {z : List Dc} {L : List Nat} (h : Led n z L) (hn : 0 < n) : kindsL n L ≠ [] := by
  have h0 : L.getD 0 0 = 0 := Nat.le_zero.mp (h.low 0 hn)
  have hm : 0 ∈ L := by
    have hl : 0 < L.length := by rw [h.len]; exact hn
    rw [List.getD_eq_getElem?_getD, List.getElem?_eq_getElem hl] at h0
    have e : L[0] = 0 := h0
    rw [← e]
    exact List.getElem_mem hl
  intro e
  have : 0 ∈ kindsL n L := List.mem_filter.mpr ⟨List.mem_range.mpr hn, decide_eq_true hm⟩
  rw [e] at this
  cases this
def partsL (n : Nat) (z : List Dc) : List (List Nat) := lotsOf n (leadL n z)
/-- new lists at qs: what each holds -/
def NewLots (H0 H : Hp) (p : Addr) (qs : List Addr) (ls : List (List Nat)) : Prop := Paired (fun q l => H0 q = none ∧ q ≠ p ∧ H q = some (.lst ((natsL l).map V.int))) qs ls
def spParts (K : PySem.W.Frag) : Sp := fun vs H Q _ => ∃ (hv cv : V) (rooms : Nat) (ds : List (Nat × Nat)) (cs : List Int), vs = [hv, cv] ∧ Dp K H hv (houseD rooms ds) ∧ Dp K H cv (.list (cs.map .int)) ∧ rooms ≤ 50 ∧ cs.length = ds.length ∧ ds.length ≤ 500 ∧ Doors rooms ds ∧
  ∀ H' p qs, Same H H' → H p = none → H' p = some (.lst (qs.map V.ref)) → NewLots H H' p qs (partsL rooms (ds.zip cs)) → Q (.ref p) H'
def spMeant (K : PySem.W.Frag) : Sp := fun vs H Q _ => ∃ (dv cv : V) (rooms : Nat) (ds : List (Nat × Nat)) (cs : List Int), vs = [.int rooms, dv, cv] ∧ Dp K H dv (doorsD ds) ∧ Dp K H cv (.list (cs.map .int)) ∧ rooms ≤ 50 ∧ cs.length = ds.length ∧ ds.length ≤ 500 ∧ Doors rooms ds ∧
  ∀ H' p qs, Same H H' → H p = none → H' p = some (.lst (qs.map V.ref)) → NewLots H H' p qs (partsL rooms (ds.zip cs)) → Q (.ref p) H'
theorem newlots_dp {K : PySem.W.Frag} {H0 H : Hp} {p : Addr} : ∀ {qs : List Addr} {ls : List (List Nat)}, NewLots H0 H p qs ls → DpAll K H (qs.map V.ref) (ls.map lotD)
  | _, _, .nil => .nil
  | _, _, .cons h t => .cons (mk_ints h.2.2) (newlots_dp t)
theorem newlots_imp {H0 H0' H H' : Hp} {p p' : Addr} : ∀ {qs : List Addr} {ls : List (List Nat)}, NewLots H0 H p qs ls → (∀ q l, H0 q = none ∧ q ≠ p ∧ H q = some (.lst l) → H0' q = none ∧ q ≠ p' ∧ H' q = some (.lst l)) → NewLots H0' H' p' qs ls
  | _, _, .nil, _ => .nil
  | _, _, .cons h t, f => .cons (f _ _ h) (newlots_imp t f)
theorem newlots_snoc {H0 H : Hp} {p q : Addr} {l : List Nat} : ∀ {qs : List Addr} {ls : List (List Nat)}, NewLots H0 H p qs ls → H0 q = none ∧ q ≠ p ∧ H q = some (.lst ((natsL l).map V.int)) → NewLots H0 H p (qs ++ [q]) (ls ++ [l])
  | _, _, .nil, h => .cons h .nil
  | _, _, .cons h t, h' => .cons h (newlots_snoc t h')
end Bd
namespace Bd
open PySem PySem.Spec PyProof.Rows L2 HT
/-! ### lots that nothing leaves -/
def respB (z : List Dc) (lot : List Nat) : Prop := ∀ x ∈ z, 0 < x.2 → (x.1.1 ∈ lot ↔ x.1.2 ∈ lot)
theorem leaveM_cons (x : Dc) (z : List Dc) (lot : List Nat) : leaveM (x :: z) lot = (if lvAt lot x = true then x.2 else 0) + leaveM z lot := by
  unfold leaveM
  by_cases e : lvAt lot x = true
  · rw [if_pos e, List.filter_cons_of_pos e, List.map_cons, List.sum_cons]
  · rw [if_neg e, List.filter_cons_of_neg e, Int.zero_add]
theorem lv_iff (lot : List Nat) (x : Dc) : lvAt lot x = true ↔ ¬ (x.1.1 ∈ lot ↔ x.1.2 ∈ lot) := by
  unfold lvAt
  by_cases h1 : x.1.1 ∈ lot <;> by_cases h2 : x.1.2 ∈ lot <;> simp [h1, h2]
theorem leave_nonneg (lot : List Nat) : ∀ {z : List Dc}, (∀ x ∈ z, 0 ≤ x.2) → 0 ≤ leaveM z lot
  | [], _ => Int.le_refl _
  | x :: z, h => by
    rw [leaveM_cons]
    have h1 := h x List.mem_cons_self
    have h2 := leave_nonneg lot (z := z) fun y hy => h y (List.mem_cons_of_mem _ hy)
    split <;> omega
theorem leave_zero (lot : List Nat) : ∀ {z : List Dc}, (∀ x ∈ z, 0 ≤ x.2) → (leaveM z lot = 0 ↔ respB z lot)
  | [], _ => ⟨fun _ x hx => (by cases hx), fun _ => rfl⟩
  | x :: z, h => by
    have hz : ∀ y ∈ z, 0 ≤ y.2 := fun y hy => h y (List.mem_cons_of_mem _ hy)
    have h1 := h x List.mem_cons_self
    have h2 := leave_nonneg lot hz
    have ih := leave_zero lot hz
    rw [leaveM_cons]
    constructor
    · intro e
      have e1 : (if lvAt lot x = true then x.2 else 0) = 0 := by
        by_cases hl : lvAt lot x = true
        · rw [if_pos hl] at e ⊢; omega
        · rw [if_neg hl]
      have e2 : leaveM z lot = 0 := by omega
      intro y hy hp
      rcases List.mem_cons.mp hy with rfl | hy
      · refine Classical.byContradiction fun n => ?_
        rw [if_pos ((lv_iff lot y).mpr n)] at e1
        omega
      · exact ih.mp e2 y hy hp
    · intro r
      have e2 := ih.mpr fun y hy => r y (List.mem_cons_of_mem _ hy)
      rw [e2]
      by_cases hl : lvAt lot x = true
      · rw [if_pos hl]
        by_cases hp : 0 < x.2
        · exact absurd (r x List.mem_cons_self hp) ((lv_iff lot x).mp hl)
        · omega
      · rw [if_neg hl]; rfl
theorem led_lt {n : Nat} {z : List Dc} {L : List Nat} (h : Led n z L) {r : Nat} (hr : r < n) : L.getD r 0 < n := Nat.lt_of_le_of_lt (h.low r hr) hr
theorem led_in {n : Nat} {z : List Dc} {L : List Nat} (h : Led n z L) {r : Nat} (hr : r < n) : L.getD r 0 ∈ L := by
  have hl : r < L.length := by rw [h.len]; exact hr
  rw [List.getD_eq_getElem?_getD, List.getElem?_eq_getElem hl]
  exact List.getElem_mem hl
def classL (n : Nat) (L : List Nat) (m : Nat) : List Nat := (List.range n).filter fun r => decide (L.getD r 0 = m)
theorem class_mem {n : Nat} {L : List Nat} {m r : Nat} : r ∈ classL n L m ↔ r < n ∧ L.getD r 0 = m := by
  unfold classL
  rw [List.mem_filter, List.mem_range, decide_eq_true_iff]
theorem lots_mem {n : Nat} {L : List Nat} {one : List Nat} : one ∈ lotsOf n L ↔ ∃ m, m < n ∧ m ∈ L ∧ one = classL n L m := by
  unfold lotsOf
  rw [List.mem_map]
  constructor
  · rintro ⟨m, hm, rfl⟩
    obtain ⟨h1, h2⟩ := List.mem_filter.mp hm
    exact ⟨m, List.mem_range.mp h1, of_decide_eq_true h2, rfl⟩
  · rintro ⟨m, h1, h2, rfl⟩
    exact ⟨m, List.mem_filter.mpr ⟨List.mem_range.mpr h1, decide_eq_true h2⟩, rfl⟩
def inLot (lot one : List Nat) : List Nat := one.filter fun r => decide (r ∈ lot)
theorem filter_all {p : Nat → Bool} : ∀ {l : List Nat}, (∀ r ∈ l, p r = true) → l.filter p = l := fun h => List.filter_eq_self.mpr h
theorem whole_iff {n : Nat} {z : List Dc} {L : List Nat} (h : Led n z L) (hz : ∀ x ∈ z, x.1.1 < n ∧ x.1.2 < n) (lot : List Nat) :
    (∀ one ∈ lotsOf n L, inLot lot one = [] ∨ inLot lot one = one) ↔ respB z lot := by
  constructor
  · intro w x hx hp
    obtain ⟨ha, hb⟩ := hz x hx
    have e := h.eq x hx hp
    have m1 : x.1.1 ∈ classL n L (L.getD x.1.1 0) := class_mem.mpr ⟨ha, rfl⟩
    have m2 : x.1.2 ∈ classL n L (L.getD x.1.1 0) := class_mem.mpr ⟨hb, e.symm⟩
    rcases w _ (lots_mem.mpr ⟨L.getD x.1.1 0, led_lt h ha, led_in h ha, rfl⟩) with q | q
    · have no : ∀ r ∈ classL n L (L.getD x.1.1 0), ¬ r ∈ lot := fun r hr hl => by
        have : r ∈ inLot lot (classL n L (L.getD x.1.1 0)) := List.mem_filter.mpr ⟨hr, decide_eq_true hl⟩
        rw [q] at this
        cases this
      exact ⟨fun a => absurd a (no _ m1), fun a => absurd a (no _ m2)⟩
    · have yes : ∀ r ∈ classL n L (L.getD x.1.1 0), r ∈ lot := fun r hr => by
        rw [← q] at hr
        exact of_decide_eq_true (List.mem_filter.mp hr).2
      exact ⟨fun _ => yes _ m2, fun _ => yes _ m1⟩
  · intro r one ho
    obtain ⟨m, hm, _, rfl⟩ := lots_mem.mp ho
    have c : ∀ q ∈ classL n L m, (q ∈ lot ↔ m ∈ lot) := fun q hq => by
      obtain ⟨hq1, hq2⟩ := class_mem.mp hq
      have := h.con (fun t => t ∈ lot) r q hq1
      rw [hq2] at this
      exact this
    by_cases hl : m ∈ lot
    · exact .inr (filter_all fun q hq => decide_eq_true ((c q hq).mpr hl))
    · refine .inl (List.filter_eq_nil_iff.mpr fun q hq => ?_)
      rw [decide_eq_true_iff]
      exact fun a => hl ((c q hq).mp a)
/-! ### two lots -/
def btwB (one other : List Nat) (x : Dc) : Bool :=
  (decide (x.1.1 ∈ one ∧ ¬ x.1.1 ∈ other) && decide (x.1.2 ∈ other ∧ ¬ x.1.2 ∈ one)) || (decide (x.1.1 ∈ other ∧ ¬ x.1.1 ∈ one) && decide (x.1.2 ∈ one ∧ ¬ x.1.2 ∈ other))
def btwM (z : List Dc) (one other : List Nat) : Int := (z.map fun x => x.2 * (if btwB one other x = true then 1 else 0)).sum
theorem leave_two {one other both shared : List Nat} (hb : ∀ r, r ∈ both ↔ r ∈ one ∨ r ∈ other) (hs : ∀ r, r ∈ shared ↔ r ∈ one ∧ r ∈ other) :
    ∀ z : List Dc, leaveM z one + leaveM z other = leaveM z both + leaveM z shared + 2 * btwM z one other
  | [] => rfl
  | x :: z => by
    have ih := leave_two hb hs z
    have e : btwM (x :: z) one other = x.2 * (if btwB one other x = true then 1 else 0) + btwM z one other := by
      unfold btwM
      rw [List.map_cons, List.sum_cons]
    rw [leaveM_cons, leaveM_cons, leaveM_cons, leaveM_cons, e]
    have k : (if lvAt one x = true then x.2 else 0) + (if lvAt other x = true then x.2 else 0) = (if lvAt both x = true then x.2 else 0) + (if lvAt shared x = true then x.2 else 0) + 2 * (x.2 * (if btwB one other x = true then 1 else 0)) := by
      unfold lvAt btwB
      by_cases a1 : x.1.1 ∈ one <;> by_cases a2 : x.1.1 ∈ other <;> by_cases b1 : x.1.2 ∈ one <;> by_cases b2 : x.1.2 ∈ other <;> simp [hb, hs, a1, a2, b1, b2] <;> omega
    omega
/-! ### more counts -/
theorem parts_in {n : Nat} {z1 z2 : List Dc} {L1 L2 : List Nat} (h1 : Led n z1 L1) (h2 : Led n z2 L2) (h : ∀ x ∈ z1, 0 < x.2 → L2.getD x.1.1 0 = L2.getD x.1.2 0) {one : List Nat} (ho : one ∈ lotsOf n L1) :
    ∃ lot ∈ lotsOf n L2, ∀ r ∈ one, r ∈ lot := by
  obtain ⟨m, hm, hmL, rfl⟩ := lots_mem.mp ho
  refine ⟨classL n L2 (L2.getD m 0), lots_mem.mpr ⟨_, led_lt h2 hm, led_in h2 hm, rfl⟩, fun r hr => ?_⟩
  obtain ⟨hr1, hr2⟩ := class_mem.mp hr
  have := h1.con (fun t => L2.getD t 0 = L2.getD m 0) (fun x hx hp => by rw [h x hx hp]) r hr1
  rw [hr2] at this
  exact class_mem.mpr ⟨hr1, this.mpr rfl⟩
theorem lead_filter (n : Nat) : ∀ z : List Dc, leadL n (z.filter fun x => decide (0 < x.2)) = leadL n z := by
  intro z
  unfold leadL
  generalize List.range n = L
  induction z generalizing L with
  | nil => rfl
  | cons x z ih =>
    by_cases c : 0 < x.2
    · rw [List.filter_cons_of_pos (by exact decide_eq_true c), List.foldl_cons, List.foldl_cons, ih]
    · rw [List.filter_cons_of_neg (by rw [decide_eq_true_iff]; exact c), List.foldl_cons, ih]
      congr 1
      unfold leadStep
      rw [if_neg c]
/-! ### goings -/
def farM (F G : List Int) (lot : List Nat) : Int := (lot.map fun r => G.getD r 0 - F.getD r 0).sum
theorem leave_set {lot : List Nat} : ∀ {ds : List (Nat × Nat)} {cs : List Int} {k : Nat} {d : Nat × Nat} {c : Int}, ds[k]? = some d → cs[k]? = some c →
    leaveM (ds.zip (cs.set k (c + 1))) lot = leaveM (ds.zip cs) lot + (if lvAt lot (d, c) = true then 1 else 0)
  | [], _, k, _, _, h, _ => by simp at h
  | _ :: _, [], k, _, _, _, h => by simp at h
  | e :: ds, b :: cs, 0, d, c, h1, h2 => by
    have e1 : e = d := by simpa using h1
    have e2 : b = c := by simpa using h2
    subst e1 e2
    rw [List.set_cons_zero, List.zip_cons_cons, List.zip_cons_cons, leaveM_cons, leaveM_cons]
    have l : lvAt lot (e, b + 1) = lvAt lot (e, b) := rfl
    rw [l]
    split <;> omega
  | e :: ds, b :: cs, k + 1, d, c, h1, h2 => by
    have ih := leave_set (lot := lot) (ds := ds) (cs := cs) (k := k) (d := d) (c := c) (by simpa using h1) (by simpa using h2)
    rw [List.set_cons_succ, List.zip_cons_cons, List.zip_cons_cons, leaveM_cons, leaveM_cons, ih]
    omega
theorem met_cons (x : Dc) (z : List Dc) (r : Nat) : metAt (x :: z) r = ((if x.1.1 = r then x.2 else 0) + (if x.1.2 = r then x.2 else 0)) + metAt z r := by
  unfold metAt
  rw [List.map_cons, List.sum_cons]
theorem met_set {r : Nat} : ∀ {ds : List (Nat × Nat)} {cs : List Int} {k : Nat} {d : Nat × Nat} {c : Int}, ds[k]? = some d → cs[k]? = some c →
    metAt (ds.zip (cs.set k (c + 1))) r = metAt (ds.zip cs) r + ((if d.1 = r then 1 else 0) + (if d.2 = r then 1 else 0))
  | [], _, k, _, _, h, _ => by simp at h
  | _ :: _, [], k, _, _, _, h => by simp at h
  | e :: ds, b :: cs, 0, d, c, h1, h2 => by
    have e1 : e = d := by simpa using h1
    have e2 : b = c := by simpa using h2
    subst e1 e2
    rw [List.set_cons_zero, List.zip_cons_cons, List.zip_cons_cons, met_cons, met_cons]
    show ((if e.1 = r then b + 1 else 0) + (if e.2 = r then b + 1 else 0)) + _ = ((if e.1 = r then b else 0) + (if e.2 = r then b else 0)) + _ + _
    split <;> split <;> omega
  | e :: ds, b :: cs, k + 1, d, c, h1, h2 => by
    have ih := met_set (r := r) (ds := ds) (cs := cs) (k := k) (d := d) (c := c) (by simpa using h1) (by simpa using h2)
    rw [List.set_cons_succ, List.zip_cons_cons, List.zip_cons_cons, met_cons, met_cons, ih]
    omega
end Bd
namespace Bd
open PySem PySem.Spec PyProof.Rows L2 HT
theorem getD_setI {M : List Int} {a r : Nat} {v : Int} (h : a < M.length) : (M.set a v).getD r 0 = if r = a then v else M.getD r 0 := by
  rw [List.getD_eq_getElem?_getD, List.getD_eq_getElem?_getD]
  by_cases e : r = a
  · subst e
    rw [List.getElem?_set_self h, if_pos rfl]
    rfl
  · rw [List.getElem?_set_ne (fun q => e q.symm), if_neg e]
theorem far_set {F G : List Int} {a : Nat} {v : Int} (h : a < G.length) : ∀ {lot : List Nat}, lot.Nodup → farM F (G.set a v) lot = farM F G lot + (if a ∈ lot then v - G.getD a 0 else 0)
  | [], _ => rfl
  | r :: lot, nd => by
    obtain ⟨n1, n2⟩ := List.nodup_cons.mp nd
    have ih := far_set (F := F) h n2 (v := v)
    unfold farM at ih ⊢
    rw [List.map_cons, List.sum_cons, List.map_cons, List.sum_cons, ih, getD_setI h]
    by_cases e : r = a
    · subst e
      rw [if_pos rfl, if_neg n1, if_pos List.mem_cons_self]
      omega
    · rw [if_neg e]
      by_cases q : a ∈ lot
      · rw [if_pos q, if_pos (List.mem_cons_of_mem _ q)]; omega
      · rw [if_neg q, if_neg (fun z => by rcases List.mem_cons.mp z with z | z; exact e z.symm; exact q z)]; omega
structure Mvd (rooms : Nat) (ds : List (Nat × Nat)) (F G C : List Int) : Prop where
  lf : F.length = rooms
  lg : G.length = rooms
  lc : C.length = ds.length
  pos : ∀ c ∈ C, 0 ≤ c
  far : ∀ lot : List Nat, lot.Nodup → -(leaveM (ds.zip C) lot) ≤ farM F G lot ∧ farM F G lot ≤ leaveM (ds.zip C) lot ∧ (farM F G lot - leaveM (ds.zip C) lot) % 2 = 0
  par : ∀ r : Nat, r < rooms → (F.getD r 0 + G.getD r 0 + metAt (ds.zip C) r) % 2 = 0
theorem zip_zero_leave (lot : List Nat) : ∀ (ds : List (Nat × Nat)) (n : Nat), leaveM (ds.zip (List.replicate n (0 : Int))) lot = 0
  | [], _ => rfl
  | _ :: _, 0 => rfl
  | d :: ds, n + 1 => by
    rw [List.replicate_succ, List.zip_cons_cons, leaveM_cons, zip_zero_leave lot ds n]
    split <;> rfl
theorem zip_zero_met (r : Nat) : ∀ (ds : List (Nat × Nat)) (n : Nat), metAt (ds.zip (List.replicate n (0 : Int))) r = 0
  | [], _ => rfl
  | _ :: _, 0 => rfl
  | d :: ds, n + 1 => by
    rw [List.replicate_succ, List.zip_cons_cons, met_cons, zip_zero_met r ds n]
    show ((if d.1 = r then (0 : Int) else 0) + (if d.2 = r then 0 else 0)) + 0 = 0
    split <;> split <;> rfl
theorem far_self (F : List Int) (lot : List Nat) : farM F F lot = 0 := by
  unfold farM
  induction lot with
  | nil => rfl
  | cons r lot ih => rw [List.map_cons, List.sum_cons, ih]; omega
theorem mvd_start {rooms : Nat} {ds : List (Nat × Nat)} {F : List Int} (h : F.length = rooms) : Mvd rooms ds F F (List.replicate ds.length 0) where
  lf := h
  lg := h
  lc := List.length_replicate
  pos := fun c hc => by rw [(List.mem_replicate.mp hc).2]; exact Int.le_refl _
  far := fun lot _ => by
    have e := far_self F lot
    rw [e, zip_zero_leave]
    exact ⟨Int.le_refl _, Int.le_refl _, rfl⟩
  par := fun r _ => by
    rw [zip_zero_met]
    omega
theorem mvd_step {rooms : Nat} {ds : List (Nat × Nat)} {F G C : List Int} {k one other : Nat} {d : Nat × Nat} {c : Int} (h : Mvd rooms ds F G C) (hd : ds[k]? = some d) (hc : C[k]? = some c)
    (hw : (one = d.1 ∧ other = d.2) ∨ (one = d.2 ∧ other = d.1)) (h1 : one < rooms) (h2 : other < rooms) (hn : one ≠ other) :
    Mvd rooms ds F ((G.set one (G.getD one 0 - 1)).set other (G.getD other 0 + 1)) (C.set k (c + 1)) where
  lf := h.lf
  lg := by rw [List.length_set, List.length_set]; exact h.lg
  lc := by rw [List.length_set]; exact h.lc
  pos := fun x hx => by
    have := h.pos c (List.mem_of_getElem? hc)
    rcases List.mem_or_eq_of_mem_set hx with q | q
    · exact h.pos x q
    · omega
  far := fun lot nd => by
    obtain ⟨a1, a2, a3⟩ := h.far lot nd
    have g1 : one < G.length := by rw [h.lg]; exact h1
    have g2 : other < (G.set one (G.getD one 0 - 1)).length := by rw [List.length_set, h.lg]; exact h2
    have e2 : (G.set one (G.getD one 0 - 1)).getD other 0 = G.getD other 0 := by rw [getD_setI g1, if_neg (fun z => hn z.symm)]
    rw [far_set g2 nd, far_set g1 nd, e2, leave_set hd hc]
    have lv : lvAt lot (d, c) = true ↔ ¬ (one ∈ lot ↔ other ∈ lot) := by
      rw [lv_iff]
      rcases hw with ⟨rfl, rfl⟩ | ⟨rfl, rfl⟩
      · exact Iff.rfl
      · exact not_congr ⟨fun z => z.symm, fun z => z.symm⟩
    by_cases q1 : one ∈ lot <;> by_cases q2 : other ∈ lot
    · rw [if_pos q1, if_pos q2, if_neg (fun z => (lv.mp z) ⟨fun _ => q2, fun _ => q1⟩)]; omega
    · rw [if_pos q1, if_neg q2, if_pos (lv.mpr fun z => q2 (z.mp q1))]; omega
    · rw [if_neg q1, if_pos q2, if_pos (lv.mpr fun z => q1 (z.mpr q2))]; omega
    · rw [if_neg q1, if_neg q2, if_neg (fun z => (lv.mp z) ⟨fun a => absurd a q1, fun a => absurd a q2⟩)]; omega
  par := fun r hr => by
    have a := h.par r hr
    have g1 : one < G.length := by rw [h.lg]; exact h1
    have g2 : other < (G.set one (G.getD one 0 - 1)).length := by rw [List.length_set, h.lg]; exact h2
    rw [getD_setI g2, getD_setI g1, met_set hd hc]
    have m : ((if d.1 = r then (1 : Int) else 0) + (if d.2 = r then 1 else 0)) = (if one = r then 1 else 0) + (if other = r then 1 else 0) := by
      rcases hw with ⟨rfl, rfl⟩ | ⟨rfl, rfl⟩
      · rfl
      · rw [Int.add_comm]
    rw [m]
    by_cases q1 : one = r
    · subst q1
      rw [if_neg hn, if_pos rfl, if_pos rfl, if_neg (fun z => hn z.symm)]
      omega
    · by_cases q2 : other = r
      · subst q2
        rw [if_pos rfl, if_neg q1, if_pos rfl]
        omega
      · rw [if_neg (fun z => q2 z.symm), if_neg (fun z => q1 z.symm), if_neg q1, if_neg q2]
        omega
end Bd
namespace Bd
open PySem PySem.Spec PyProof.Rows L2 HT
section
variable {X : Cx}
/-- x not in a tuple of data of any depth -/
def rNotInT (K : PySem.W.Frag) : R2 := fun x y H Q => ∃ d ds, Dp K H x d ∧ Dp K H y (.tuple ds) ∧ SeqAt.shaped d = true ∧ SeqAt.shaped (.tuple ds) = true ∧ Q (.bl (!ds.any fun z => PyData.eqv z d)) H
theorem op_notInT (hu : X.A.units + 70 < cLine) : OpR X (compareOp .NotIn) (rNotInT X.K) := by
  intro pins s σ H x y v u Q I rx ry h
  obtain ⟨d, ds, hd, he, sd, se, q⟩ := h
  obtain ⟨as, r1⟩ := Dp.reads I d x v hd rx
  obtain ⟨bs, r2⟩ := Dp.reads I (.tuple ds) y u he ry
  have hs : d.depth ≤ 64 := by
    have h : (d.canLay0 && decide (d.depth ≤ 64)) = true := sd
    rw [Bool.and_eq_true] at h
    exact of_decide_eq_true h.2
  exact SeqAt.notIn_tuple_reads r2 r1 (SeqAt.canLay_of_shaped se) (SeqAt.canLay_of_shaped sd) (by have := Nat.min_le_right (PyData.depthAll ds) d.depth; omega) ⟨.bl _, H, I, rfl, q⟩
theorem piK {X : Cx} {tg iter : Expr} (t : TI) (h : PI X tg iter t) : PI X tg iter t := h
theorem in_room {k : Nat} {A : Around} (hr : Room k A) : A.units + 70 < cLine := by have := hr.un; omega
theorem in_room2 {k : Nat} {A : Around} (hr : Room k A) : A.units + 65 < cLine := by have := hr.un; omega
end
/-! lists of lots, laid anew -/
def LL (H0 H : Hp) (qs : List Addr) (ls : List (List Nat)) : Prop := Paired (fun q l => H0 q = none ∧ H q = some (.lst ((natsL l).map V.int))) qs ls
theorem LL.mono {H0 H H' : Hp} {qs : List Addr} {ls : List (List Nat)} (h : LL H0 H qs ls) (k : Same H H') : LL H0 H' qs ls := L2.Paired.mapP h fun _ _ q => ⟨q.1, k _ _ q.2⟩
theorem LL.at {H0 H : Hp} : ∀ {qs : List Addr} {ls : List (List Nat)} {i : Nat} {l : List Nat}, LL H0 H qs ls → ls[i]? = some l → ∃ q, qs[i]? = some q ∧ H0 q = none ∧ H q = some (.lst ((natsL l).map V.int))
  | _, _, i, l, .nil, e => by simp at e
  | _, b :: _, 0, l, .cons h t, e => by
    have e2 : b = l := by simpa using e
    subst e2
    exact ⟨_, rfl, h⟩
  | _, _, i + 1, l, .cons h t, e => by
    obtain ⟨q, e1, h1⟩ := LL.at t (i := i) (by simpa using e)
    exact ⟨q, by simpa using e1, h1⟩
theorem LL.len {H0 H : Hp} {qs : List Addr} {ls : List (List Nat)} (h : LL H0 H qs ls) : qs.length = ls.length := Paired.length h
theorem LL.app {H0 H : Hp} : ∀ {qs ps : List Addr} {ls ms : List (List Nat)}, LL H0 H qs ls → LL H0 H ps ms → LL H0 H (qs ++ ps) (ls ++ ms)
  | _, _, _, _, .nil, h => h
  | _, _, _, _, .cons h t, h2 => .cons h (LL.app t h2)
theorem LL.dps {K : PySem.W.Frag} {H0 H : Hp} : ∀ {qs : List Addr} {ls : List (List Nat)}, LL H0 H qs ls → DpAll K H (qs.map V.ref) (ls.map lotD)
  | _, _, .nil => .nil
  | _, _, .cons h t => .cons (mk_ints h.2) (LL.dps t)
/-- lots of rooms below n -/
def LotsOk (n : Nat) (ls : List (List Nat)) : Prop := ∀ l ∈ ls, l.Nodup ∧ l.length ≤ n ∧ ∀ r ∈ l, r < n
def spLots (K : PySem.W.Frag) : Sp := fun vs H Q _ => ∃ rooms : Nat, vs = [.int rooms] ∧ rooms ≤ 10 ∧
  ∀ H' p qs ls, Same H H' → H p = none → H' p = some (.lst (qs.map V.ref)) → LL H H' qs ls → ls.length = 2 ^ rooms → LotsOk rooms ls → Q (.ref p) H'
end Bd
namespace Bd
open PySem PySem.Spec PyProof.Rows L2 HT
/-! ### the bag of the counted laws: great numbers ahead, then a mixed row -/
def bagM (g : Addr) (m n : Int) : List V := [.ref g, .int m, .int n]
structure Bag2 (H : Hp) (a g : Addr) : Prop where
  ok : ∃ (ls : List Int) (m n : Int), H a = some (.lst (bagM g m n)) ∧ H g = some (.lst (ls.map V.int)) ∧ ls.length ≤ 63 ∧ 0 ≤ m ∧ m < 2 ^ 61
  ne : a ≠ g
theorem Bag2.keep {H H' : Hp} {a g : Addr} (b : Bag2 H a g) (k : Same H H') : Bag2 H' a g := by
  obtain ⟨⟨ls, m, n, h1, h2, h3⟩, ne⟩ := b
  exact ⟨⟨ls, m, n, k _ _ h1, k _ _ h2, h3⟩, ne⟩
theorem Bag2.new {H : Hp} {a g p : Addr} {o : HO} (b : Bag2 H a g) (n : H p = none) : Bag2 (upd H p o) a g := b.keep (same_new n)
theorem Bag2.out {H : Hp} {a g p : Addr} (b : Bag2 H a g) (n : H p = none) : p ∉ [a, g] := by
  obtain ⟨⟨ls, m, k, h1, h2, _⟩, _⟩ := b
  intro z
  simp only [List.mem_cons, List.not_mem_nil, or_false] at z
  rcases z with z | z
  · rw [z, h1] at n; cases n
  · rw [z, h2] at n; cases n
theorem Bag2.wr {H : Hp} {a g p : Addr} {o : HO} (b : Bag2 H a g) (n : p ∉ [a, g]) : Bag2 (upd H p o) a g := by
  obtain ⟨⟨ls, m, k, h1, h2, h3⟩, ne⟩ := b
  simp only [List.mem_cons, List.not_mem_nil, or_false, not_or] at n
  exact ⟨⟨ls, m, k, by rw [upd_ne (Ne.symm n.1)]; exact h1, by rw [upd_ne (Ne.symm n.2)]; exact h2, h3⟩, ne⟩
def spDraw2 : Sp := fun vs H Q _ => ∃ (a g : Addr) (m : Int), vs = [.ref a, .int m] ∧ Bag2 H a g ∧ 0 < m ∧ m < 2 ^ 1000 ∧
  ∀ r H', 0 ≤ r → r < m → Bag2 H' a g → Kp [a, g] H H' → Q (.int r) H'
def spBag2 (K : PySem.W.Frag) : Sp := fun vs H Q _ => ∃ (a : Addr) (ns : List Int), vs = [.ref a] ∧ SqL K H a (ns.map V.int) ∧ ns.length ≤ 63 ∧
  ∀ p g H', Same H H' → H p = none → H g = none → Bag2 H' p g → Q (.ref p) H'
theorem eqv_nil (ls : List Int) : PyData.eqv (.list (ls.map .int)) (.list []) = decide (ls = []) := by
  cases ls with
  | nil => rfl
  | cons x xs => rfl
end Bd
namespace Bd
open PySem PySem.Spec PyProof.Rows L2 HT
section
variable {prog : Program} {w : World} {A : Around} {E : Value → Shared → Prop} {s : Shared} {t : Addr}
/-- sum of a tuple of ints -/
theorem sum_tupI {xs : Array (Int × Tok)} {Q : Value → Shared → Prop} (hh : A.handled = none) (ht : s.heap.IsTuple t (intItems xs))
    (h : ∀ h' tk t', (∀ b o, s.heap.get? b = some o → h'.get? b = some o) → Q (.int (preSum (numAt xs) xs.size) t') { s with heap := h', toks := tk }) : wpAny (model prog w) A (call (.builtin "sum") [.ref t]) Q E s := by
  have lt : t < s.heap.objs.size := by
    obtain ⟨o, e, _⟩ := id ht
    exact Heap.lt_size e
  have sz : (s.heap.push { cls := .type "tuple_iterator", data := .fields #[.ref t, .int 0 0] }).objs.size = s.heap.objs.size + 1 := Heap.size_push ..
  refine call_sum_walkG (wpAny_pyIter_tuple ht ⟨_, [s.heap.objs.size, t], [s.heap.objs.size], _, _, _, numAt xs, rfl, Walks.tuple (A := A.in1) hh _ t (Nat.ne_of_lt lt) (intItems xs), ⟨⟨_, Heap.get?_push_size _ rfl, rfl, rfl⟩, ht.push _⟩, fun b hb => ?_, fun _ _ => intItems_at, fun h' tk t' hk => ?_⟩)
  · show b < (s.heap.push _).objs.size
    rw [sz]
    simp only [List.mem_cons, List.not_mem_nil, or_false] at hb
    rcases hb with e | e
    · rw [e]; exact Nat.lt_succ_self _
    · rw [e]; exact Nat.lt_succ_of_lt lt
  · have old : ∀ b o, s.heap.get? b = some o → h'.get? b = some o := fun b o e => by
      refine hk b o (fun hm => ?_) (Heap.get?_push_of_some _ e)
      have := Heap.lt_size e
      rw [List.mem_singleton.mp hm] at this
      exact absurd this (Nat.lt_irrefl _)
    have := h h' tk t' old
    simpa [intItems] using this
theorem sum_tupN {its : List Value} {ns : List Int} {Q : Value → Shared → Prop} (hh : A.handled = none) (ht : s.heap.IsTuple t its.toArray) (hi : IntsAre its ns)
    (h : ∀ h' tk t', (∀ b o, s.heap.get? b = some o → h'.get? b = some o) → Q (.int ns.sum t') { s with heap := h', toks := tk }) : wpAny (model prog w) A (call (.builtin "sum") [.ref t]) Q E s := by
  obtain ⟨xs, e⟩ := hi.allInts.items
  have hn := hi.numsOf
  rw [show numsOf its = numsOf (intItems xs).toList by rw [← e], nums_intItems] at hn
  rw [e] at ht
  refine sum_tupI hh ht fun h' tk t' hk => ?_
  have r := h h' tk t' hk
  rw [← hn] at r
  rw [preSum_eq, List.take_of_length_le (by simp)]
  exact r
end
section
variable {X : Cx}
def rSumT (K : PySem.W.Frag) : List V → Hp → VK → Prop := fun vs H Q => ∃ (a : Addr) (ns : List Int), vs = [V.ref a] ∧ SqT K H a (ns.map V.int) ∧ Q (.int ns.sum) H
theorem cr_sumT (hc : X.calm = true) : CallR X (.builtin "sum") (rSumT X.K) := by
  intro pins s σ H vs us Q I r h
  obtain ⟨a, ns, rfl, hs, q⟩ := h
  obtain ⟨its, rv, ht, _⟩ := I.tuple hs
  obtain ⟨u, rfl, rx⟩ := vals1 r
  cases (show u = Value.ref a from rx)
  obtain ⟨o, h1, h2, n, h3⟩ := ht
  exact sum_tupN (I.ok.hd hc) ⟨o, h1, h2, n, h3⟩ rv.ints fun h' tk t' hk => ⟨.int _, H, I.kept hk, ⟨_, rfl⟩, q⟩
end
end Bd
namespace Bd
open PySem PySem.Spec PyProof.Rows L2 HT
/-! ## data, lists tracked -/
mutual
inductive Dd (K : PySem.W.Frag) (H : Hp) : V → PyData → Prop
  | non : Dd K H .non .none
  | bl (b : Bool) : Dd K H (.bl b) (.bool b)
  | int (i : Int) : Dd K H (.int i) (.int i)
  | str (x : Str) : Dd K H (.str x) (.str x)
  | lst {a : Addr} {vs : List V} {ds : List PyData} : H a = some (.lst vs) → Dds K H vs ds → Dd K H (.ref a) (.list ds)
  | tup {a : Addr} {vs : List V} {ds : List PyData} : SqT K H a vs → Dds K H vs ds → Dd K H (.ref a) (.tuple ds)
inductive Dds (K : PySem.W.Frag) (H : Hp) : List V → List PyData → Prop
  | nil : Dds K H [] []
  | cons {v : V} {vs : List V} {d : PyData} {ds : List PyData} : Dd K H v d → Dds K H vs ds → Dds K H (v :: vs) (d :: ds)
end
section
variable {K : PySem.W.Frag} {H H' : Hp}
mutual
theorem Dd.same (k : Same H H') : ∀ {d : PyData} {v : V}, Dd K H v d → Dd K H' v d
  | .none, _, h => by cases h; exact .non
  | .bool b, _, h => by cases h; exact .bl b
  | .int i, _, h => by cases h; exact .int i
  | .str x, _, h => by cases h; exact .str x
  | .list ds, _, h => by
    cases h with
    | lst hs ha => exact .lst (k _ _ hs) (Dds.same k ha)
  | .tuple ds, _, h => by
    cases h with
    | tup hs ha => exact .tup (same_tup k hs) (Dds.same k ha)
  | .dict _, _, h => by cases h
theorem Dds.same (k : Same H H') : ∀ {ds : List PyData} {vs : List V}, Dds K H vs ds → Dds K H' vs ds
  | [], _, h => by cases h; exact .nil
  | d :: ds, _, h => by
    cases h with
    | cons h1 h2 => exact .cons (Dd.same k h1) (Dds.same k h2)
end
mutual
theorem Dd.dp : ∀ {d : PyData} {v : V}, Dd K H v d → Dp K H v d
  | .none, _, h => by cases h; exact .non
  | .bool b, _, h => by cases h; exact .bl b
  | .int i, _, h => by cases h; exact .int i
  | .str x, _, h => by cases h; exact .str x
  | .list ds, _, h => by
    cases h with
    | lst hs ha => exact .lst (.inl (.inl hs)) (Dds.dp ha)
  | .tuple ds, _, h => by
    cases h with
    | tup hs ha => exact .tup hs (Dds.dp ha)
  | .dict _, _, h => by cases h
theorem Dds.dp : ∀ {ds : List PyData} {vs : List V}, Dds K H vs ds → DpAll K H vs ds
  | [], _, h => by cases h; exact .nil
  | d :: ds, _, h => by
    cases h with
    | cons h1 h2 => exact .cons (Dd.dp h1) (Dds.dp h2)
end
theorem Dds.len {vs : List V} {ds : List PyData} (h : Dds K H vs ds) : vs.length = ds.length := dps_len h.dp
theorem Dds.at : ∀ {ds : List PyData} {vs : List V} {i : Nat} {d : PyData}, Dds K H vs ds → ds[i]? = some d → ∃ v, vs[i]? = some v ∧ Dd K H v d
  | [], _, i, _, h, e => by simp at e
  | d :: ds, _, 0, _, h, e => by
    cases h with
    | cons h1 h2 => cases e; exact ⟨_, rfl, h1⟩
  | d :: ds, _, i + 1, _, h, e => by
    cases h with
    | cons h1 h2 =>
      obtain ⟨v, h3, h4⟩ := Dds.at h2 (i := i) (by simpa using e)
      exact ⟨v, by simpa using h3, h4⟩
theorem Dds.app : ∀ {ds es : List PyData} {vs us : List V}, Dds K H vs ds → Dds K H us es → Dds K H (vs ++ us) (ds ++ es)
  | [], _, _, _, h, g => by cases h; exact g
  | d :: ds, _, _, _, h, g => by
    cases h with
    | cons h1 h2 => exact .cons h1 (Dds.app h2 g)
theorem Dds.snoc {ds : List PyData} {vs : List V} {v : V} {d : PyData} (h : Dds K H vs ds) (g : Dd K H v d) : Dds K H (vs ++ [v]) (ds ++ [d]) := h.app (.cons g .nil)
theorem Dds.set : ∀ {ds : List PyData} {vs : List V} {i : Nat} {v : V} {d : PyData}, Dds K H vs ds → Dd K H v d → Dds K H (vs.set i v) (ds.set i d)
  | [], _, i, _, _, h, g => by cases h; exact .nil
  | d :: ds, _, 0, _, _, h, g => by
    cases h with
    | cons h1 h2 => exact .cons g h2
  | d :: ds, _, i + 1, _, _, h, g => by
    cases h with
    | cons h1 h2 => exact .cons h1 (Dds.set h2 g)
theorem Dds.drop : ∀ {ds : List PyData} {vs : List V} (n : Nat), Dds K H vs ds → Dds K H (vs.drop n) (ds.drop n)
  | ds, vs, 0, h => by simpa using h
  | [], _, n + 1, h => by cases h; exact .nil
  | d :: ds, _, n + 1, h => by
    cases h with
    | cons h1 h2 => simpa using Dds.drop n h2
theorem Dds.take : ∀ {ds : List PyData} {vs : List V} (n : Nat), Dds K H vs ds → Dds K H (vs.take n) (ds.take n)
  | ds, vs, 0, h => by simpa using Dds.nil
  | [], _, n + 1, h => by cases h; exact .nil
  | d :: ds, _, n + 1, h => by
    cases h with
    | cons h1 h2 => simpa using Dds.cons h1 (Dds.take n h2)
theorem Dds.rev : ∀ {ds : List PyData} {vs : List V}, Dds K H vs ds → Dds K H vs.reverse ds.reverse
  | [], _, h => by cases h; exact .nil
  | d :: ds, _, h => by
    cases h with
    | cons h1 h2 => simpa using (Dds.rev h2).snoc h1
theorem Dds.ints (ns : List Int) : Dds K H (ns.map V.int) (ns.map PyData.int) := by
  induction ns with
  | nil => exact .nil
  | cons n ns ih => exact .cons (.int n) ih
theorem Dds.ints_eq {ns : List Int} {vs : List V} (h : Dds K H vs (ns.map PyData.int)) : vs = ns.map V.int := dps_ints_eq h.dp
theorem Dds.bools_eq : ∀ {bs : List Bool} {vs : List V}, Dds K H vs (bs.map PyData.bool) → vs = bs.map V.bl
  | [], _, h => by cases h; rfl
  | b :: bs, _, h => by
    cases h with
    | cons h1 h2 => cases h1; rw [Dds.bools_eq h2]; rfl
end
/-- the data of a plain value -/
def toD : V → PyData
  | .bl b => .bool b
  | .int i => .int i
  | .str x => .str x
  | _ => .none
def isSc : V → Bool
  | .non => true
  | .bl _ => true
  | .int _ => true
  | .str _ => true
  | _ => false
theorem sc_dd {K : PySem.W.Frag} {H : Hp} : ∀ {v : V}, isSc v = true → Dd K H v (toD v)
  | .non, _ => .non
  | .bl b, _ => .bl b
  | .int i, _ => .int i
  | .str x, _ => .str x
/-- plain data -/
def flatD : PyData → Bool
  | .list _ => false
  | .tuple _ => false
  | .dict _ => false
  | _ => true
theorem flat_dd {K : PySem.W.Frag} {H H' : Hp} : ∀ {d : PyData} {v : V}, flatD d = true → Dd K H v d → Dd K H' v d
  | .none, _, _, h => by cases h; exact .non
  | .bool b, _, _, h => by cases h; exact .bl b
  | .int i, _, _, h => by cases h; exact .int i
  | .str x, _, _, h => by cases h; exact .str x
/-! ## a def's slots -/
inductive Sl
  | un
  | d (x : PyData)
  | own (a : Addr) (xs : List PyData)
  | at (v : V)
def ownA : List Sl → List Addr
  | [] => []
  | .own a _ :: r => a :: ownA r
  | .un :: r => ownA r
  | .d _ :: r => ownA r
  | .at _ :: r => ownA r
theorem mem_ownA {a : Addr} : ∀ {ρ : List Sl}, a ∈ ownA ρ ↔ ∃ (i : Nat) (xs : List PyData), ρ[i]? = some (Sl.own a xs)
  | [] => by simp [ownA]
  | s :: r => by
    have ih := mem_ownA (a := a) (ρ := r)
    cases s with
    | own b ys =>
      show a ∈ b :: ownA r ↔ _
      rw [List.mem_cons, ih]
      constructor
      · rintro (rfl | ⟨i, xs, h⟩)
        · exact ⟨0, ys, rfl⟩
        · exact ⟨i + 1, xs, by simpa using h⟩
      · rintro ⟨i, xs, h⟩
        cases i with
        | zero =>
          have e : Sl.own b ys = Sl.own a xs := Option.some.inj h
          cases e
          exact .inl rfl
        | succ i => right; exact ⟨i, xs, by simpa using h⟩
    | un =>
      show a ∈ ownA r ↔ _
      rw [ih]
      exact ⟨fun ⟨i, xs, h⟩ => ⟨i + 1, xs, by simpa using h⟩, fun ⟨i, xs, h⟩ => by cases i with | zero => simp at h | succ i => exact ⟨i, xs, by simpa using h⟩⟩
    | d x =>
      show a ∈ ownA r ↔ _
      rw [ih]
      exact ⟨fun ⟨i, xs, h⟩ => ⟨i + 1, xs, by simpa using h⟩, fun ⟨i, xs, h⟩ => by cases i with | zero => simp at h | succ i => exact ⟨i, xs, by simpa using h⟩⟩
    | «at» v =>
      show a ∈ ownA r ↔ _
      rw [ih]
      exact ⟨fun ⟨i, xs, h⟩ => ⟨i + 1, xs, by simpa using h⟩, fun ⟨i, xs, h⟩ => by cases i with | zero => simp at h | succ i => exact ⟨i, xs, by simpa using h⟩⟩
def SlOk (K : PySem.W.Frag) (Hh H : Hp) : Sl → Option V → Prop
  | .un, _ => True
  | .d x, u => ∃ v, u = some v ∧ Dd K Hh v x
  | .own a xs, u => u = some (.ref a) ∧ ∃ vs, H a = some (.lst vs) ∧ Dds K Hh vs xs
  | .at v, u => u = some v
/-- what may be changed by calls, and what holds of it -/
structure Wd where
  J : List Addr
  I : Nat → Hp → Prop
  hI : ∀ {ν : Nat} {H H' : Hp}, (∀ a ∈ J, H' a = H a) → I ν H → I ν H'
  hJ : ∀ {ν : Nat} {H : Hp}, I ν H → ∀ a ∈ J, ∃ o, H a = some o
  G : Hp := fun _ => none
structure Sta (K : PySem.W.Frag) (W : Wd) (S : List Addr) (B : Hp) (ρ : List Sl) (σ : L2.St) (H : Hp) (ν : Nat) : Prop where
  len : σ.length = ρ.length
  sl : ∀ (i : Nat) (s : Sl), ρ[i]? = some s → ∃ u, σ[i]? = some u ∧ SlOk K (hid (S ++ ownA ρ) H) H s u
  nd : ∀ (i j : Nat) (a : Addr) (xs ys : List PyData), ρ[i]? = some (Sl.own a xs) → ρ[j]? = some (Sl.own a ys) → i = j
  out : ∀ a ∈ ownA ρ, a ∉ S
  js : ∀ a ∈ W.J, a ∈ S
  fr : Same B (hid (W.J ++ ownA ρ) H)
  inv : W.I ν H
  al : ∀ a ∈ S, a ∈ W.J ∨ ∃ o, B a = some o
  gb : Same W.G B
section
variable {K : PySem.W.Frag} {W : Wd} {S : List Addr} {B : Hp} {ρ : List Sl} {σ : L2.St} {H H' : Hp} {ν ν' : Nat}
theorem Sta.kpS (st : Sta K W S B ρ σ H ν) {T : List Addr} (k : Kp W.J H H') : Kp (S ++ T) H H' := k.mono fun b hb => List.mem_append_left _ (st.js b hb)
theorem Sta.ownJ (st : Sta K W S B ρ σ H ν) {a : Addr} (h : a ∈ ownA ρ) : a ∉ W.J := fun z => st.out a h (st.js a z)
theorem Sta.keep (st : Sta K W S B ρ σ H ν) (k : Kp W.J H H') (i : W.I ν' H') : Sta K W S B ρ σ H' ν' where
  len := st.len
  sl := fun n s e => by
    obtain ⟨u, eu, h⟩ := st.sl n s e
    refine ⟨u, eu, ?_⟩
    cases s with
    | un => trivial
    | d x => obtain ⟨v, e1, h1⟩ := h; exact ⟨v, e1, h1.same (st.kpS k)⟩
    | own a xs =>
      obtain ⟨e1, vs, h1, h2⟩ := h
      exact ⟨e1, vs, k.at h1 (st.ownJ (mem_ownA.mpr ⟨_, _, e⟩)), h2.same (st.kpS k)⟩
    | «at» v => exact h
  nd := st.nd
  out := st.out
  js := st.js
  fr := fun b o e => (Kp.mono k (S' := W.J ++ ownA ρ) fun b hb => List.mem_append_left _ hb) b o (st.fr b o e)
  inv := i
  al := st.al
  gb := st.gb
theorem Sta.fresh (st : Sta K W S B ρ σ H ν) {p : Addr} (n : H p = none) : p ∉ S ∧ p ∉ ownA ρ ∧ p ∉ W.J := by
  have hj : p ∉ W.J := fun z => by
    obtain ⟨o, e⟩ := W.hJ st.inv p z
    rw [n] at e; cases e
  refine ⟨fun z => ?_, fun z => ?_, hj⟩
  · rcases st.al p z with h | ⟨o, h⟩
    · exact hj h
    · have := (of_hid (st.fr _ _ h)).1
      rw [n] at this; cases this
  · obtain ⟨i, xs, e⟩ := mem_ownA.mp z
    obtain ⟨u, _, _, vs, h, _⟩ := st.sl i _ e
    rw [n] at h; cases h
theorem Sta.new (st : Sta K W S B ρ σ H ν) {p : Addr} {o : HO} (n : H p = none) : Kp W.J H (upd H p o) ∧ W.I ν (upd H p o) :=
  ⟨Kp.same (same_new n), W.hI (fun a ha => upd_ne fun e => (st.fresh n).2.2 (e ▸ ha)) st.inv⟩
theorem Sta.slot {i : Nat} {x : PyData} (st : Sta K W S B ρ σ H ν) (h : ρ[i]? = some (.d x)) : ∃ v, σ[i]? = some (some v) ∧ Dd K (hid (S ++ ownA ρ) H) v x := by
  obtain ⟨u, e, v, rfl, d⟩ := st.sl i _ h
  exact ⟨v, e, d⟩
end
/-! ## what a piece of a program is worth, told by data -/
section
variable (K : PySem.W.Frag) (W : Wd) (ρ : List Sl) (ν : Nat)
def De (t : TE) (Φ : Nat → PyData → Prop) : Prop := ∀ S B σ H Q, Sta K W S B ρ σ H ν →
  (∀ ν' v H' x, Kp W.J H H' → W.I ν' H' → Dd K (hid (S ++ ownA ρ) H') v x → Φ ν' x → Q v H') → t σ H Q
/-- a new list -/
def Do (t : TE) (Φ : Nat → List PyData → Prop) : Prop := ∀ S B σ H Q, Sta K W S B ρ σ H ν →
  (∀ ν' a H' vs xs, Kp W.J H H' → W.I ν' H' → H a = none → H' a = some (.lst vs) → Dds K (hid (a :: (S ++ ownA ρ)) H') vs xs → Φ ν' xs → Q (.ref a) H') → t σ H Q
def Dt (t : TT) (Φ : Nat → Bool → Prop) : Prop := ∀ S B σ H Q, Sta K W S B ρ σ H ν → (∀ ν' b H', Kp W.J H H' → W.I ν' H' → Φ ν' b → Q b H') → t σ H Q
def Da (t : TA) (Φ : Nat → List PyData → Prop) : Prop := ∀ S B σ H Q, Sta K W S B ρ σ H ν →
  (∀ ν' vs H' xs, Kp W.J H H' → W.I ν' H' → Dds K (hid (S ++ ownA ρ) H') vs xs → Φ ν' xs → Q vs H') → t σ H Q
end
section
variable {K : PySem.W.Frag} {W : Wd} {ρ : List Sl} {ν : Nat} {ta tb tc : TE} {Φ : Nat → PyData → Prop} {Ψ : Nat → List PyData → Prop}
theorem Do.de (h : Do K W ρ ν ta fun ν1 xs => Φ ν1 (.list xs)) : De K W ρ ν ta Φ := fun S B σ H Q st q => by
  refine h S B σ H Q st fun _ a H' vs xs k i n e d hΦ => ?_
  refine q _ _ _ _ k i (.lst (hid_of e ?_) (d.same (hid_sub fun b hb => List.mem_cons_of_mem _ hb))) hΦ
  have f := st.fresh n
  simp [f.1, f.2.1]
theorem de_var {i : Nat} {x : PyData} (h : ρ[i]? = some (.d x)) (q : Φ ν x) : De K W ρ ν (tVar i) Φ := fun S B σ H Q st k => by
  obtain ⟨v, e, d⟩ := st.slot h
  exact ⟨v, e, k _ v H x Kp.refl st.inv d q⟩
theorem de_c {v : V} (hs : isSc v = true) (q : Φ ν (toD v)) : De K W ρ ν (tC v) Φ := fun S B σ H Q st k => k _ _ _ _ Kp.refl st.inv (sc_dd hs) q
theorem de_rI {C : Int → Int → Prop} {g : Int → Int → V} (hs : ∀ i j, isSc (g i j) = true)
    (h : De K W ρ ν ta fun ν1 x => De K W ρ ν1 tb fun ν2 y => ∃ i j, x = .int i ∧ y = .int j ∧ C i j ∧ Φ ν2 (toD (g i j))) : De K W ρ ν (tOp (rI C g) ta tb) Φ := fun S B σ H Q st q => by
  refine h S B σ H _ st fun _ v H1 x k1 i1 d1 h1 => ?_
  refine h1 S B σ H1 _ (st.keep k1 i1) fun _ w H2 y k2 i2 d2 ⟨i, j, ex, ey, hc, hΦ⟩ => ?_
  subst ex ey; cases d1; cases d2
  exact ⟨i, j, rfl, rfl, hc, q _ _ _ _ (k1.trans k2) i2 (sc_dd (hs i j)) hΦ⟩
theorem de_rI0 {g : Int → Int → V} (hs : ∀ i j, isSc (g i j) = true)
    (h : De K W ρ ν ta fun ν1 x => De K W ρ ν1 tb fun ν2 y => ∃ i j, x = .int i ∧ y = .int j ∧ Φ ν2 (toD (g i j))) : De K W ρ ν (tOp (rI0 g) ta tb) Φ := fun S B σ H Q st q => by
  refine h S B σ H _ st fun _ v H1 x k1 i1 d1 h1 => ?_
  refine h1 S B σ H1 _ (st.keep k1 i1) fun _ w H2 y k2 i2 d2 ⟨i, j, ex, ey, hΦ⟩ => ?_
  subst ex ey; cases d1; cases d2
  exact ⟨i, j, rfl, rfl, q _ _ _ _ (k1.trans k2) i2 (sc_dd (hs i j)) hΦ⟩
theorem de_rU {g : Int → V} (hs : ∀ i, isSc (g i) = true) (h : De K W ρ ν ta fun ν1 x => ∃ i, x = .int i ∧ Φ ν1 (toD (g i))) : De K W ρ ν (tUn (rU g) ta) Φ := fun S B σ H Q st q => by
  refine h S B σ H _ st fun _ v H1 x k1 i1 d1 ⟨i, ex, hΦ⟩ => ?_
  subst ex; cases d1
  exact ⟨i, rfl, q _ _ _ _ k1 i1 (sc_dd (hs i)) hΦ⟩
theorem dec_vi (i j : Int) : decide (V.int i = V.int j) = decide (i = j) := by
  by_cases h : i = j
  · subst h; simp
  · rw [decide_eq_false h, decide_eq_false]
    intro z; exact h (V.int.inj z)
theorem dec_vs (i j : Str) : decide (V.str i = V.str j) = decide (i = j) := by
  by_cases h : i = j
  · subst h; simp
  · rw [decide_eq_false h, decide_eq_false]
    intro z; exact h (V.str.inj z)
theorem de_eqI (h : De K W ρ ν ta fun ν1 x => De K W ρ ν1 tb fun ν2 y => ∃ i j, x = .int i ∧ y = .int j ∧ Φ ν2 (.bool (decide (i = j)))) : De K W ρ ν (tOp rEq ta tb) Φ := fun S B σ H Q st q => by
  refine h S B σ H _ st fun _ v H1 x k1 i1 d1 h1 => ?_
  refine h1 S B σ H1 _ (st.keep k1 i1) fun _ w H2 y k2 i2 d2 ⟨i, j, ex, ey, hΦ⟩ => ?_
  subst ex ey; cases d1; cases d2
  refine ⟨rfl, ?_⟩
  rw [dec_vi]
  exact q _ _ _ _ (k1.trans k2) i2 (.bl _) hΦ
theorem de_neI (h : De K W ρ ν ta fun ν1 x => De K W ρ ν1 tb fun ν2 y => ∃ i j, x = .int i ∧ y = .int j ∧ Φ ν2 (.bool (!decide (i = j)))) : De K W ρ ν (tOp rNe ta tb) Φ := fun S B σ H Q st q => by
  refine h S B σ H _ st fun _ v H1 x k1 i1 d1 h1 => ?_
  refine h1 S B σ H1 _ (st.keep k1 i1) fun _ w H2 y k2 i2 d2 ⟨i, j, ex, ey, hΦ⟩ => ?_
  subst ex ey; cases d1; cases d2
  refine ⟨rfl, ?_⟩
  rw [dec_vi]
  exact q _ _ _ _ (k1.trans k2) i2 (.bl _) hΦ
theorem de_eqS (h : De K W ρ ν ta fun ν1 x => De K W ρ ν1 tb fun ν2 y => ∃ i j, x = .str i ∧ y = .str j ∧ Φ ν2 (.bool (decide (i = j)))) : De K W ρ ν (tOp rEq ta tb) Φ := fun S B σ H Q st q => by
  refine h S B σ H _ st fun _ v H1 x k1 i1 d1 h1 => ?_
  refine h1 S B σ H1 _ (st.keep k1 i1) fun _ w H2 y k2 i2 d2 ⟨i, j, ex, ey, hΦ⟩ => ?_
  subst ex ey; cases d1; cases d2
  refine ⟨rfl, ?_⟩
  rw [dec_vs]
  exact q _ _ _ _ (k1.trans k2) i2 (.bl _) hΦ
theorem de_eqD (h : De K W ρ ν ta fun ν1 x => De K W ρ ν1 tb fun ν2 y => SeqAt.shaped x = true ∧ SeqAt.shaped y = true ∧ Φ ν2 (.bool (PyData.eqv x y))) : De K W ρ ν (tOp (rEqD K) ta tb) Φ := fun S B σ H Q st q => by
  refine h S B σ H _ st fun _ v H1 x k1 i1 d1 h1 => ?_
  refine h1 S B σ H1 _ (st.keep k1 i1) fun _ w H2 y k2 i2 d2 ⟨s1, s2, hΦ⟩ => ?_
  exact ⟨x, y, ((d1.same ((st.keep k1 i1).kpS k2)).same hid_same).dp, (d2.same hid_same).dp, s1, s2, q _ _ _ _ (k1.trans k2) i2 (.bl _) hΦ⟩
theorem de_neD (h : De K W ρ ν ta fun ν1 x => De K W ρ ν1 tb fun ν2 y => SeqAt.shaped x = true ∧ SeqAt.shaped y = true ∧ Φ ν2 (.bool (!PyData.eqv x y))) : De K W ρ ν (tOp (rNeD K) ta tb) Φ := fun S B σ H Q st q => by
  refine h S B σ H _ st fun _ v H1 x k1 i1 d1 h1 => ?_
  refine h1 S B σ H1 _ (st.keep k1 i1) fun _ w H2 y k2 i2 d2 ⟨s1, s2, hΦ⟩ => ?_
  exact ⟨x, y, ((d1.same ((st.keep k1 i1).kpS k2)).same hid_same).dp, (d2.same hid_same).dp, s1, s2, q _ _ _ _ (k1.trans k2) i2 (.bl _) hΦ⟩
theorem any_inv (i : Int) (ns : List Int) : inV (.int i) (ns.map V.int) = decide (i ∈ ns) := by
  unfold inV
  rw [List.any_map]
  induction ns with
  | nil => rfl
  | cons x xs ih =>
    rw [List.any_cons, ih]
    show ((x : Int) == i || decide (i ∈ xs)) = decide (i ∈ x :: xs)
    by_cases h : i = x
    · subst h; simp
    · have h2 : (x == i) = false := by rw [beq_eq_false_iff_ne]; omega
      rw [h2, Bool.false_or]; simp [h]
theorem de_inI {neg : Bool} (h : De K W ρ ν ta fun ν1 x => De K W ρ ν1 tb fun ν2 y => ∃ (i : Int) (ns : List Int), x = .int i ∧ (y = .list (ns.map .int) ∨ y = .tuple (ns.map .int)) ∧ Φ ν2 (.bool (if neg then !decide (i ∈ ns) else decide (i ∈ ns)))) : De K W ρ ν (tOp (rIn K neg) ta tb) Φ := fun S B σ H Q st q => by
  refine h S B σ H _ st fun _ v H1 x k1 i1 d1 h1 => ?_
  refine h1 S B σ H1 _ (st.keep k1 i1) fun _ w H2 y k2 i2 d2 ⟨i, ns, ex, ey, hΦ⟩ => ?_
  subst ex; cases d1
  have fin : ∀ p vs, w = .ref p → (SqL K H2 p vs ∨ SqT K H2 p vs) → vs = ns.map V.int → rIn K neg (.int i) w H2 Q := fun p vs e1 e2 e3 => by
    refine ⟨p, vs, e1, e2, rfl, by rw [e3]; exact flat_ints ns, ?_⟩
    rw [e3, any_inv]
    exact q _ _ _ _ (k1.trans k2) i2 (.bl _) hΦ
  rcases ey with ey | ey
  · subst ey
    cases d2 with
    | lst e d => exact fin _ _ rfl (.inl (.inl (.inl (of_hid e).1))) d.ints_eq
  · subst ey
    cases d2 with
    | tup e d => exact fin _ _ rfl (.inr (same_tup hid_same e)) d.ints_eq
theorem de_not (h : De K W ρ ν ta fun ν1 x => ∃ b, x = .bool b ∧ Φ ν1 (.bool (!b))) : De K W ρ ν (tNotV ta) Φ := fun S B σ H Q st q => by
  refine h S B σ H _ st fun _ v H1 x k1 i1 d1 ⟨b, ex, hΦ⟩ => ?_
  subst ex; cases d1
  exact ⟨b, rfl, q _ _ _ _ k1 i1 (.bl _) hΦ⟩
theorem de_and (h : De K W ρ ν ta fun ν1 x => ∃ b, x = .bool b ∧ (b = true → De K W ρ ν1 tb Φ) ∧ (b = false → Φ ν1 (.bool false))) : De K W ρ ν (tAndV ta tb) Φ := fun S B σ H Q st q => by
  refine h S B σ H _ st fun _ v H1 x k1 i1 d1 ⟨b, ex, ht, hf⟩ => ?_
  subst ex; cases d1
  refine ⟨b, rfl, ?_⟩
  cases b with
  | true => exact ht rfl S B σ H1 Q (st.keep k1 i1) fun _ v H' x k i d hΦ => q _ v H' x (k1.trans k) i d hΦ
  | false => exact q _ _ _ _ k1 i1 (.bl _) (hf rfl)
theorem de_or (h : De K W ρ ν ta fun ν1 x => ∃ b, x = .bool b ∧ (b = true → Φ ν1 (.bool true)) ∧ (b = false → De K W ρ ν1 tb Φ)) : De K W ρ ν (tOrV ta tb) Φ := fun S B σ H Q st q => by
  refine h S B σ H _ st fun _ v H1 x k1 i1 d1 ⟨b, ex, ht, hf⟩ => ?_
  subst ex; cases d1
  refine ⟨b, rfl, ?_⟩
  cases b with
  | true => exact q _ _ _ _ k1 i1 (.bl _) (ht rfl)
  | false => exact hf rfl S B σ H1 Q (st.keep k1 i1) fun _ v H' x k i d hΦ => q _ v H' x (k1.trans k) i d hΦ
theorem de_if {t : TT} (h : Dt K W ρ ν t fun ν1 b => (b = true → De K W ρ ν1 ta Φ) ∧ (b = false → De K W ρ ν1 tb Φ)) : De K W ρ ν (tIf t ta tb) Φ := fun S B σ H Q st q => by
  refine h S B σ H _ st fun _ b H1 k1 i1 ⟨ht, hf⟩ => ?_
  cases b with
  | true => exact ht rfl S B σ H1 Q (st.keep k1 i1) fun _ v H' x k i d hΦ => q _ v H' x (k1.trans k) i d hΦ
  | false => exact hf rfl S B σ H1 Q (st.keep k1 i1) fun _ v H' x k i d hΦ => q _ v H' x (k1.trans k) i d hΦ
/-! tests -/
variable {Χ : Nat → Bool → Prop} {t u : TT}
theorem dt_b (h : De K W ρ ν ta fun ν1 x => ∃ b, x = .bool b ∧ Χ ν1 b) : Dt K W ρ ν (tB ta) Χ := fun S B σ H Q st q => by
  refine h S B σ H _ st fun _ v H1 x k1 i1 d1 ⟨b, ex, hΦ⟩ => ?_
  subst ex; cases d1
  exact ⟨b, rfl, q _ _ _ k1 i1 hΦ⟩
theorem dt_test (h : De K W ρ ν ta fun ν1 x => ∃ b, x = .bool b ∧ Χ ν1 b) : Dt K W ρ ν (tTest ta) Χ := dt_b h
theorem dt_not (h : Dt K W ρ ν t fun ν1 b => Χ ν1 (!b)) : Dt K W ρ ν (tNot t) Χ := fun S B σ H Q st q => h S B σ H _ st fun _ b H1 k i hΦ => q _ _ _ k i hΦ
theorem dt_and (h : Dt K W ρ ν t fun ν1 b => (b = true → Dt K W ρ ν1 u Χ) ∧ (b = false → Χ ν1 false)) : Dt K W ρ ν (tAnd t u) Χ := fun S B σ H Q st q => by
  refine h S B σ H _ st fun _ b H1 k1 i1 ⟨ht, hf⟩ => ?_
  cases b with
  | true => exact ht rfl S B σ H1 Q (st.keep k1 i1) fun _ v H' k i hΦ => q _ v H' (k1.trans k) i hΦ
  | false => exact q _ _ _ k1 i1 (hf rfl)
theorem dt_or (h : Dt K W ρ ν t fun ν1 b => (b = true → Χ ν1 true) ∧ (b = false → Dt K W ρ ν1 u Χ)) : Dt K W ρ ν (tOr t u) Χ := fun S B σ H Q st q => by
  refine h S B σ H _ st fun _ b H1 k1 i1 ⟨ht, hf⟩ => ?_
  cases b with
  | true => exact q _ _ _ k1 i1 (ht rfl)
  | false => exact hf rfl S B σ H1 Q (st.keep k1 i1) fun _ v H' k i hΦ => q _ v H' (k1.trans k) i hΦ
theorem dt_yes (h : Χ ν true) : Dt K W ρ ν tYes Χ := fun S B σ H Q st q => q _ _ _ Kp.refl st.inv h
theorem de_chain {g g' : Int → Int → Bool}
    (h : De K W ρ ν ta fun ν1 x => De K W ρ ν1 tb fun ν2 y => ∃ i j, x = .int i ∧ y = .int j ∧ (g i j = true → De K W ρ ν2 tc fun ν3 z => ∃ k, z = .int k ∧ Φ ν3 (.bool (g' j k))) ∧ (g i j = false → Φ ν2 (.bool false))) :
    De K W ρ ν (tChain (rI0 fun i j => .bl (g i j)) (rI0 fun i j => .bl (g' i j)) ta tb tc) Φ := fun S B σ H Q st q => by
  refine h S B σ H _ st fun _ v H1 x k1 i1 d1 h1 => ?_
  refine h1 S B σ H1 _ (st.keep k1 i1) fun _ w H2 y k2 i2 d2 ⟨i, j, ex, ey, ht, hf⟩ => ?_
  subst ex ey; cases d1; cases d2
  refine ⟨i, j, rfl, rfl, g i j, rfl, ?_⟩
  have k12 := k1.trans k2
  cases e : g i j with
  | true =>
    refine ht e S B σ H2 _ (st.keep k12 i2) fun _ u H3 z k3 i3 d3 ⟨k, ez, hΦ⟩ => ?_
    subst ez; cases d3
    exact ⟨j, k, rfl, rfl, q _ _ _ _ (k12.trans k3) i3 (.bl _) hΦ⟩
  | false => exact q _ _ _ _ k12 i2 (.bl _) (hf e)
/-! arguments, tuples, lists -/
theorem da_nil (h : Ψ ν []) : Da K W ρ ν tNil Ψ := fun S B σ H Q st q => q _ _ _ _ Kp.refl st.inv .nil h
theorem da_cons {tr : TA} (h : De K W ρ ν ta fun ν1 x => Da K W ρ ν1 tr fun ν2 xs => Ψ ν2 (x :: xs)) : Da K W ρ ν (tCons ta tr) Ψ := fun S B σ H Q st q => by
  refine h S B σ H _ st fun _ v H1 x k1 i1 d1 h1 => ?_
  refine h1 S B σ H1 _ (st.keep k1 i1) fun _ vs H2 xs k2 i2 d2 hΨ => ?_
  exact q _ _ _ _ (k1.trans k2) i2 (.cons (d1.same ((st.keep k1 i1).kpS k2)) d2) hΨ
theorem hid_new {T : List Addr} {H : Hp} {p : Addr} {o : HO} (n : H p = none) : Same (hid T H) (hid (p :: T) (upd H p o)) := fun b u e => by
  obtain ⟨e1, e2⟩ := of_hid e
  have nb : b ≠ p := fun z => by rw [z, n] at e1; cases e1
  exact hid_of (by rw [upd_ne nb]; exact e1) (by simp [nb, e2])
theorem hid_new' {T : List Addr} {H : Hp} {p : Addr} {o : HO} (n : H p = none) : Same (hid T H) (hid T (upd H p o)) := (hid_new n).trans (hid_sub fun b hb => List.mem_cons_of_mem _ hb)
theorem de_tup {tr : TA} (h : Da K W ρ ν tr fun ν1 xs => xs.length ≤ sizeLine ∧ Φ ν1 (.tuple xs)) : De K W ρ ν (tTup tr) Φ := fun S B σ H Q st q => by
  refine h S B σ H _ st fun _ vs H1 xs k1 i1 d1 ⟨hl, hΦ⟩ => ⟨by rw [d1.len]; exact hl, fun p np => ?_⟩
  have st1 := st.keep k1 i1
  have f := st1.fresh np
  exact q _ _ _ _ (k1.trans (st1.new np).1) (st1.new np).2 (.tup (.inl (.inl (hid_of upd_same (by simp [f.1, f.2.1])))) (d1.same (hid_new' np))) hΦ
theorem Kp.none {J : List Addr} {H H1 : Hp} {p : Addr} (k : Kp J H H1) (hj : p ∉ J) (n : H1 p = none) : H p = none := by
  cases e : H p with
  | none => rfl
  | some o => rw [k.at e hj] at n; cases n
theorem do_lst {tr : TA} (h : Da K W ρ ν tr fun ν1 xs => xs.length ≤ sizeLine ∧ Ψ ν1 xs) : Do K W ρ ν (tLst tr) Ψ := fun S B σ H Q st q => by
  refine h S B σ H _ st fun _ vs H1 xs k1 i1 d1 ⟨hl, hΨ⟩ => ⟨by rw [d1.len]; exact hl, fun p np => ?_⟩
  have st1 := st.keep k1 i1
  have f := st1.fresh np
  exact q _ _ _ _ _ (k1.trans (st1.new np).1) (st1.new np).2 (k1.none f.2.2 np) upd_same (d1.same (hid_new np)) hΨ
/-- the item of a place, counted from behind where below 0 -/
def atD (xs : List PyData) (i : Int) : Option PyData := (ixN xs.length i).bind fun j => xs[j]?
theorem atD_nat {xs : List PyData} {j : Nat} {d : PyData} (h : xs[j]? = some d) : atD xs (j : Int) = some d := by
  unfold atD
  rw [ixN_nat (lt_of_at h)]
  exact h
theorem Dds.atI {H : Hp} {vs : List V} {xs : List PyData} {i : Int} {d : PyData} (h : Dds K H vs xs) (e : atD xs i = some d) : ∃ v, atI vs i = some v ∧ Dd K H v d := by
  unfold atD at e
  unfold L2.atI
  rw [h.len]
  cases c : ixN xs.length i with
  | none => rw [c] at e; cases e
  | some j =>
    rw [c] at e
    exact h.at e
theorem de_ixL (h : De K W ρ ν ta fun ν1 x => De K W ρ ν1 tb fun ν2 y => ∃ xs i d, x = .list xs ∧ y = .int i ∧ atD xs i = some d ∧ Φ ν2 d) : De K W ρ ν (tOp (rIxL K) ta tb) Φ := fun S B σ H Q st q => by
  refine h S B σ H _ st fun _ v H1 x k1 i1 d1 h1 => ?_
  refine h1 S B σ H1 _ (st.keep k1 i1) fun _ w H2 y k2 i2 d2 ⟨xs, i, d, ex, ey, ed, hΦ⟩ => ?_
  subst ex ey; cases d2
  cases d1.same ((st.keep k1 i1).kpS k2) with
  | lst e ds =>
    obtain ⟨u, eu, du⟩ := ds.atI ed
    exact ⟨_, _, i, u, rfl, rfl, .inl (.inl (of_hid e).1), eu, q _ _ _ _ (k1.trans k2) i2 du hΦ⟩
theorem de_ixT (h : De K W ρ ν ta fun ν1 x => De K W ρ ν1 tb fun ν2 y => ∃ xs i d, x = .tuple xs ∧ y = .int i ∧ atD xs i = some d ∧ Φ ν2 d) : De K W ρ ν (tOp (rIxT K) ta tb) Φ := fun S B σ H Q st q => by
  refine h S B σ H _ st fun _ v H1 x k1 i1 d1 h1 => ?_
  refine h1 S B σ H1 _ (st.keep k1 i1) fun _ w H2 y k2 i2 d2 ⟨xs, i, d, ex, ey, ed, hΦ⟩ => ?_
  subst ex ey; cases d2
  cases d1.same ((st.keep k1 i1).kpS k2) with
  | tup e ds =>
    obtain ⟨u, eu, du⟩ := ds.atI ed
    exact ⟨_, _, i, u, rfl, rfl, same_tup hid_same e, eu, q _ _ _ _ (k1.trans k2) i2 du hΦ⟩
/-- an item of an own list -/
theorem de_ixO {j : Nat} {a : Addr} {xs : List PyData} (ho : ρ[j]? = some (.own a xs)) (h : De K W ρ ν tb fun ν1 y => ∃ i d, y = .int i ∧ atD xs i = some d ∧ Φ ν1 d) : De K W ρ ν (tOp (rIxL K) (tVar j) tb) Φ := fun S B σ H Q st q => by
  obtain ⟨u, eu, e1, vs, e2, d⟩ := st.sl j _ ho
  refine ⟨.ref a, by rw [eu, e1], h S B σ H _ st fun _ w H2 y k2 i2 d2 ⟨i, z, ey, ed, hΦ⟩ => ?_⟩
  subst ey; cases d2
  have st2 := st.keep k2 i2
  obtain ⟨u', eu', du⟩ := (d.same (st.kpS k2)).atI ed
  exact ⟨a, vs, i, u', rfl, rfl, .inl (.inl (k2.at e2 (st.ownJ (mem_ownA.mpr ⟨_, _, ho⟩)))), eu', q _ _ _ _ k2 i2 du hΦ⟩
theorem do_cat (h : De K W ρ ν ta fun ν1 x => De K W ρ ν1 tb fun ν2 y => ∃ xs ys, x = .list xs ∧ y = .list ys ∧ xs.length + ys.length ≤ sizeLine ∧ Ψ ν2 (xs ++ ys)) : Do K W ρ ν (tOp rCat ta tb) Ψ := fun S B σ H Q st q => by
  refine h S B σ H _ st fun _ v H1 x k1 i1 d1 h1 => ?_
  refine h1 S B σ H1 _ (st.keep k1 i1) fun _ w H2 y k2 i2 d2 ⟨xs, ys, ex, ey, hl, hΨ⟩ => ?_
  subst ex ey
  have st2 := st.keep (k1.trans k2) i2
  cases d1.same ((st.keep k1 i1).kpS k2) with
  | lst e ds =>
    cases d2 with
    | lst e2 ds2 =>
      refine ⟨_, _, _, _, rfl, rfl, (of_hid e).1, (of_hid e2).1, by rw [ds.len, ds2.len]; exact hl, fun p np => ?_⟩
      have f := st2.fresh np
      exact q _ _ _ _ _ ((k1.trans k2).trans (st2.new np).1) (st2.new np).2 ((k1.trans k2).none f.2.2 np) upd_same ((ds.app ds2).same (hid_new np)) hΨ
theorem de_catT (h : De K W ρ ν ta fun ν1 x => De K W ρ ν1 tb fun ν2 y => ∃ xs ys, x = .tuple xs ∧ y = .tuple ys ∧ xs ≠ [] ∧ ys ≠ [] ∧ xs.length + ys.length ≤ sizeLine ∧ Φ ν2 (.tuple (xs ++ ys))) : De K W ρ ν (tOp (rCatT K) ta tb) Φ := fun S B σ H Q st q => by
  refine h S B σ H _ st fun _ v H1 x k1 i1 d1 h1 => ?_
  refine h1 S B σ H1 _ (st.keep k1 i1) fun _ w H2 y k2 i2 d2 ⟨xs, ys, ex, ey, n1, n2, hl, hΦ⟩ => ?_
  subst ex ey
  have st2 := st.keep (k1.trans k2) i2
  cases d1.same ((st.keep k1 i1).kpS k2) with
  | tup e ds =>
    cases d2 with
    | tup e2 ds2 =>
      refine ⟨_, _, _, _, rfl, rfl, same_tup hid_same e, same_tup hid_same e2, fun z => n1 (by rw [z] at ds; cases ds; rfl), by rw [ds.len, ds2.len]; exact hl, fun z => absurd (by rw [z] at ds2; cases ds2; rfl) n2, fun _ p np => ?_⟩
      have f := st2.fresh np
      exact q _ _ _ _ ((k1.trans k2).trans (st2.new np).1) (st2.new np).2 (.tup (.inl (.inl (hid_of upd_same (by simp [f.1, f.2.1])))) ((ds.app ds2).same (hid_new' np))) hΦ
theorem flat_repD : ∀ (n : Nat) {H : Hp} {vs : List V} {xs : List PyData}, Dds K H vs xs → Dds K H (List.replicate n vs).flatten (List.replicate n xs).flatten
  | 0, _, _, _, _ => .nil
  | n + 1, _, _, _, h => by
    rw [List.replicate_succ, List.flatten_cons, List.replicate_succ, List.flatten_cons]
    exact h.app (flat_repD n h)
theorem do_rep (h : De K W ρ ν ta fun ν1 x => De K W ρ ν1 tb fun ν2 y => ∃ xs k, x = .list xs ∧ y = .int k ∧ -(2 ^ 63) ≤ k ∧ k < 2 ^ 63 ∧ xs.length * k.toNat ≤ sizeLine ∧ Ψ ν2 (List.replicate k.toNat xs).flatten) : Do K W ρ ν (tOp rRep ta tb) Ψ := fun S B σ H Q st q => by
  refine h S B σ H _ st fun _ v H1 x k1 i1 d1 h1 => ?_
  refine h1 S B σ H1 _ (st.keep k1 i1) fun _ w H2 y k2 i2 d2 ⟨xs, k, ex, ey, g1, g2, g3, hΨ⟩ => ?_
  subst ex ey; cases d2
  have st2 := st.keep (k1.trans k2) i2
  cases d1.same ((st.keep k1 i1).kpS k2) with
  | lst e ds =>
    refine ⟨_, _, _, rfl, rfl, (of_hid e).1, g1, g2, by rw [ds.len]; exact g3, fun p np => ?_⟩
    have f := st2.fresh np
    exact q _ _ _ _ _ ((k1.trans k2).trans (st2.new np).1) (st2.new np).2 ((k1.trans k2).none f.2.2 np) upd_same ((flat_repD _ ds).same (hid_new np)) hΨ
end
end Bd
namespace Bd
open PySem PySem.Spec PyProof.Rows L2 HT
theorem hid_congr {T T' : List Addr} {H : Hp} (h : ∀ b, b ∈ T ↔ b ∈ T') : hid T H = hid T' H := by
  funext b
  unfold hid
  by_cases e : b ∈ T
  · rw [if_pos e, if_pos ((h b).mp e)]
  · rw [if_neg e, if_neg fun z => e ((h b).mpr z)]
def nOwn (ρ : List Sl) (i : Nat) : Bool := match ρ[i]? with
  | some (.own _ _) => false
  | _ => true
def nOwnS : Sl → Bool
  | .own _ _ => false
  | _ => true
theorem ownA_set : ∀ {ρ : List Sl} {i : Nat} {s : Sl}, nOwn ρ i = true → nOwnS s = true → ownA (ρ.set i s) = ownA ρ
  | [], _, _, _, _ => rfl
  | r :: ρ, 0, s, h, h' => by
    cases r <;> cases s <;> first | rfl | (simp [nOwn] at h; done) | (simp [nOwnS] at h'; done)
  | r :: ρ, i + 1, s, h, h' => by
    have ih := ownA_set (ρ := ρ) (i := i) (s := s) (by simpa [nOwn] using h) h'
    cases r <;> simp [ownA, ih]
theorem ownA_setSame : ∀ {ρ : List Sl} {i : Nat} {a : Addr} {xs ys : List PyData}, ρ[i]? = some (.own a xs) → ownA (ρ.set i (.own a ys)) = ownA ρ
  | [], _, _, _, _, h => by simp at h
  | r :: ρ, 0, a, xs, ys, h => by
    have e : r = .own a xs := Option.some.inj h
    subst e; rfl
  | r :: ρ, i + 1, a, xs, ys, h => by
    have ih := ownA_setSame (ρ := ρ) (i := i) (a := a) (xs := xs) (ys := ys) (by simpa using h)
    cases r <;> simp [ownA, ih]
theorem get_set {ρ : List Sl} {i j : Nat} {s u : Sl} (h : (ρ.set i s)[j]? = some u) : (i = j ∧ u = s) ∨ (i ≠ j ∧ ρ[j]? = some u) := by
  by_cases e : i = j
  · subst e
    rw [List.getElem?_set_self' ] at h
    cases c : ρ[i]? with
    | none => rw [c] at h; cases h
    | some z => rw [c] at h; exact .inl ⟨rfl, (Option.some.inj h).symm⟩
  · rw [List.getElem?_set_ne e] at h
    exact .inr ⟨e, h⟩
theorem nOwn_of {ρ : List Sl} {i : Nat} {a : Addr} {xs : List PyData} (h : nOwn ρ i = true) (e : ρ[i]? = some (Sl.own a xs)) : False := by
  unfold nOwn at h
  rw [e] at h
  cases h
section
variable {K : PySem.W.Frag} {W : Wd} {S : List Addr} {B : Hp} {ρ : List Sl} {σ : L2.St} {H H' : Hp} {ν : Nat}
theorem Sta.ltl (st : Sta K W S B ρ σ H ν) {i : Nat} (h : i < ρ.length) : i < σ.length := by rw [st.len]; exact h
/-- a slot that owns nothing is set -/
theorem Sta.setS (st : Sta K W S B ρ σ H ν) {i : Nat} {s : Sl} {u : Option V} (n : nOwn ρ i = true) (ns : nOwnS s = true) (ok : SlOk K (hid (S ++ ownA ρ) H) H s u) : Sta K W S B (ρ.set i s) (σ.set i u) H ν := by
  have eo : ownA (ρ.set i s) = ownA ρ := ownA_set n ns
  refine ⟨by rw [List.length_set, List.length_set, st.len], fun j r e => ?_, fun j k a xs ys e1 e2 => ?_, by rw [eo]; exact st.out, st.js, by rw [eo]; exact st.fr, st.inv, st.al, st.gb⟩
  · rw [eo]
    rcases get_set e with ⟨rfl, rfl⟩ | ⟨ne, e'⟩
    · refine ⟨u, ?_, ok⟩
      have hi : i < ρ.length := by have := lt_of_at e; rw [List.length_set] at this; exact this
      rw [List.getElem?_set_self (st.ltl hi)]
    · obtain ⟨w, ew, h⟩ := st.sl j r e'
      exact ⟨w, by rw [List.getElem?_set_ne ne]; exact ew, h⟩
  · rcases get_set e1 with ⟨_, z⟩ | ⟨_, e1⟩
    · rw [← z] at ns; cases ns
    rcases get_set e2 with ⟨_, z⟩ | ⟨_, e2⟩
    · rw [← z] at ns; cases ns
    exact st.nd j k a xs ys e1 e2
theorem Sta.setD (st : Sta K W S B ρ σ H ν) {i : Nat} {x : PyData} {v : V} (n : nOwn ρ i = true) (d : Dd K (hid (S ++ ownA ρ) H) v x) : Sta K W S B (ρ.set i (.d x)) (σ.set i (some v)) H ν := st.setS n rfl ⟨v, rfl, d⟩
/-- .. by a new list -/
theorem Sta.setO (st : Sta K W S B ρ σ H ν) {i : Nat} {a : Addr} {vs : List V} {xs : List PyData} (n : nOwn ρ i = true) (hi : i < ρ.length) (hS : a ∉ S) (ho : a ∉ ownA ρ) (hB : B a = none) (e : H a = some (.lst vs)) (d : Dds K (hid (a :: (S ++ ownA ρ)) H) vs xs) :
    (∀ (j : Nat) (x : PyData), ρ[j]? = some (.d x) → j ≠ i → ∀ v, σ[j]? = some (some v) → Dd K (hid (a :: (S ++ ownA ρ)) H) v x) → (∀ (j : Nat) (b : Addr) (ys : List PyData), ρ[j]? = some (.own b ys) → ∀ us, H b = some (.lst us) → Dds K (hid (a :: (S ++ ownA ρ)) H) us ys) → Sta K W S B (ρ.set i (.own a xs)) (σ.set i (some (.ref a))) H ν := by
  intro hd hw
  have mo : ∀ b, b ∈ ownA (ρ.set i (.own a xs)) ↔ b = a ∨ b ∈ ownA ρ := fun b => by
    rw [mem_ownA, mem_ownA]
    constructor
    · rintro ⟨j, ys, h⟩
      rcases get_set h with ⟨_, z⟩ | ⟨_, h⟩
      · cases z; exact .inl rfl
      · exact .inr ⟨j, ys, h⟩
    · rintro (rfl | ⟨j, ys, h⟩)
      · exact ⟨i, xs, by rw [List.getElem?_set_self hi]⟩
      · refine ⟨j, ys, ?_⟩
        rw [List.getElem?_set_ne (fun z => nOwn_of n (z ▸ h))]
        exact h
  have eh : hid (S ++ ownA (ρ.set i (.own a xs))) H = hid (a :: (S ++ ownA ρ)) H := hid_congr fun b => by
    simp only [List.mem_append, List.mem_cons, mo]
    constructor
    · rintro (h | h | h) <;> simp [h]
    · rintro (h | h | h) <;> simp [h]
  have hJ : a ∉ W.J := fun z => hS (st.js a z)
  refine ⟨by rw [List.length_set, List.length_set, st.len], fun j r e' => ?_, fun j k b ys zs e1 e2 => ?_, fun b hb => ?_, st.js, fun b o eb => ?_, st.inv, st.al, st.gb⟩
  · rw [eh]
    rcases get_set e' with ⟨rfl, rfl⟩ | ⟨ne, e''⟩
    · exact ⟨_, List.getElem?_set_self (st.ltl hi), rfl, vs, e, d⟩
    · obtain ⟨w, ew, h⟩ := st.sl j r e''
      refine ⟨w, by rw [List.getElem?_set_ne ne]; exact ew, ?_⟩
      cases r with
      | un => trivial
      | d x =>
        obtain ⟨v, rfl, h⟩ := h
        exact ⟨v, rfl, hd j x e'' (Ne.symm ne) v ew⟩
      | own b ys =>
        obtain ⟨e1, us, e2, _⟩ := h
        exact ⟨e1, us, e2, hw j b ys e'' us e2⟩
      | «at» v => exact h
  · rcases get_set e1 with ⟨z1, z⟩ | ⟨n1, e1⟩
    · cases z
      rcases get_set e2 with ⟨z2, _⟩ | ⟨_, e2⟩
      · exact z1.symm.trans z2
      · exact absurd (mem_ownA.mpr ⟨_, _, e2⟩) ho
    · rcases get_set e2 with ⟨z2, z⟩ | ⟨_, e2⟩
      · cases z
        exact absurd (mem_ownA.mpr ⟨_, _, e1⟩) ho
      · exact st.nd j k b ys zs e1 e2
  · rcases (mo b).mp hb with rfl | h
    · exact hS
    · exact st.out b h
  · obtain ⟨f1, f2⟩ := of_hid (st.fr b o eb)
    refine hid_of f1 ?_
    rw [List.mem_append, mo]
    rintro (h | rfl | h)
    · exact f2 (List.mem_append_left _ h)
    · rw [hB] at eb; cases eb
    · exact f2 (List.mem_append_right _ h)
/-- an own list, as plain data from now on -/
theorem Sta.freeze (st : Sta K W S B ρ σ H ν) {i : Nat} {a : Addr} {xs : List PyData} (h : ρ[i]? = some (.own a xs)) : Sta K W S B (ρ.set i (.d (.list xs))) σ H ν := by
  have hi : i < ρ.length := lt_of_at h
  have mo : ∀ b, b ∈ ownA (ρ.set i (.d (.list xs))) ↔ b ≠ a ∧ b ∈ ownA ρ := fun b => by
    rw [mem_ownA, mem_ownA]
    constructor
    · rintro ⟨j, ys, e⟩
      rcases get_set e with ⟨_, z⟩ | ⟨ne, e⟩
      · cases z
      · refine ⟨?_, j, ys, e⟩
        rintro rfl
        exact ne (st.nd _ _ _ _ _ h e)
    · rintro ⟨ne, j, ys, e⟩
      refine ⟨j, ys, ?_⟩
      rw [List.getElem?_set_ne (fun z => ne (by rw [← z, h] at e; cases e; rfl))]
      exact e
  have sub : ∀ {T : List Addr}, ∀ b ∈ T ++ ownA (ρ.set i (.d (.list xs))), b ∈ T ++ ownA ρ := fun b hb => by
    rw [List.mem_append, mo] at hb
    rcases hb with hb | hb
    · exact List.mem_append_left _ hb
    · exact List.mem_append_right _ hb.2
  have sm : ∀ {T : List Addr}, Same (hid (T ++ ownA ρ) H) (hid (T ++ ownA (ρ.set i (.d (.list xs)))) H) := hid_sub sub
  refine ⟨by rw [List.length_set]; exact st.len, fun j r e => ?_, fun j k b ys zs e1 e2 => ?_, fun b hb => st.out b ((mo b).mp hb).2, st.js, st.fr.trans sm, st.inv, st.al, st.gb⟩
  · rcases get_set e with ⟨rfl, rfl⟩ | ⟨ne, e'⟩
    · obtain ⟨u, eu, e1, vs, e2, d⟩ := st.sl i _ h
      refine ⟨u, eu, _, e1, .lst (hid_of e2 ?_) (d.same sm)⟩
      rw [List.mem_append, mo]
      rintro (z | ⟨z, _⟩)
      · exact st.out a (mem_ownA.mpr ⟨_, _, h⟩) z
      · exact z rfl
    · obtain ⟨u, eu, h'⟩ := st.sl j r e'
      refine ⟨u, eu, ?_⟩
      cases r with
      | un => trivial
      | d x => obtain ⟨v, e1, d⟩ := h'; exact ⟨v, e1, d.same sm⟩
      | own b ys => obtain ⟨e1, vs, e2, d⟩ := h'; exact ⟨e1, vs, e2, d.same sm⟩
      | «at» v => exact h'
  · rcases get_set e1 with ⟨_, z⟩ | ⟨_, e1⟩
    · cases z
    rcases get_set e2 with ⟨_, z⟩ | ⟨_, e2⟩
    · cases z
    exact st.nd j k b ys zs e1 e2
/-- an own list is written -/
theorem Sta.wrO (st : Sta K W S B ρ σ H ν) {i : Nat} {a : Addr} {xs ys : List PyData} {us : List V} (h : ρ[i]? = some (.own a xs)) (d : Dds K (hid (S ++ ownA ρ) H) us ys) : Sta K W S B (ρ.set i (.own a ys)) σ (upd H a (.lst us)) ν := by
  have eo : ownA (ρ.set i (.own a ys)) = ownA ρ := ownA_setSame h
  have ha : a ∈ ownA ρ := mem_ownA.mpr ⟨_, _, h⟩
  have hi : i < ρ.length := lt_of_at h
  have sm : ∀ {T : List Addr}, Same (hid (T ++ ownA ρ) H) (hid (T ++ ownA ρ) (upd H a (.lst us))) := fun b o e => by
    obtain ⟨e1, e2⟩ := of_hid e
    exact hid_of (by rw [upd_ne (fun (z : b = a) => e2 (List.mem_append_right _ (by rw [z]; exact ha)))]; exact e1) e2
  refine ⟨by rw [List.length_set]; exact st.len, fun j r e => ?_, fun j k b zs ws e1 e2 => ?_, by rw [eo]; exact st.out, st.js, by rw [eo]; exact st.fr.trans sm, W.hI (fun b hb => upd_ne fun (z : b = a) => st.ownJ ha (by rw [← z]; exact hb)) st.inv, st.al, st.gb⟩
  · rw [eo]
    rcases get_set e with ⟨rfl, rfl⟩ | ⟨ne, e'⟩
    · obtain ⟨u, eu, e1, _⟩ := st.sl i _ h
      exact ⟨u, eu, e1, us, upd_same, d.same sm⟩
    · obtain ⟨u, eu, h'⟩ := st.sl j r e'
      refine ⟨u, eu, ?_⟩
      cases r with
      | un => trivial
      | d x => obtain ⟨v, e1, d⟩ := h'; exact ⟨v, e1, d.same sm⟩
      | own b zs =>
        obtain ⟨e1, vs, e2, d⟩ := h'
        refine ⟨e1, vs, ?_, d.same sm⟩
        rw [upd_ne (fun (z : b = a) => ne (st.nd i j a xs zs h (by rw [← z]; exact e')))]
        exact e2
      | «at» v => exact h'
  · have g : ∀ {m : Nat} {c : Addr} {qs : List PyData}, (ρ.set i (.own a ys))[m]? = some (.own c qs) → ∃ qs', ρ[m]? = some (.own c qs') := fun {m c qs} e => by
      rcases get_set e with ⟨rfl, z⟩ | ⟨_, e⟩
      · cases z; exact ⟨xs, h⟩
      · exact ⟨qs, e⟩
    obtain ⟨_, g1⟩ := g e1
    obtain ⟨_, g2⟩ := g e2
    exact st.nd j k b _ _ g1 g2
theorem Sta.rebase (st : Sta K W S B ρ σ H ν) : Sta K W S (hid (W.J ++ ownA ρ) H) ρ σ H ν :=
  ⟨st.len, st.sl, st.nd, st.out, st.js, fun _ _ h => h, st.inv, fun a ha => (st.al a ha).imp id fun ⟨o, e⟩ => ⟨o, st.fr a o e⟩, st.gb.trans st.fr⟩
theorem Sta.base (st : Sta K W S B ρ σ H ν) {B0 : Hp} (k : Same B0 B) (al : ∀ a ∈ S, a ∈ W.J ∨ ∃ o, B0 a = some o) (gb : Same W.G B0) : Sta K W S B0 ρ σ H ν :=
  ⟨st.len, st.sl, st.nd, st.out, st.js, k.trans st.fr, st.inv, al, gb⟩
theorem Sta.alive (st : Sta K W S B ρ σ H ν) : ∀ p ∈ S ++ ownA ρ, ∃ o, H p = some o := fun p hp => by
  rcases List.mem_append.mp hp with h | h
  · rcases st.al p h with h | ⟨o, e⟩
    · exact W.hJ st.inv p h
    · exact ⟨o, (of_hid (st.fr p o e)).1⟩
  · obtain ⟨i, xs, e⟩ := mem_ownA.mp h
    obtain ⟨_, _, _, vs, e2, _⟩ := st.sl i _ e
    exact ⟨_, e2⟩
end
/-! ## what is gone through -/
def ItOk (K : PySem.W.Frag) (Hb : Hp) (J : It) (xs : List PyData) : Prop := ∀ (k : Nat) (H : Hp), Same Hb H → (xs.length ≤ k → J.stop k H) ∧ ∀ x, xs[k]? = some x → J.go k H ∧
  ∀ v H', J.yld k H v H' → Same H H' ∧ ∀ T, Same Hb (hid T H) → (∀ p ∈ T, ∃ o, H p = some o) → Dd K (hid T H') v x
def Di (K : PySem.W.Frag) (W : Wd) (ρ : List Sl) (ν : Nat) (wi : TI) (Ψ : Nat → List PyData → Prop) : Prop := ∀ S B σ H R, Sta K W S B ρ σ H ν →
  (∀ ν' J H' xs, Kp W.J H H' → W.I ν' H' → ItOk K (hid (S ++ ownA ρ) H') J xs → Ψ ν' xs → R J H') → wi σ H R
section
variable {K : PySem.W.Frag} {W : Wd} {ρ : List Sl} {ta tb tc : TE} {tr : TA} {ν : Nat} {Φ : Nat → PyData → Prop} {Ψ : Nat → List PyData → Prop}
theorem sql_inj {K : PySem.W.Frag} {H : Hp} {a : Addr} {xs ys : List V} (h : H a = some (.lst xs)) (e : SqL K H a ys) (hk : SqL K H a xs → SqL K H a ys → xs = ys) : xs = ys := hk (.inl (.inl h)) e
theorem itok_list {Hb : Hp} {a : Addr} {vs : List V} {xs : List PyData} (h : Hb a = some (.lst vs)) (d : Dds K Hb vs xs) : ItOk K Hb (Itl K a) xs := fun k H s => by
  have e : SqL K H a vs := .inl (.inl (s _ _ h))
  refine ⟨fun hk => ⟨vs, e, by rw [d.len]; exact hk⟩, fun x hx => ?_⟩
  obtain ⟨v, ev, dv⟩ := d.at hx
  refine ⟨⟨vs, v, e, ev⟩, ?_⟩
  rintro u H' ⟨rfl, hy⟩
  refine ⟨fun _ _ z => z, fun T sT _ => ?_⟩
  have := hy vs e
  rw [ev] at this
  cases this
  exact dv.same sT
theorem itok_tup {Hb : Hp} {a : Addr} {vs : List V} {xs : List PyData} (h : SqT K Hb a vs) (d : Dds K Hb vs xs) : ItOk K Hb (Itt K a) xs := fun k H s => by
  have e : SqT K H a vs := same_tup s h
  refine ⟨fun hk => ⟨vs, e, by rw [d.len]; exact hk⟩, fun x hx => ?_⟩
  obtain ⟨v, ev, dv⟩ := d.at hx
  refine ⟨⟨vs, v, e, ev⟩, ?_⟩
  rintro u H' ⟨rfl, hy⟩
  refine ⟨fun _ _ z => z, fun T sT _ => ?_⟩
  have := hy vs e
  rw [ev] at this
  cases this
  exact dv.same sT
def rngD (lo : Int) (n : Nat) : List PyData := (List.range n).map fun (i : Nat) => .int (lo + (i : Int))
theorem itok_rng {Hb : Hp} {lo : Int} {n : Nat} : ItOk K Hb (Itr lo n) (rngD lo n) := fun k H s => by
  refine ⟨fun hk => by unfold rngD at hk; rw [List.length_map, List.length_range] at hk; exact hk, fun x hx => ?_⟩
  unfold rngD at hx
  have hk := lt_of_at hx
  rw [List.length_map, List.length_range] at hk
  refine ⟨hk, ?_⟩
  rintro u H' ⟨rfl, rfl⟩
  refine ⟨fun _ _ z => z, fun T sT _ => ?_⟩
  rw [List.getElem?_map, List.getElem?_range hk] at hx
  cases hx
  exact .int _
def zipD (xs ys : List PyData) : List PyData := List.zipWith (fun x y => .tuple [x, y]) xs ys
theorem itok_zip {Hb : Hp} {a b : Addr} {vs us : List V} {xs ys : List PyData} (h : Hb a = some (.lst vs)) (d : Dds K Hb vs xs) (h' : Hb b = some (.lst us)) (d' : Dds K Hb us ys) : ItOk K Hb (Itz K a b) (zipD xs ys) := fun k H s => by
  have e : SqL K H a vs := .inl (.inl (s _ _ h))
  have e' : SqL K H b us := .inl (.inl (s _ _ h'))
  refine ⟨fun hk => ⟨vs, us, e, e', ?_⟩, fun x hx => ?_⟩
  · unfold zipD at hk
    rw [List.length_zipWith] at hk
    rw [d.len, d'.len]
    omega
  · unfold zipD at hx
    rw [List.getElem?_zipWith] at hx
    cases c1 : xs[k]? with
    | none => rw [c1] at hx; simp at hx
    | some x1 =>
      cases c2 : ys[k]? with
      | none => rw [c1, c2] at hx; simp at hx
      | some y1 =>
        rw [c1, c2] at hx
        cases hx
        obtain ⟨v, ev, dv⟩ := d.at c1
        obtain ⟨u, eu, du⟩ := d'.at c2
        refine ⟨⟨vs, us, v, u, e, e', ev, eu⟩, ?_⟩
        rintro w H' ⟨T, x, y, rfl, nT, rfl, hy, hy'⟩
        refine ⟨same_new nT, fun Z sZ al => ?_⟩
        have z1 := hy vs e
        have z2 := hy' us e'
        rw [ev] at z1; rw [eu] at z2
        cases z1; cases z2
        have nz : T ∉ Z := fun z => by obtain ⟨o, eo⟩ := al T z; rw [nT] at eo; cases eo
        have sm : Same Hb (hid Z (upd H T (.tup [v, u]))) := sZ.trans (hid_new' nT)
        exact .tup (.inl (.inl (hid_of upd_same nz))) (.cons (dv.same sm) (.cons (du.same sm) .nil))
def enumD (xs : List PyData) : List PyData := List.zipWith (fun (i : Nat) x => .tuple [.int (i : Int), x]) (List.range xs.length) xs
theorem enumD_at {xs : List PyData} {k : Nat} {x : PyData} (h : xs[k]? = some x) : (enumD xs)[k]? = some (.tuple [.int (k : Int), x]) := by
  unfold enumD
  rw [List.getElem?_zipWith, h, List.getElem?_range (lt_of_at h)]
theorem enumD_len (xs : List PyData) : (enumD xs).length = xs.length := by
  unfold enumD; rw [List.length_zipWith, List.length_range]; omega
theorem itok_enum {Hb : Hp} {a : Addr} {vs : List V} {xs : List PyData} (h : Hb a = some (.lst vs)) (d : Dds K Hb vs xs) : ItOk K Hb (Ite K a) (enumD xs) := fun k H s => by
  have e : SqL K H a vs := .inl (.inl (s _ _ h))
  refine ⟨fun hk => ⟨vs, e, by rw [enumD_len] at hk; rw [d.len]; exact hk⟩, fun x hx => ?_⟩
  have hk := lt_of_at hx
  rw [enumD_len] at hk
  have c1 : xs[k]? = some xs[k] := List.getElem?_eq_getElem hk
  rw [enumD_at c1] at hx
  cases hx
  obtain ⟨v, ev, dv⟩ := d.at c1
  refine ⟨⟨vs, v, e, ev⟩, ?_⟩
  rintro w H' ⟨T, x, rfl, nT, rfl, hy⟩
  refine ⟨same_new nT, fun Z sZ al => ?_⟩
  have z1 := hy vs e
  rw [ev] at z1
  cases z1
  have nz : T ∉ Z := fun z => by obtain ⟨o, eo⟩ := al T z; rw [nT] at eo; cases eo
  have sm : Same Hb (hid Z (upd H T (.tup [.int (k : Nat), v]))) := sZ.trans (hid_new' nT)
  exact .tup (.inl (.inl (hid_of upd_same nz))) (.cons (.int _) (.cons (dv.same sm) .nil))
theorem di_list (h : De K W ρ ν ta fun ν1 x => ∃ xs, x = .list xs ∧ Ψ ν1 xs) : Di K W ρ ν (iList K ta) Ψ := fun S B σ H R st q => by
  refine h S B σ H _ st fun _ v H1 x k1 i1 d1 ⟨xs, ex, hΨ⟩ => ?_
  subst ex
  cases d1 with
  | lst e ds => exact ⟨_, rfl, ⟨_, .inl (.inl (of_hid e).1)⟩, q _ _ _ xs k1 i1 (itok_list e ds) hΨ⟩
theorem di_tup (h : De K W ρ ν ta fun ν1 x => ∃ xs, x = .tuple xs ∧ Ψ ν1 xs) : Di K W ρ ν (iTup K ta) Ψ := fun S B σ H R st q => by
  refine h S B σ H _ st fun _ v H1 x k1 i1 d1 ⟨xs, ex, hΨ⟩ => ?_
  subst ex
  cases d1 with
  | tup e ds => exact ⟨_, rfl, ⟨_, same_tup hid_same e⟩, q _ _ _ xs k1 i1 (itok_tup e ds) hΨ⟩
theorem di_rng1 (h : Da K W ρ ν tr fun ν1 xs => ∃ j : Int, xs = [.int j] ∧ -(2 ^ 62) ≤ j ∧ j < 2 ^ 62 ∧ Ψ ν1 (rngD 0 j.toNat)) : Di K W ρ ν (iRng1 tr) Ψ := fun S B σ H R st q => by
  refine h S B σ H _ st fun _ vs H1 xs k1 i1 d1 ⟨j, ex, g1, g2, hΨ⟩ => ?_
  subst ex
  cases d1 with
  | cons d1 d2 =>
    cases d1; cases d2
    exact ⟨j, rfl, g1, g2, q _ _ _ _ k1 i1 itok_rng hΨ⟩
theorem di_rng2 (h : Da K W ρ ν tr fun ν1 xs => ∃ i j : Int, xs = [.int i, .int j] ∧ (-(2 ^ 62) ≤ i ∧ i < 2 ^ 62 ∧ -(2 ^ 62) ≤ j ∧ j < 2 ^ 62) ∧ Ψ ν1 (rngD i (j - i).toNat)) : Di K W ρ ν (iRng2 tr) Ψ := fun S B σ H R st q => by
  refine h S B σ H _ st fun _ vs H1 xs k1 i1 d1 ⟨i, j, ex, g1, hΨ⟩ => ?_
  subst ex
  cases d1 with
  | cons d1 d2 =>
    cases d2 with
    | cons d2 d3 =>
      cases d1; cases d2; cases d3
      exact ⟨i, j, rfl, g1, q _ _ _ _ k1 i1 itok_rng hΨ⟩
theorem di_zip (h : Da K W ρ ν tr fun ν1 xs => ∃ x y, xs = [.list x, .list y] ∧ Ψ ν1 (zipD x y)) : Di K W ρ ν (iZip K tr) Ψ := fun S B σ H R st q => by
  refine h S B σ H _ st fun _ vs H1 xs k1 i1 d1 ⟨x, y, ex, hΨ⟩ => ?_
  subst ex
  cases d1 with
  | cons d1 d2 =>
    cases d2 with
    | cons d2 d3 =>
      cases d3
      cases d1 with
      | lst e ds =>
        cases d2 with
        | lst e2 ds2 => exact ⟨_, _, _, _, rfl, .inl (.inl (of_hid e).1), .inl (.inl (of_hid e2).1), q _ _ _ _ k1 i1 (itok_zip e ds e2 ds2) hΨ⟩
theorem di_enum (h : Da K W ρ ν tr fun ν1 xs => ∃ x, xs = [.list x] ∧ Ψ ν1 (enumD x)) : Di K W ρ ν (iEnum K tr) Ψ := fun S B σ H R st q => by
  refine h S B σ H _ st fun _ vs H1 xs k1 i1 d1 ⟨x, ex, hΨ⟩ => ?_
  subst ex
  cases d1 with
  | cons d1 d2 =>
    cases d2
    cases d1 with
    | lst e ds => exact ⟨_, _, rfl, .inl (.inl (of_hid e).1), q _ _ _ _ k1 i1 (itok_enum e ds) hΨ⟩
/-! ## targets -/
def Dg (K : PySem.W.Frag) (W : Wd) (ρ : List Sl) (ν : Nat) (P : Nat → Prop) (g : TG) (x : PyData) (Θ : List Sl → Prop) : Prop := ∀ S B σ H v Q, Sta K W S B ρ σ H ν → Dd K (hid (S ++ ownA ρ) H) v x →
  (∀ ρ' σ', Sta K W S B ρ' σ' H ν → ownA ρ' = ownA ρ → (σ'.length = σ.length ∧ ∀ n, ¬ P n → σ'[n]? = σ[n]?) → Θ ρ' → Q σ' H) → g v σ H Q
def Dgs (K : PySem.W.Frag) (W : Wd) (ρ : List Sl) (ν : Nat) (P : Nat → Prop) (g : TGs) (xs : List PyData) (Θ : List Sl → Prop) : Prop := ∀ S B σ H vs Q, Sta K W S B ρ σ H ν → Dds K (hid (S ++ ownA ρ) H) vs xs →
  (∀ ρ' σ', Sta K W S B ρ' σ' H ν → ownA ρ' = ownA ρ → (σ'.length = σ.length ∧ ∀ n, ¬ P n → σ'[n]? = σ[n]?) → Θ ρ' → Q σ' H) → g vs σ H Q
variable {P : Nat → Prop} {Θ : List Sl → Prop}
theorem dg_name {i : Nat} {x : PyData} (n : nOwn ρ i = true) (hp : P i) (h : Θ (ρ.set i (.d x))) : Dg K W ρ ν P (gName i) x Θ := fun S B σ H v Q st d q =>
  q _ _ (st.setD n d) (ownA_set n rfl) ⟨List.length_set .., fun m hm => List.getElem?_set_ne fun (z : i = m) => hm (by rw [← z]; exact hp)⟩ h
theorem dgs_nil (h : Θ ρ) : Dgs K W ρ ν P gNil [] Θ := fun S B σ H vs Q st d q => by
  cases d
  exact ⟨rfl, q _ _ st rfl ⟨rfl, fun _ _ => rfl⟩ h⟩
theorem dgs_cons {g : TG} {gs : TGs} {x : PyData} {xs : List PyData} (h : Dg K W ρ ν P g x fun ρ' => Dgs K W ρ' ν P gs xs Θ) : Dgs K W ρ ν P (gCons g gs) (x :: xs) Θ := fun S B σ H vs Q st d q => by
  cases d with
  | cons d1 d2 =>
    refine ⟨_, _, rfl, h S B σ H _ _ st d1 fun ρ' σ' st' eo' e' h' => ?_⟩
    exact h' S B σ' H _ _ st' (by rw [eo']; exact d2) fun ρ2 σ2 st2 eo2 e2 hΘ => q ρ2 σ2 st2 (eo2.trans eo') ⟨e2.1.trans e'.1, fun n hn => (e2.2 n hn).trans (e'.2 n hn)⟩ hΘ
theorem dg_tup {n : Nat} {g : TGs} {xs : List PyData} (hn : xs.length = n) (h : Dgs K W ρ ν P g xs Θ) : Dg K W ρ ν P (gTup K n g) (.tuple xs) Θ := fun S B σ H v Q st d q => by
  cases d with
  | tup e ds => exact ⟨_, _, rfl, same_tup hid_same e, by rw [ds.len]; exact hn, h S B σ H _ _ st ds q⟩
theorem dg_unl {n : Nat} {g : TGs} {xs : List PyData} (hn : xs.length = n) (h : Dgs K W ρ ν P g xs Θ) : Dg K W ρ ν P (gUnl K n g) (.list xs) Θ := fun S B σ H v Q st d q => by
  cases d with
  | lst e ds => exact ⟨_, _, rfl, .inl (.inl (of_hid e).1), by rw [ds.len]; exact hn, h S B σ H _ _ st ds q⟩
end
end Bd
namespace Bd
open PySem PySem.Spec PyProof.Rows L2 HT
/-! ## statements -/
structure Po where
  nx : Nat → List Sl → Prop
  rt : Nat → Sl → Prop
  bk : Nat → List Sl → Prop
  ct : Nat → List Sl → Prop
def RetOk (K : PySem.W.Frag) (W : Wd) (S : List Addr) (B : Hp) (s : Sl) (v : V) (H : Hp) (ν : Nat) : Prop := Same B (hid W.J H) ∧ W.I ν H ∧ match s with
  | .d x => Dd K (hid S H) v x
  | .own a xs => v = .ref a ∧ a ∉ S ∧ B a = none ∧ ∃ vs, H a = some (.lst vs) ∧ Dds K (hid (a :: S) H) vs xs
  | .at u => v = u
  | .un => True
structure EndsOk (K : PySem.W.Frag) (W : Wd) (S : List Addr) (B : Hp) (P : Po) (D : Ends) : Prop where
  nx : ∀ ν ρ σ H, Sta K W S B ρ σ H ν → P.nx ν ρ → D.nx σ H
  rt : ∀ ν s v H, RetOk K W S B s v H ν → P.rt ν s → D.rt v H
  bk : ∀ ν ρ σ H, Sta K W S B ρ σ H ν → P.bk ν ρ → D.bk σ H
  ct : ∀ ν ρ σ H, Sta K W S B ρ σ H ν → P.ct ν ρ → D.ct σ H
def Ds (K : PySem.W.Frag) (W : Wd) (ρ : List Sl) (ν : Nat) (t : TS) (P : Po) : Prop := ∀ S B σ H D, Sta K W S B ρ σ H ν → EndsOk K W S B P D → t D σ H
section
variable {K : PySem.W.Frag} {W : Wd} {S : List Addr} {B : Hp} {ρ : List Sl} {σ : L2.St} {H H' : Hp} {ta tb tc te ti : TE} {tr : TA} {ν : Nat} {Φ : Nat → PyData → Prop} {Ψ : Nat → List PyData → Prop} {P : Po} {t u : TS}
theorem Sta.ret (st : Sta K W S B ρ σ H ν) {v : V} {x : PyData} (d : Dd K (hid (S ++ ownA ρ) H) v x) : RetOk K W S B (.d x) v H ν :=
  ⟨st.fr.trans (hid_sub fun b hb => List.mem_append_left _ hb), st.inv, d.same (hid_sub fun b hb => List.mem_append_left _ hb)⟩
theorem ds_seq (h : Ds K W ρ ν t { P with nx := fun ν1 ρ' => Ds K W ρ' ν1 u P }) : Ds K W ρ ν (tSeq t u) P := fun S B σ H D st e =>
  h S B σ H { D with nx := u D } st ⟨fun ν' ρ' σ' H' st' h' => h' S B σ' H' D st' e, e.rt, e.bk, e.ct⟩
theorem ds_mid {M : Nat → List Sl → Prop} (h : Ds K W ρ ν t { P with nx := M }) (h2 : ∀ ν' ρ', M ν' ρ' → Ds K W ρ' ν' u P) : Ds K W ρ ν (tMid t u) P := fun S B σ H D st e =>
  ⟨fun σ' H' => ∃ ν' ρ', Sta K W S B ρ' σ' H' ν' ∧ M ν' ρ', h S B σ H _ st ⟨fun ν' ρ' σ' H' st' h' => ⟨ν', ρ', st', h'⟩, e.rt, e.bk, e.ct⟩, fun σ' H' ⟨ν', ρ', st', h'⟩ => h2 ν' ρ' h' S B σ' H' D st' e⟩
theorem ds_next (h : P.nx ν ρ) : Ds K W ρ ν tNext P := fun S B σ H D st e => e.nx _ ρ σ H st h
theorem ds_break (h : P.bk ν ρ) : Ds K W ρ ν tBreak P := fun S B σ H D st e => e.bk _ ρ σ H st h
theorem ds_cont (h : P.ct ν ρ) : Ds K W ρ ν tCont P := fun S B σ H D st e => e.ct _ ρ σ H st h
theorem ds_set {i : Nat} (n : nOwn ρ i = true) (h : De K W ρ ν te fun ν1 x => P.nx ν1 (ρ.set i (.d x))) : Ds K W ρ ν (tAsg te (gName i)) P := fun S B σ H D st e =>
  h S B σ H _ st fun _ v H' x k i' d hΦ => e.nx _ _ _ _ ((st.keep k i').setD n d) hΦ
theorem ds_asg {g : TG} (h : De K W ρ ν te fun ν1 x => Dg K W ρ ν1 (fun _ => True) g x (P.nx ν1)) : Ds K W ρ ν (tAsg te g) P := fun S B σ H D st e =>
  h S B σ H _ st fun _ v H' x k i' d hΦ => hΦ S B σ H' v _ (st.keep k i') d fun ρ' σ' st' _ _ hΘ => e.nx _ ρ' σ' H' st' hΘ
theorem ds_setO {i : Nat} (n : nOwn ρ i = true) (hi : i < ρ.length) (h : Do K W ρ ν te fun ν1 xs => ∀ a, P.nx ν1 (ρ.set i (.own a xs))) : Ds K W ρ ν (tAsg te (gName i)) P := fun S B σ H D st e =>
  h S B σ H _ st fun _ a H' vs xs k i' nH ea d hΦ => by
    have f := st.fresh nH
    have st' := st.keep k i'
    have sm : ∀ {b o}, hid (S ++ ownA ρ) H b = some o → hid (a :: (S ++ ownA ρ)) H' b = some o := fun {b o} eb => by
      obtain ⟨e1, e2⟩ := of_hid (st.kpS k b o eb)
      refine hid_of e1 ?_
      rw [List.mem_cons]
      rintro (rfl | z)
      · have := (of_hid eb).1; rw [nH] at this; cases this
      · exact e2 z
    refine e.nx _ _ _ _ (st'.setO n hi f.1 f.2.1 ?_ ea d (fun j x ej nj v ev => ?_) (fun j b ys ej us eu => ?_)) (hΦ a)
    · cases c : B a with
      | none => rfl
      | some o => have := (of_hid (st.fr a o c)).1; rw [nH] at this; cases this
    · obtain ⟨v', ev', dv⟩ := st.slot ej
      rw [ev] at ev'
      cases ev'
      exact dv.same fun b o z => sm z
    · obtain ⟨w, ew, e1, us', e2, dw⟩ := st.sl j _ ej
      have := k.at e2 (st.ownJ (mem_ownA.mpr ⟨_, _, ej⟩))
      rw [eu] at this
      cases this
      exact dw.same fun b o z => sm z
/-- x[i] = e -/
theorem ds_sub {i : Nat} {a : Addr} {xs : List PyData} (ho : ρ[i]? = some (.own a xs)) (h : De K W ρ ν te fun ν1 x => De K W ρ ν1 ti fun ν2 y => ∃ n j, y = .int n ∧ ixN xs.length n = some j ∧ P.nx ν2 (ρ.set i (.own a (xs.set j x)))) :
    Ds K W ρ ν (tAsg te (gSub (tVar i) ti rSetL)) P := fun S B σ H D st e =>
  h S B σ H _ st fun _ v H1 x k1 i1 d1 h1 => by
    have st1 := st.keep k1 i1
    obtain ⟨w, ew, e1, vs, e2, d⟩ := st1.sl i _ ho
    subst e1
    refine ⟨_, ew, h1 S B σ H1 _ st1 fun _ y H2 z k2 i2 d2 ⟨n, j, ez, ej, hP⟩ => ?_⟩
    subst ez; cases d2
    have st2 := st1.keep k2 i2
    have e3 := k2.at e2 (st1.ownJ (mem_ownA.mpr ⟨_, _, ho⟩))
    refine ⟨a, vs, n, j, rfl, rfl, e3, by rw [d.len]; exact ej, ?_⟩
    exact e.nx _ _ _ _ (st2.wrO ho ((d.same (st1.kpS k2)).set (d1.same (st1.kpS k2)))) hP
/-- x[i] op= e, of numbers -/
theorem ds_augS {i : Nat} {a : Addr} {xs : List PyData} {f : Int → Int → Int} (ho : ρ[i]? = some (.own a xs))
    (h : De K W ρ ν ti fun ν1 y => ∃ (n : Int) (j : Nat) (c : Int), y = .int n ∧ 0 ≤ n ∧ n = (j : Int) ∧ xs[j]? = some (.int c) ∧ De K W ρ ν1 te fun ν2 z => ∃ m, z = .int m ∧ P.nx ν2 (ρ.set i (.own a (xs.set j (.int (f c m)))))) :
    Ds K W ρ ν (tAugS (tVar i) ti te (rGetL K) (ipI f) rSetL) P := fun S B σ H D st e => by
  obtain ⟨w, ew, e1, vs, e2, d⟩ := st.sl i _ ho
  subst e1
  refine ⟨_, ew, h S B σ H _ st fun _ y H1 x k1 i1 d1 ⟨n, j, c, ex, h0, en, ec, h1⟩ => ?_⟩
  subst ex en; cases d1
  have st1 := st.keep k1 i1
  have e3 := k1.at e2 (st.ownJ (mem_ownA.mpr ⟨_, _, ho⟩))
  have d' := d.same (st.kpS k1)
  obtain ⟨u, eu, du⟩ := d'.at ec
  cases du
  refine ⟨a, vs, _, .int c, rfl, rfl, h0, .inl (.inl e3), atI_nat eu, h1 S B σ H1 _ st1 fun _ z H2 zz k2 i2 d2 ⟨m, ez, hP⟩ => ?_⟩
  subst ez; cases d2
  have st2 := st1.keep k2 i2
  have e4 := k2.at e3 (st.ownJ (mem_ownA.mpr ⟨_, _, ho⟩))
  refine ⟨c, m, rfl, rfl, a, vs, _, j, rfl, rfl, e4, ixN_nat (lt_of_at eu), ?_⟩
  exact e.nx _ _ _ _ (st2.wrO ho ((d'.same (st1.kpS k2)).set (.int _))) hP
theorem ds_aug {i : Nat} {f : Int → Int → Int} {c : Int} (hx : ρ[i]? = some (.d (.int c))) (h : De K W ρ ν te fun ν1 z => ∃ m, z = .int m ∧ P.nx ν1 (ρ.set i (.d (.int (f c m))))) : Ds K W ρ ν (tAug i te (ipI f)) P := fun S B σ H D st e => by
  obtain ⟨v, ev, d⟩ := st.slot hx
  cases d
  refine ⟨_, ev, h S B σ H _ st fun _ z H1 x k1 i1 d1 ⟨m, ex, hP⟩ => ?_⟩
  subst ex; cases d1
  have n : nOwn ρ i = true := by unfold nOwn; rw [hx]
  exact ⟨c, m, rfl, rfl, e.nx _ _ _ _ ((st.keep k1 i1).setD n (.int _)) hP⟩
theorem ds_drop (h : De K W ρ ν te fun ν1 _ => P.nx ν1 ρ) : Ds K W ρ ν (tDrop te) P := fun S B σ H D st e => h S B σ H _ st fun _ v H' x k i' d hΦ => e.nx _ _ _ _ (st.keep k i') hΦ
theorem ds_append {i : Nat} {a : Addr} {xs : List PyData} (ho : ρ[i]? = some (.own a xs)) (h : De K W ρ ν te fun ν1 x => xs.length < sizeLine ∧ P.nx ν1 (ρ.set i (.own a (xs ++ [x])))) : Ds K W ρ ν (tDrop (tBM K "list" rAppend (tVar i) (tCons te tNil))) P := fun S B σ H D st e => by
  obtain ⟨w, ew, e1, vs, e2, d⟩ := st.sl i _ ho
  subst e1
  refine ⟨_, ew, .inl ⟨rfl, _, .inl (.inl e2)⟩, h S B σ H _ st fun _ v H1 x k1 i1 d1 ⟨hl, hP⟩ => ?_⟩
  have st1 := st.keep k1 i1
  exact ⟨a, vs, v, rfl, rfl, k1.at e2 (st.ownJ (mem_ownA.mpr ⟨_, _, ho⟩)), by rw [d.len]; exact hl, e.nx _ _ _ _ (st1.wrO ho ((d.same (st.kpS k1)).snoc d1)) hP⟩
theorem ds_extend {i : Nat} {a : Addr} {xs : List PyData} (ho : ρ[i]? = some (.own a xs)) (h : De K W ρ ν te fun ν1 x => ∃ ys, x = .list ys ∧ xs.length + ys.length ≤ sizeLine ∧ P.nx ν1 (ρ.set i (.own a (xs ++ ys)))) : Ds K W ρ ν (tDrop (tBM K "list" rExtend (tVar i) (tCons te tNil))) P := fun S B σ H D st e => by
  obtain ⟨w, ew, e1, vs, e2, d⟩ := st.sl i _ ho
  subst e1
  refine ⟨_, ew, .inl ⟨rfl, _, .inl (.inl e2)⟩, h S B σ H _ st fun _ v H1 x k1 i1 d1 ⟨ys, ex, hl, hP⟩ => ?_⟩
  subst ex
  have st1 := st.keep k1 i1
  cases d1 with
  | lst e5 ds => exact ⟨a, _, vs, _, rfl, rfl, k1.at e2 (st.ownJ (mem_ownA.mpr ⟨_, _, ho⟩)), (of_hid e5).1, by rw [d.len, ds.len]; exact hl, e.nx _ _ _ _ (st1.wrO ho ((d.same (st.kpS k1)).app ds)) hP⟩
theorem ds_clear {i : Nat} {a : Addr} {xs : List PyData} (ho : ρ[i]? = some (.own a xs)) (hP : P.nx ν (ρ.set i (.own a []))) : Ds K W ρ ν (tDrop (tBM0 K "list" rClear (tVar i))) P := fun S B σ H D st e => by
  obtain ⟨w, ew, e1, vs, e2, d⟩ := st.sl i _ ho
  subst e1
  exact ⟨_, ew, .inl ⟨rfl, _, .inl (.inl e2)⟩, a, vs, rfl, rfl, e2, e.nx _ _ _ _ (st.wrO ho .nil) hP⟩
theorem ds_insert {i : Nat} {a : Addr} {xs : List PyData} {r : V → List V → Hp → VK → Prop} (ho : ρ[i]? = some (.own a xs))
    (hr : ∀ H Q (vs : List V) (k : Int) (y : V), H a = some (.lst vs) → vs.length < sizeLine → 0 ≤ k → k < 2 ^ 63 → Q .non (upd H a (.lst (vs.take k.toNat ++ [y] ++ vs.drop k.toNat))) → r (.ref a) [.int k, y] H Q)
    (h : De K W ρ ν ta fun ν1 x => De K W ρ ν1 te fun ν2 y => ∃ k : Int, x = .int k ∧ xs.length < sizeLine ∧ 0 ≤ k ∧ k < 2 ^ 63 ∧ P.nx ν2 (ρ.set i (.own a (xs.take k.toNat ++ [y] ++ xs.drop k.toNat)))) :
    Ds K W ρ ν (tDrop (tBM K "list" r (tVar i) (tCons ta (tCons te tNil)))) P := fun S B σ H D st e => by
  obtain ⟨w, ew, e1, vs, e2, d⟩ := st.sl i _ ho
  subst e1
  refine ⟨_, ew, .inl ⟨rfl, _, .inl (.inl e2)⟩, h S B σ H _ st fun _ v H1 x k1 i1 d1 h1 => ?_⟩
  have st1 := st.keep k1 i1
  refine h1 S B σ H1 _ st1 fun _ v2 H2 y k2 i2 d2 ⟨k, ex, hl, h0, h63, hP⟩ => ?_
  subst ex; cases d1
  have st2 := st1.keep k2 i2
  have dd := d.same (st.kpS (k1.trans k2))
  exact hr H2 _ vs k v2 ((k1.trans k2).at e2 (st.ownJ (mem_ownA.mpr ⟨_, _, ho⟩))) (by rw [d.len]; exact hl) h0 h63 (e.nx _ _ _ _ (st2.wrO ho (((dd.take _).snoc d2).app (dd.drop _))) hP)
theorem ds_if {c : TT} (h : Dt K W ρ ν c fun ν1 b => (b = true → Ds K W ρ ν1 t P) ∧ (b = false → Ds K W ρ ν1 u P)) : Ds K W ρ ν (tIfS c t u) P := fun S B σ H D st e => by
  refine h S B σ H _ st fun _ b H1 k1 i1 ⟨ht, hf⟩ => ?_
  cases b with
  | true => exact ht rfl S B σ H1 D (st.keep k1 i1) e
  | false => exact hf rfl S B σ H1 D (st.keep k1 i1) e
theorem ds_ret (h : De K W ρ ν te fun ν1 x => P.rt ν1 (.d x)) : Ds K W ρ ν (tRet te) P := fun S B σ H D st e => h S B σ H _ st fun _ v H' x k i' d hΦ => e.rt _ _ _ _ ((st.keep k i').ret d) hΦ
theorem ds_retN (h : P.rt ν (.d .none)) : Ds K W ρ ν tRetN P := fun S B σ H D st e => e.rt _ _ _ _ (st.ret .non) h
theorem ds_retO (h : Do K W ρ ν te fun ν1 xs => ∀ a, P.rt ν1 (.own a xs)) : Ds K W ρ ν (tRet te) P := fun S B σ H D st e => h S B σ H _ st fun _ a H' vs xs k i' nH ea d hΦ => by
  have f := st.fresh nH
  have r := ((st.keep k i').ret (v := .non) .non)
  refine e.rt _ (.own a xs) _ _ ⟨r.1, r.2.1, rfl, f.1, ?_, vs, ea, d.same (hid_sub fun b hb => ?_)⟩ (hΦ a)
  · cases c : B a with
    | none => rfl
    | some o => have := (of_hid (st.fr a o c)).1; rw [nH] at this; cases this
  · simp only [List.mem_cons, List.mem_append] at hb ⊢
    rcases hb with z | z
    · exact .inl z
    · exact .inr (.inl z)
theorem ds_retV {i : Nat} {a : Addr} {xs : List PyData} (ho : ρ[i]? = some (.own a xs)) (h : P.rt ν (.own a xs)) : Ds K W ρ ν (tRet (tVar i)) P := fun S B σ H D st e => by
  obtain ⟨w, ew, e1, vs, e2, d⟩ := st.sl i _ ho
  subst e1
  have ha : a ∈ ownA ρ := mem_ownA.mpr ⟨_, _, ho⟩
  have r := (st.ret (v := .non) .non)
  refine ⟨_, ew, e.rt _ (.own a xs) _ _ ⟨r.1, r.2.1, rfl, st.out a ha, ?_, vs, e2, d.same (hid_sub fun b hb => ?_)⟩ h⟩
  · cases c : B a with
    | none => rfl
    | some o => exact absurd (List.mem_append_right _ ha) (of_hid (st.fr a o c)).2
  · simp only [List.mem_cons, List.mem_append] at hb ⊢
    rcases hb with rfl | z
    · exact .inr ha
    · exact .inl z
theorem ds_freeze (i : Nat) {a : Addr} {xs : List PyData} (ho : ρ[i]? = some (.own a xs)) (h : Ds K W (ρ.set i (.d (.list xs))) ν t P) : Ds K W ρ ν t P := fun S B σ H D st e => h S B σ H D (st.freeze ho) e
/-- a slot is forgotten -/
theorem Sta.same0 (st : Sta K W S B ρ σ H ν) {i : Nat} (n : nOwn ρ i = true) : Sta K W S B (ρ.set i .un) σ H ν := by
  have eo : ownA (ρ.set i .un) = ownA ρ := ownA_set n rfl
  refine ⟨by rw [List.length_set, st.len], fun j r e => ?_, fun j k a xs ys e1 e2 => ?_, by rw [eo]; exact st.out, st.js, by rw [eo]; exact st.fr, st.inv, st.al, st.gb⟩
  · rw [eo]
    rcases get_set e with ⟨rfl, rfl⟩ | ⟨ne, e'⟩
    · have hi : i < ρ.length := by have := lt_of_at e; rw [List.length_set] at this; exact this
      exact ⟨_, List.getElem?_eq_getElem (st.ltl hi), trivial⟩
    · exact st.sl j r e'
  · rcases get_set e1 with ⟨_, z⟩ | ⟨_, e1⟩
    · cases z
    rcases get_set e2 with ⟨_, z⟩ | ⟨_, e2⟩
    · cases z
    exact st.nd j k a xs ys e1 e2
theorem ds_forget (i : Nat) (n : nOwn ρ i = true) (h : Ds K W (ρ.set i .un) ν t P) : Ds K W ρ ν t P := fun S B σ H D st e => h S B σ H D (st.same0 n) e
/-! loops -/
theorem ItOk.to {Hb Hb' : Hp} {J : It} {xs : List PyData} (h : ItOk K Hb J xs) (s : Same Hb Hb') : ItOk K Hb' J xs := fun k H e => ⟨(h k H (s.trans e)).1, fun x hx => ⟨((h k H (s.trans e)).2 x hx).1, fun v H' y => ⟨(((h k H (s.trans e)).2 x hx).2 v H' y).1, fun T sT al => (((h k H (s.trans e)).2 x hx).2 v H' y).2 T (s.trans sT) al⟩⟩⟩
theorem ds_for {wi : TI} {g : TG} {tb : TS}
    (h : Di K W ρ ν wi fun ν1 xs => ∃ Iv : Nat → Nat → List Sl → Prop, Iv 0 ν1 ρ ∧ (∀ k x ν2 ρ', xs[k]? = some x → Iv k ν2 ρ' → Dg K W ρ' ν2 (fun _ => True) g x fun ρ2 => Ds K W ρ2 ν2 tb ⟨Iv (k + 1), P.rt, P.nx, Iv (k + 1)⟩) ∧ ∀ ν2 ρ', Iv xs.length ν2 ρ' → P.nx ν2 ρ') :
    Ds K W ρ ν (tFor wi g tb) P := fun S B σ H D st e => by
  refine h S B σ H _ st fun _ J H1 xs k1 i1 it ⟨Iv, h0, hs, hd⟩ => ?_
  have st1 := st.keep k1 i1
  have st1' := st1.rebase
  have bs : Same B (hid (W.J ++ ownA ρ) H1) := st1.fr
  refine ⟨fun i m σ H => m = xs.length - i ∧ i ≤ xs.length ∧ ∃ ν' ρ', Sta K W S (hid (W.J ++ ownA ρ) H1) ρ' σ H ν' ∧ Iv i ν' ρ', ⟨xs.length, by simp, Nat.zero_le _, _, ρ, st1', h0⟩, ?_⟩
  rintro i m σ2 H2 ⟨rfl, hi, ν2, ρ2, st2, hI⟩
  have bb : ∀ {T : List Addr}, (∀ b ∈ T, b ∈ S ++ ownA ρ2) → Same (hid (S ++ ownA ρ) H1) (hid T H2) := fun {T} hT b o eb => by
    obtain ⟨e1, e2⟩ := of_hid eb
    have e3 : hid (W.J ++ ownA ρ) H1 b = some o := hid_of e1 fun z => e2 (by
      rcases List.mem_append.mp z with z | z
      · exact List.mem_append_left _ (st.js b z)
      · exact List.mem_append_right _ z)
    obtain ⟨e4, e5⟩ := of_hid (st2.fr b o e3)
    refine hid_of e4 fun z => ?_
    rcases List.mem_append.mp (hT b z) with z | z
    · exact e2 (List.mem_append_left _ z)
    · exact e5 (List.mem_append_right _ z)
  have ik := it i H2 (by have := bb (T := []) (fun b hb => by cases hb); exact this.trans hid_same)
  by_cases hlt : i < xs.length
  · right
    obtain ⟨g1, g2⟩ := ik.2 _ (List.getElem?_eq_getElem hlt)
    refine ⟨g1, fun σ' H' => ∃ ν' ρ', Sta K W S (hid (W.J ++ ownA ρ) H1) ρ' σ' H' ν' ∧ Iv (i + 1) ν' ρ', fun σ' H' ⟨ν', ρ', s', p'⟩ => ⟨xs.length - (i + 1), by omega, rfl, hlt, ν', ρ', s', p'⟩, fun x H' y => ?_⟩
    obtain ⟨s3, g3⟩ := g2 x H' y
    have st3 : Sta K W S (hid (W.J ++ ownA ρ) H1) ρ2 σ2 H' ν2 := st2.keep (Kp.same s3) (W.hI (fun a ha => by obtain ⟨o, eo⟩ := W.hJ st2.inv a ha; rw [eo, s3 _ _ eo]) st2.inv)
    refine hs i _ ν2 ρ2 (List.getElem?_eq_getElem hlt) hI S _ σ2 H' x _ st3 (g3 _ (bb fun b hb => hb) st2.alive) fun ρ4 σ4 st4 _ _ h4 => ?_
    refine h4 S _ σ4 H' _ st4 ⟨fun ν5 ρ5 σ5 H5 st5 h5 => ⟨ν5, ρ5, st5, h5⟩, fun ν5 s v H5 r h5 => e.rt _ s v H5 ⟨?_, r.2.1, ?_⟩ h5, fun ν5 ρ5 σ5 H5 st5 h5 => e.nx _ ρ5 σ5 H5 (st5.base bs st.al st.gb) h5, fun ν5 ρ5 σ5 H5 st5 h5 => ⟨ν5, ρ5, st5, h5⟩⟩
    · exact bs.trans r.1
    · have r2 := r.2.2
      cases s with
      | un => trivial
      | d x => exact r2
      | «at» w => exact r2
      | own a ys =>
        obtain ⟨r3, r4, r5, r6⟩ := r2
        refine ⟨r3, r4, ?_, r6⟩
        cases c : B a with
        | none => rfl
        | some o => rw [bs a o c] at r5; cases r5
  · left
    exact ⟨ik.1 (by omega), e.nx _ ρ2 σ2 H2 (st2.base bs st.al st.gb) (hd ν2 ρ2 (by rw [show xs.length = i by omega]; exact hI))⟩
theorem ds_while {c : TT} {tb : TS} (Iv : Nat → Nat → List Sl → Prop) (m : Nat) (h0 : Iv m ν ρ)
    (h : ∀ m ν' ρ', Iv m ν' ρ' → Dt K W ρ' ν' c fun ν1 b => (b = true → Ds K W ρ' ν1 tb ⟨fun n r => ∃ m', m' < m ∧ Iv m' n r, P.rt, P.nx, fun n r => ∃ m', m' < m ∧ Iv m' n r⟩) ∧ (b = false → P.nx ν1 ρ')) : Ds K W ρ ν (tWhile c tb) P := fun S B σ H D st e => by
  refine ⟨fun m σ H => ∃ ν' ρ', Sta K W S B ρ' σ H ν' ∧ Iv m ν' ρ', ⟨m, ν, ρ, st, h0⟩, ?_⟩
  rintro m σ2 H2 ⟨ν2, ρ2, st2, hI⟩
  refine h m ν2 ρ2 hI S B σ2 H2 _ st2 fun ν3 b H3 k3 i3 ⟨ht, hf⟩ => ?_
  have st3 := st2.keep k3 i3
  cases b with
  | true =>
    refine ⟨fun σ' H' => ∃ ν' ρ', Sta K W S B ρ' σ' H' ν' ∧ ∃ m', m' < m ∧ Iv m' ν' ρ', fun σ' H' ⟨ν', ρ', s', m', h1, h2⟩ => ⟨m', h1, ν', ρ', s', h2⟩, ?_⟩
    exact ht rfl S B σ2 H3 _ st3 ⟨fun ν5 ρ5 σ5 H5 st5 h5 => ⟨ν5, ρ5, st5, h5⟩, e.rt, e.nx, fun ν5 ρ5 σ5 H5 st5 h5 => ⟨ν5, ρ5, st5, h5⟩⟩
  | false => exact e.nx _ _ _ _ st3 (hf rfl)
/-! comprehensions -/
def wipeR (ρ : List Sl) : List Nat → List Sl
  | [] => ρ
  | v :: vs => (wipeR ρ vs).set v .un
theorem wipeR_own : ∀ {vs : List Nat}, (∀ v ∈ vs, nOwn ρ v = true) → ownA (wipeR ρ vs) = ownA ρ ∧ ∀ i, nOwn ρ i = true → nOwn (wipeR ρ vs) i = true
  | [], _ => ⟨rfl, fun i h => h⟩
  | v :: vs, h => by
    obtain ⟨e, n⟩ := wipeR_own (vs := vs) fun w hw => h w (List.mem_cons_of_mem _ hw)
    refine ⟨(ownA_set (n v (h v List.mem_cons_self)) rfl).trans e, fun i hi => ?_⟩
    unfold nOwn
    show (match ((wipeR ρ vs).set v .un)[i]? with | some (.own _ _) => false | _ => true) = true
    cases c : ((wipeR ρ vs).set v .un)[i]? with
    | none => rfl
    | some s =>
      rcases get_set c with ⟨_, rfl⟩ | ⟨_, c⟩
      · rfl
      · have := n i hi
        unfold nOwn at this
        rw [c] at this
        exact this
theorem Sta.wipe (st : Sta K W S B ρ σ H ν) : ∀ {vs : List Nat}, (∀ v ∈ vs, nOwn ρ v = true) → Sta K W S B (wipeR ρ vs) (wipe σ vs) H ν
  | [], _ => st
  | v :: vs, h => by
    have ih := st.wipe (vs := vs) fun w hw => h w (List.mem_cons_of_mem _ hw)
    exact ih.setS ((wipeR_own fun w hw => h w (List.mem_cons_of_mem _ hw)).2 v (h v List.mem_cons_self)) rfl trivial
theorem wipe_at : ∀ (vs : List Nat) (σ : L2.St) (n : Nat), n < σ.length → (wipe σ vs)[n]? = if n ∈ vs then some none else σ[n]?
  | [], σ, n, _ => by simp [L2.wipe]
  | v :: vs, σ, n, hn => by
    have ih := wipe_at vs σ n hn
    show ((L2.wipe σ vs).set v none)[n]? = _
    by_cases e : v = n
    · subst e
      rw [List.getElem?_set_self (by rw [wipe_length]; exact hn), if_pos List.mem_cons_self]
    · rw [List.getElem?_set_ne e, ih]
      by_cases z : n ∈ vs
      · rw [if_pos z, if_pos (List.mem_cons_of_mem _ z)]
      · rw [if_neg z, if_neg]
        rw [List.mem_cons]
        rintro (z' | z')
        · exact e z'.symm
        · exact z z'
theorem wipe_eq {vs : List Nat} {σ σ' : L2.St} (hl : σ'.length = σ.length) (h : ∀ n, ¬ n ∈ vs → σ'[n]? = (wipe σ vs)[n]?) : wipe σ' vs = wipe σ vs := by
  apply List.ext_getElem?
  intro n
  by_cases hn : n < σ.length
  · rw [wipe_at vs σ n hn, wipe_at vs σ' n (by omega)]
    by_cases z : n ∈ vs
    · rw [if_pos z, if_pos z]
    · rw [if_neg z, if_neg z, h n z, wipe_at vs σ n hn, if_neg z]
  · rw [List.getElem?_eq_none (by rw [wipe_length]; omega), List.getElem?_eq_none (by rw [wipe_length]; omega)]
theorem do_lc {wi : TI} {g : TG} {tt : TT} {vs : List Nat} (hv : ∀ v ∈ vs, nOwn ρ v = true)
    (h : Di K W ρ ν wi fun ν1 xs => ∃ Iv : Nat → Nat → List PyData → Prop, Iv 0 ν1 [] ∧ (∀ k x ν2 ys, xs[k]? = some x → Iv k ν2 ys → Dg K W (wipeR ρ vs) ν2 (· ∈ vs) g x fun ρ2 => Dt K W ρ2 ν2 tt fun ν3 b =>
      (b = true → De K W ρ2 ν3 te fun ν4 y => ys.length < sizeLine ∧ Iv (k + 1) ν4 (ys ++ [y])) ∧ (b = false → Iv (k + 1) ν3 ys)) ∧ ∀ ν2 ys, Iv xs.length ν2 ys → Ψ ν2 ys) :
    Do K W ρ ν (tLc wi g tt te vs) Ψ := fun S B σ H Q st q => by
  refine h S B σ H _ st fun νa J H1 xs k1 i1 it ⟨Iv, h0, hs, hd⟩ D nD => ?_
  have st1 := st.keep k1 i1
  have fD := st1.fresh nD
  -- the state with the new list hidden
  let Pv : Nat → Hp → Prop := fun i H' => ∃ ν' acc ys, Sta K W (D :: S) (hid (W.J ++ ownA ρ) H') ρ σ H' ν' ∧ H' D = some (.lst acc) ∧ Dds K (hid (D :: (S ++ ownA ρ)) H') acc ys ∧ Iv i ν' ys ∧ Kp W.J H1 H'
  have st0 : Sta K W (D :: S) (hid (W.J ++ ownA ρ) (upd H1 D (.lst []))) ρ σ (upd H1 D (.lst [])) νa := by
    obtain ⟨kn, inn⟩ := st1.new (o := .lst []) nD
    have s2 := st1.keep kn inn
    refine ⟨s2.len, fun n s e => ?_, s2.nd, fun a ha z => ?_, fun a ha => List.mem_cons_of_mem _ (s2.js a ha), fun _ _ z => z, s2.inv, fun a ha => ?_, s2.gb.trans s2.fr⟩
    · obtain ⟨u, eu, h⟩ := st1.sl n s e
      refine ⟨u, eu, ?_⟩
      cases s with
      | un => trivial
      | d x => obtain ⟨v, e1, d⟩ := h; exact ⟨v, e1, d.same (hid_new nD)⟩
      | own b ys =>
        obtain ⟨e1, us, e2, d⟩ := h
        exact ⟨e1, us, by rw [upd_ne (fun z => by rw [z, nD] at e2; cases e2)]; exact e2, d.same (hid_new nD)⟩
      | «at» v => exact h
    · rcases List.mem_cons.mp z with rfl | z
      · exact fD.2.1 ha
      · exact st1.out a ha z
    · rcases List.mem_cons.mp ha with rfl | ha
      · exact .inr ⟨_, hid_of upd_same (by simp [fD.2.2, fD.2.1])⟩
      · rcases s2.al a ha with z | ⟨o, z⟩
        · exact .inl z
        · exact .inr ⟨o, s2.fr a o z⟩
  refine ⟨fun i m H' => m = xs.length - i ∧ i ≤ xs.length ∧ Pv i H', ⟨xs.length, by simp, Nat.zero_le _, _, [], [], st0, upd_same, .nil, h0, (st1.new nD).1⟩, ?_⟩
  rintro i m H2 ⟨rfl, hi, ν2, acc, ys, st2, eD, dA, hI, k2⟩
  have bb : Same (hid (S ++ ownA ρ) H1) (hid (D :: (S ++ ownA ρ)) H2) := fun b o eb => by
    obtain ⟨e1, e2⟩ := of_hid (st1.kpS k2 b o eb)
    refine hid_of e1 ?_
    rw [List.mem_cons]
    rintro (rfl | z)
    · have := (of_hid eb).1; rw [nD] at this; cases this
    · exact e2 z
  have ik := it i H2 (bb.trans hid_same)
  by_cases hlt : i < xs.length
  · right
    obtain ⟨g1, g2⟩ := ik.2 _ (List.getElem?_eq_getElem hlt)
    refine ⟨g1, Pv (i + 1), fun H' p' => ⟨xs.length - (i + 1), by omega, rfl, hlt, p'⟩, fun x H3 y => ?_⟩
    obtain ⟨s3, g3⟩ := g2 x H3 y
    have i3 : W.I ν2 H3 := W.hI (fun a ha => by obtain ⟨o, eo⟩ := W.hJ st2.inv a ha; rw [eo, s3 _ _ eo]) st2.inv
    have st3 := st2.keep (Kp.same s3) i3
    have dx := g3 (D :: (S ++ ownA ρ)) bb st2.alive
    have hw := wipeR_own (ρ := ρ) hv
    refine hs i _ ν2 ys (List.getElem?_eq_getElem hlt) hI (D :: S) _ _ H3 x _ (st3.wipe hv) (by rw [hw.1]; exact dx) fun ρ4 σ4 st4 eo4 e4 h4 => ?_
    refine ⟨wipe_eq (by rw [e4.1, wipe_length]) fun n hn => e4.2 n hn, ?_⟩
    refine h4 (D :: S) _ σ4 H3 _ st4 fun ν5 b H5 k5 i5 ⟨ht, hf⟩ => ?_
    have kk : ∀ {ν6 H6}, Kp W.J H3 H6 → W.I ν6 H6 → Sta K W (D :: S) (hid (W.J ++ ownA ρ) H6) ρ σ H6 ν6 ∧ H6 D = some (.lst acc) ∧ Dds K (hid (D :: (S ++ ownA ρ)) H6) acc ys ∧ Kp W.J H1 H6 := fun {ν6 H6} k6 i6 => by
      refine ⟨(st3.keep k6 i6).rebase, k6.at (s3 _ _ eD) fD.2.2, ?_, (k2.trans (Kp.same s3)).trans k6⟩
      have z := st3.kpS (T := ownA ρ) k6
      have z2 : Same (hid (D :: (S ++ ownA ρ)) H2) (hid (D :: (S ++ ownA ρ)) H3) := Kp.same s3
      exact dA.same (z2.trans z)
    cases b with
    | false =>
      obtain ⟨a1, a2, a3, a4⟩ := kk k5 i5
      exact ⟨_, acc, ys, a1, a2, a3, hf rfl, a4⟩
    | true =>
      refine ht rfl (D :: S) _ σ4 H5 _ (st4.keep k5 i5) fun ν6 v H6 z k6 i6 d6 ⟨hl, hI'⟩ => ?_
      obtain ⟨a1, a2, a3, a4⟩ := kk (k5.trans k6) i6
      refine ⟨acc, a2, by rw [a3.len]; exact hl, _, acc ++ [v], ys ++ [z], ?_, upd_same, ?_, hI', fun b o eb => ?_⟩
      · refine ⟨a1.len, fun n s e => ?_, a1.nd, a1.out, a1.js, fun _ _ z => z, W.hI (fun a ha => upd_ne fun (z : a = D) => fD.2.2 (by rw [← z]; exact ha)) a1.inv, fun a ha => ?_, fun b o eb => ?_⟩
        · obtain ⟨u, eu, h⟩ := a1.sl n s e
          refine ⟨u, eu, ?_⟩
          have sm : Same (hid (D :: S ++ ownA ρ) H6) (hid (D :: S ++ ownA ρ) (upd H6 D (.lst (acc ++ [v])))) := fun b o eb => by
            obtain ⟨e1, e2⟩ := of_hid eb
            exact hid_of (by rw [upd_ne (fun (z : b = D) => e2 (by simp [z]))]; exact e1) e2
          cases s with
          | un => trivial
          | d x => obtain ⟨v, e1, d⟩ := h; exact ⟨v, e1, d.same sm⟩
          | own b ys =>
            obtain ⟨e1, us, e2, d⟩ := h
            exact ⟨e1, us, by rw [upd_ne (fun (z : b = D) => fD.2.1 (by rw [← z]; exact mem_ownA.mpr ⟨_, _, e⟩))]; exact e2, d.same sm⟩
          | «at» v => exact h
        · rcases a1.al a ha with z | ⟨o, z⟩
          · exact .inl z
          · by_cases eD : a = D
            · subst eD
              exact .inr ⟨_, hid_of upd_same (by simp [fD.2.2, fD.2.1])⟩
            · obtain ⟨e1, e2⟩ := of_hid z
              exact .inr ⟨o, hid_of (by rw [upd_ne eD]; exact e1) e2⟩
        · obtain ⟨e1, e2⟩ := of_hid (a1.gb b o eb)
          refine hid_of ?_ e2
          rw [upd_ne (fun (z : b = D) => ?_)]
          · exact e1
          · have := (of_hid (st1.fr b o (st1.gb b o eb))).1
            rw [z, nD] at this; cases this
      · have sm : Same (hid (D :: (S ++ ownA ρ)) H6) (hid (D :: (S ++ ownA ρ)) (upd H6 D (.lst (acc ++ [v])))) := fun b o eb => by
          obtain ⟨e1, e2⟩ := of_hid eb
          exact hid_of (by rw [upd_ne (fun (z : b = D) => e2 (by simp [z]))]; exact e1) e2
        refine (a3.snoc ?_).same sm
        rw [eo4, hw.1] at d6
        exact d6
      · obtain ⟨e1, e2⟩ := of_hid (a4 b o eb)
        refine hid_of ?_ e2
        rw [upd_ne (fun (z : b = D) => by have := (of_hid eb).1; rw [z, nD] at this; cases this)]
        exact e1
  · left
    refine ⟨ik.1 (by omega), q _ D H2 acc ys (k1.trans k2) ?_ (k1.none fD.2.2 nD) eD dA (hd _ ys (by rw [show xs.length = i by omega]; exact hI))⟩
    exact st2.inv
end
end Bd
namespace Bd
open PySem PySem.Spec PyProof.Rows L2 HT
/-! ### a def that is run where no text of an object is being made -/
structure FnG (P : Program) (w : World) (K : PySem.W.Frag) (mg : Str → Option Value) (base : Heap) (k : Nat) (f : Addr) (fd : FuncData) (ps : List Str) (sp : Sp) : Prop where
  len : ∀ vs H Q E, sp vs H Q E → vs.length = ps.length
  run : ∀ (A : Around) (outer : List Env) (s : Shared) (H : Hp) (args : Args) (us : List Value) (vs : List V) (Q : VK) (E : XK), A.guards = some [] → Room k A → Env0 P w K mg base A outer s H → BindsTo s fd args (ps.zip us) → Vals vs us → sp vs H Q E →
    codeAny (model P w) A (.call (.ref f) args) (CR CX0 outer P w H s Q E) s
section
variable {P : Program} {w : World} {K : PySem.W.Frag} {mg : Str → Option Value} {base : Heap}
theorem fnG_of {x qual : Str} {st : Stmt} {f : Addr} {fd : FuncData} {N ps : List Str} {k : Nat} {sp : Sp} (F : Fun K x qual st f fd) (S : FnScope N ps (defScope st)) (len : ∀ vs H Q E, sp vs H Q E → vs.length = ps.length)
    (body : ∀ (cdv : Value) (A : Around) (outer : List Env) (s : Shared) (H : Hp) (vs : List V) (Q : VK) (E : XK), Room k (A.deeper (envOfC qual (defScope st) s.heap.objs.size f cdv)) → (A.deeper (envOfC qual (defScope st) s.heap.objs.size f cdv)).guards = some [] → sp vs H Q E →
      ∃ t, PSs (cxOf CX0 P w K mg base N qual (defScope st) f cdv A outer s H E).nox (defBody st) t ∧ t { nx := fun _ H' => Q .non H', rt := Q } (start N vs) H) : FnG P w K mg base (k + 1) f fd ps sp where
  len := len
  run := by
    obtain ⟨oc, od, kV, doc, pm, an, cdv, ct, osl, rfl, lk, hcd⟩ := F.ex
    intro A outer s H args us vs Q E hg room env bnd vls hs
    have here : K.In s.heap := env.mod.kin.keeps fun b o h => (env.bs b o h).1
    have cells : ∀ y ∈ ps.zip us, (defScope st).names.lookup y.1 = some .local ∨ ((defScope st).names.lookup y.1 = some .cell ∧ ((cellsFrom (s.heap.objs.size + 1) (defScope st).names []).lookup y.1).isSome = true) := by
      rintro ⟨n, v⟩ hy
      cases S.par n (List.of_mem_zip hy).1 with
      | inl q => exact .inl q
      | inr q => exact .inr ⟨q, PySem.W.cellsFrom_some _ _ _ (.inl q)⟩
    refine codeAny_call_function room.depth (here _ _ lk) rfl S.co S.gen rfl (PySem.W.codeRec_of here hcd) (bnd _ _ _ _ (wpAny_newFunctionEnv_cells S.kind cells ?_))
    rintro e rfl s1 inc
    refine ⟨Heap.NoLimit.keeps (env.mod.nolimit.keeps fun b o h => (env.bs b o h).1) inc.toInCall.keep, codeAny_func ?_⟩
    obtain ⟨t, hp, ht⟩ := body cdv A outer s H vs Q E (room.deeper _) hg hs
    have I := inv_start (CX := CX0) (P := P) (w := w) (K := K) (mg := mg) (base := base) (qual := qual) (f := f) (cd := cdv) (E := E) S room.hd env (len _ _ _ _ hs) vls inc
    refine wpAny_mono (hp.nox.run [] s1 (start N vs) H _ I ht) (fun r s2 h => ?_) fun _ _ h => h
    match r, h with
    | .ret u, ⟨v, _, H2, J, rv, q⟩ => exact ⟨v, H2, J.os, J.bare, J.base, J.hok, rv, q⟩
    | .next, ⟨_, H2, J, q⟩ => exact ⟨V.non, H2, J.os, J.bare, J.base, J.hok, rfl, q⟩
    | .brk, ⟨_, _, _, q⟩ => exact q.elim
    | .cont, ⟨_, _, _, q⟩ => exact q.elim
/-- what promises more widely promises here too -/
theorem FnG.of {k : Nat} {f : Addr} {fd : FuncData} {ps : List Str} {sp : Sp} (F : FnOk P w K mg base CX0 k f fd ps sp) : FnG P w K mg base k f fd ps sp :=
  ⟨F.len, fun A outer s H args us vs Q E _ => F.run A outer s H args us vs Q E⟩
end
end Bd
namespace Bd
open PySem PySem.Spec PyProof.Rows L2 HT
/-! ### the law's own call -/
section
variable {P : Program} {w : World} {K : PySem.W.Frag} {mg mb : Str → Option Value} {k : Nat} {fa a : Addr} {fd : FuncData} {x : Str} {sp : Sp} {s₁ : Shared} {vs : List Value} {ns : List Int}
/-- from a heap in which the script alone may be tracked -/
theorem runG (KX : K.In s₁.heap) (hns : s₁.heap.Ns mainGlobals mg) (hb : s₁.heap.Ns builtinsNs mb) (hbb : ∀ x : Str, x ≠ "__name__" → mb x = bootBuiltins x) (hlim : s₁.heap.NoLimit) (hg : s₁.gens = #[])
    (ha : s₁.heap.get? a = some { cls := .type "list", data := .seq vs.toArray }) (hr : Room k callerA)
    (F : ∀ base : Heap, K.In base → base.Ns mainGlobals mg → FnG P w K mg base k fa fd [x] sp) (hbind : ∀ (s : Shared) (u : Value), BindsTo s fd ⟨[u], []⟩ [(x, u)])
    (H : Hp) (only : ∀ b u, H b = some u → b = a ∧ ∃ xs, u = .frz { cls := .type "list", data := .seq vs.toArray } (.lst xs)) (hok : HOk P w H s₁.heap) (apart : H a = none ∨ K.lookup a = none)
    (hsp : sp [.ref a] H (fun v _ => v = .bl true) fun _ _ _ => False) :
    codeAny (model P w) callerA (.call (.ref fa) ⟨[.ref a], []⟩) (fun r s' => r = .ok (.ret (.bool true)) ∧ OldK s₁.heap s'.heap ∧ s'.os = s₁.os ∧ AllBare s'.gens) s₁ := by
  have vis : ∀ {b : Addr} {o : Obj}, s₁.heap.get? b = some o → (b ≠ a ∨ H a = none) → (hidT s₁.heap H).get? b = some o := by
    intro b o e h
    refine hidT_get e ?_
    cases q : H b with
    | none => rfl
    | some u =>
      obtain ⟨rfl, _⟩ := only b u q
      rcases h with h | h
      · exact absurd rfl h
      · rw [q] at h; cases h
  have dicts : ∀ {b : Addr} {o : Obj} {es : Array DictEntry} {ep : Nat}, s₁.heap.get? b = some o → o.data = .dict es ep → (hidT s₁.heap H).get? b = some o := by
    intro b o es ep e d
    refine vis e (.inl fun z => ?_)
    rw [z, ha] at e
    cases e
    cases d
  have names : ∀ {b : Addr} {m : Str → Option Value}, s₁.heap.Ns b m → (hidT s₁.heap H).Ns b m := by
    rintro b m ⟨o, es, ep, e, d, r⟩
    exact ⟨o, es, ep, dicts e d, d, r⟩
  have KI : K.In (hidT s₁.heap H) := by
    intro b o e
    refine vis (KX b o e) ?_
    rcases apart with z | z
    · exact .inr z
    · refine .inl fun q => ?_
      rw [q, z] at e
      cases e
  have env : Env0 P w K mg (hidT s₁.heap H) callerA [] s₁ H := by
    refine ⟨rfl, ⟨KI, names hns, ⟨mb, names hb, hbb⟩, ?_⟩, fun b o e => of_hidT e, by rw [hidT_size]; exact Nat.le_refl _, trivial, fun b z => (nomatch z), hok, .of_eq hg⟩
    obtain ⟨mc, q1, q2⟩ := hlim
    exact ⟨mc, names q1, q2⟩
  refine codeAny_mono ((F _ KI (names hns)).run callerA [] s₁ H ⟨[.ref a], []⟩ [.ref a] [.ref a] _ _ rfl hr env (hbind s₁ (.ref a)) (.cons rfl .nil) hsp) ?_
  rintro r s' h
  match r, h with
  | .error e, h => exact h.elim
  | .ok (.next), h => exact h.elim
  | .ok (.brk), h => exact h.elim
  | .ok (.cont), h => exact h.elim
  | .ok (.ret u), ⟨v, H2, os, bare, un, ok2, rv, q⟩ =>
    obtain rfl : v = .bl true := q
    obtain rfl : u = Value.bool true := rv
    refine ⟨rfl, OldK.of_keep ?_, os, bare⟩
    intro b o e
    cases q : H b with
    | none => exact un.keep b o e q (fun z => nomatch z) (fun z => nomatch z)
    | some u =>
      obtain ⟨rfl, xs, rfl⟩ := only b u q
      have e1 := (hok _ _ q).1
      have e2 := (ok2 _ _ (un.frzs _ _ _ q)).1
      exact e2.trans (e1.symm.trans e)
end
theorem walkG {l : PySem.W.OpenLaw} {k : Nat} {q : Program} {loose : List Str} {XP : (Str → Option Value) → Heap → Prop} {YP : World → Heap → Prop} {d : DefRec} {K : Params → PySem.W.Frag} {sp : PySem.W.Frag → Sp} {x : Str}
    (hn : l.most = some 63) (hdf : d.params.defaults = []) (hr : Room k callerA) (hY : ∀ (w : World) (h : Heap), YP w h → (K w.params).In h)
    (F : ∀ (w : World) (mg : Str → Option Value) (fa : Addr) (h : Heap), (K w.params).In h → h.Ns mainGlobals mg → mg d.name = some (.ref fa) →
      ∃ fd : FuncData, (∀ (s : Shared) (u : Value), BindsTo s fd ⟨[u], []⟩ [(x, u)]) ∧ ∀ base : Heap, (K w.params).In base → base.Ns mainGlobals mg → FnG l.prog w (K w.params) mg base k fa fd [x] (sp (K w.params)))
    (hsp : ∀ (K : PySem.W.Frag) (H : Hp) (a : Addr) (ns : List Int), ns.length ≤ 63 → SqL K H a (ns.map V.int) → sp K [.ref a] H (fun v _ => v = .bl true) fun _ _ _ => False) :
    PySem.W.WalkO q loose XP YP l.row.toRowW d [] (fun f vs => PySem.call f vs) := by
  refine Att.attach_call hn hdf ?_
  intro w s₀ s₁ mg mb fa o pm cd doc a vs ns G Y ho hd hcd hmg hobj hints hlen hg
  have KX := hY w _ Y
  obtain ⟨fd, hbind, hF⟩ := F w mg fa _ KX G.T.g hmg
  have hz : ns.length ≤ sizeLine := Nat.le_trans hlen (by decide)
  have rv := vals_ints hints
  have lv := hints.length
  by_cases e : (K w.params).lookup a = none
  · refine runG KX G.T.g G.T.b G.T.builtins G.T.nolimit hg hobj hr hF hbind (upd (fun _ => none) a (.frz { cls := .type "list", data := .seq vs.toArray } (.lst (ns.map V.int)))) ?_ ?_ (.inr e) (hsp _ _ _ ns hlen (.inl (.inr ⟨_, upd_same⟩)))
    · intro b u z
      by_cases h : b = a
      · subst h
        rw [upd_same] at z
        cases z
        exact ⟨rfl, _, rfl⟩
      · rw [upd_ne h] at z
        cases z
    · intro b u z
      by_cases h : b = a
      · subst h
        rw [upd_same] at z
        cases z
        exact ⟨hobj, by rw [List.length_map]; exact hz, vs, _, rv, hobj⟩
      · rw [upd_ne h] at z
        cases z
  · obtain ⟨ob, e2⟩ := Option.ne_none_iff_exists'.mp e
    have e3 := KX a ob e2
    rw [hobj] at e3
    cases e3
    refine runG KX G.T.g G.T.b G.T.builtins G.T.nolimit hg hobj hr hF hbind (fun _ => none) (fun _ _ z => nomatch z) (fun _ _ z => nomatch z) (.inl rfl) (hsp _ _ _ ns hlen (.inr ⟨_, vs.toArray, _, e2, rfl, rfl, rfl, ?_, by simpa using rv⟩))
    rw [List.size_toArray, lv]
    exact hz
end Bd
namespace Bd
open PySem PySem.Spec PyProof.Rows L2 HT
/-! ### texts of data -/
/-- data that has a text of bounded size: W bounds its weight -/
structure Rp (d : PyData) (n W : Nat) : Prop where
  lay : d.canLay0 = true
  dep : d.depth ≤ n
  sho : d.showable = true
  sml : d.leavesShort 100 = true
  wei : d.weight ≤ W
theorem rp_int {i : Int} (h0 : -(2 ^ 90) < i) (h1 : i < 2 ^ 90) : Rp (.int i) 0 90 := by
  have hl : i.natAbs.log2 < 90 := PySem.Flt.log2_lt_of (by decide) (by omega)
  refine ⟨rfl, Nat.le_refl _, ?_, ?_, ?_⟩
  · show decide (i.natAbs.log2 < 1920) = true
    exact decide_eq_true (by omega)
  · show decide ((PyData.shown (.int i)).length ≤ 100) = true
    refine decide_eq_true ?_
    show (Str.ofString (toString i)).length ≤ 100
    rw [PySem.ofString_length]
    have := int_text_length_le (a := i) (k := 90) (by decide) hl
    omega
  · show (if i == 0 then 0 else i.natAbs.log2 + 1) ≤ 90
    split <;> omega
theorem rp_all {n W : Nat} : ∀ {xs : List PyData}, (∀ x ∈ xs, Rp x n W) → PyData.canLayAll0 xs = true ∧ PyData.depthAll xs ≤ n ∧ PyData.showableAll xs = true ∧ PyData.leavesShortAll 100 xs = true ∧ PyData.weightAll xs ≤ xs.length * (W + 1)
  | [], _ => ⟨rfl, Nat.zero_le _, rfl, rfl, Nat.zero_le _⟩
  | x :: xs, h => by
    obtain ⟨a1, a2, a3, a4, a5⟩ := h x List.mem_cons_self
    obtain ⟨b1, b2, b3, b4, b5⟩ := rp_all (xs := xs) fun y hy => h y (List.mem_cons_of_mem _ hy)
    refine ⟨by rw [PyData.canLayAll0, a1, b1]; rfl, by rw [PyData.depthAll]; exact Nat.max_le.mpr ⟨a2, b2⟩, by rw [PyData.showableAll, a3, b3]; rfl, by rw [PyData.leavesShortAll, a4, b4]; rfl, ?_⟩
    rw [PyData.weightAll, List.length_cons, Nat.succ_mul]
    omega
theorem rp_list {n W : Nat} {xs : List PyData} (h : ∀ x ∈ xs, Rp x n W) : Rp (.list xs) (n + 1) (xs.length * (W + 1)) := by
  obtain ⟨a1, a2, a3, a4, a5⟩ := rp_all h
  exact ⟨by rw [PyData.canLay0]; exact a1, by rw [PyData.depth]; omega, by rw [PyData.showable]; exact a3, by rw [PyData.leavesShort]; exact a4, by rw [PyData.weight]; exact a5⟩
theorem rp_tup {n W : Nat} {xs : List PyData} (h : ∀ x ∈ xs, Rp x n W) : Rp (.tuple xs) (n + 1) (xs.length * (W + 1)) := by
  obtain ⟨a1, a2, a3, a4, a5⟩ := rp_all h
  exact ⟨by rw [PyData.canLay0]; exact a1, by rw [PyData.depth]; omega, by rw [PyData.showable]; exact a3, by rw [PyData.leavesShort]; exact a4, by rw [PyData.weight]; exact a5⟩
theorem Rp.up {d : PyData} {n m W V : Nat} (h : Rp d n W) (h1 : n ≤ m) (h2 : W ≤ V) : Rp d m V := ⟨h.lay, Nat.le_trans h.dep h1, h.sho, h.sml, Nat.le_trans h.wei h2⟩
theorem Rp.fits {d : PyData} {n W : Nat} (h : Rp d n W) (hW : W ≤ 100000) : d.shown.length ≤ sizeLine := by
  have h1 := PyData.shown_le 100 (by decide) d h.sml
  have h2 := h.wei
  rw [sizeLine_eq]
  omega
section
variable {X : Cx}
/-- repr of data at any depth -/
theorem call_reprD (hg : X.A.guards = some []) (hu : X.A.units + 64 < cLine) : CallR X (.builtin "repr") (fun xs H Q => ∃ (a : Addr) (d : PyData) (n W : Nat), xs = [.ref a] ∧ Dp X.K H (.ref a) d ∧ Rp d n W ∧ n ≤ 50 ∧ W ≤ 100000 ∧ Q (.str d.shown) H) := by
  intro pins s σ H xs us Q I r h
  obtain ⟨a, d, n, W, rfl, hd, hr, hn, hW, q⟩ := h
  obtain ⟨u, rfl, rx⟩ := vals1 r
  cases (show u = Value.ref a from rx)
  obtain ⟨as, rd⟩ := Dp.reads I d (.ref a) (.ref a) hd rfl
  refine repr_of_reads' rd hr.sho (PyData.noDict_hsm (PyData.hasDict_of_canLay d hr.lay)) hg (by have := hr.dep; omega) (fun b o e => e) (fun h' u tk hk => ?_) (hr.fits hW)
  exact ⟨.str d.shown, H, I.kept hk, ⟨u, rfl⟩, q⟩
end
end Bd
namespace Bd
open PySem PySem.Spec PyProof.Rows L2 HT
theorem rp_two {d e : PyData} {n W : Nat} (h1 : Rp d n W) (h2 : Rp e n W) : Rp (.list [d, e]) (n + 1) (2 * (W + 1)) := rp_list fun x hx => by
  rcases List.mem_cons.mp hx with rfl | hx
  · exact h1
  · rcases List.mem_cons.mp hx with rfl | hx
    · exact h2
    · cases hx
theorem rp_nat {i : Nat} (h : i ≤ 100) : Rp (.int i) 0 90 := rp_int (by omega) (by omega)
theorem rp_pair {p : Nat × Nat} (h1 : p.1 ≤ 100) (h2 : p.2 ≤ 100) : Rp (pairD p) 1 182 := rp_tup (n := 0) (W := 90) (xs := [.int p.1, .int p.2]) fun x hx => by
  rcases List.mem_cons.mp hx with rfl | hx
  · exact rp_nat h1
  · rcases List.mem_cons.mp hx with rfl | hx
    · exact rp_nat h2
    · cases hx
theorem rp_house {rooms : Nat} {ds : List (Nat × Nat)} (h : Doors rooms ds) (h1 : rooms ≤ 100) (h2 : ds.length ≤ 100) : Rp (houseD rooms ds) 3 40000 := by
  have hd : Rp (doorsD ds) 2 18300 := by
    have := rp_list (n := 1) (W := 182) (xs := ds.map pairD) fun x hx => by
      obtain ⟨p, hp, rfl⟩ := List.mem_map.mp hx
      obtain ⟨q1, q2, _⟩ := h p hp
      exact rp_pair (by omega) (by omega)
    refine this.up (by decide) ?_
    rw [List.length_map]
    omega
  have := rp_tup (n := 2) (W := 18300) (xs := [.int rooms, doorsD ds]) fun x hx => by
    rcases List.mem_cons.mp hx with rfl | hx
    · exact (rp_nat h1).up (by decide) (by decide)
    · rcases List.mem_cons.mp hx with rfl | hx
      · exact hd
      · cases hx
  exact this.up (by decide) (by show 2 * (18300 + 1) ≤ 40000; decide)
theorem rp_ints {cs : List Int} (h : ∀ x ∈ cs, 0 ≤ x ∧ x < 10 ^ 20) (h2 : cs.length ≤ 100) : Rp (.list (cs.map .int)) 3 40000 := by
  have := rp_list (n := 0) (W := 90) (xs := cs.map .int) fun x hx => by
    obtain ⟨i, hi, rfl⟩ := List.mem_map.mp hx
    obtain ⟨q1, q2⟩ := h i hi
    exact rp_int (by omega) (by omega)
  refine this.up (by decide) ?_
  rw [List.length_map]
  omega
theorem leave_one (r : Nat) : ∀ z : List Dc, (∀ x ∈ z, x.1.1 ≠ x.1.2) → leaveM z [r] = metAt z r := by
  intro z h
  rw [← atRoom_sum r z h]
  unfold leaveM
  have e : z.filter (lvAt [r]) = z.filter (atRoom r) := by
    refine List.filter_congr fun x hx => ?_
    have hn := h x hx
    unfold lvAt atRoom
    by_cases c1 : x.1.1 = r
    · have c2 : ¬ x.1.2 = r := fun q => hn (c1.trans q.symm)
      simp [c1, c2]
    · by_cases c2 : x.1.2 = r
      · have c3 : ¬ r = x.1.1 := fun q => c1 q.symm
        simp [c1, c2, c3]
      · have c3 : ¬ r = x.1.1 := fun q => c1 q.symm
        have c4 : ¬ r = x.1.2 := fun q => c2 q.symm
        simp [c1, c2, c3, c4]
  rw [e]
def spLaw (K : PySem.W.Frag) : Sp := fun vs H Q _ => ∃ (a : Addr) (ns : List Int), vs = [.ref a] ∧ SqL K H a (ns.map V.int) ∧ ns.length ≤ 63 ∧ ∀ H', Q (.bl true) H'
end Bd
namespace Bd
open PySem PySem.Spec PyProof.Rows L2 HT
/-! ## calls -/
structure Cg (P : Program) (w : World) (K : PySem.W.Frag) (mg : Str → Option Value) (base : Heap) (k : Nat) (x : Str) (sp : Sp) : Prop where
  ex : ∃ (f : Addr) (fd : FuncData) (ps : List Str), FnG P w K mg base k f fd ps sp ∧ mg x = some (.ref f) ∧ PySem.W.keepIn K (.ref f) = true ∧ Binds K fd ps []
structure Cgk (P : Program) (w : World) (K : PySem.W.Frag) (mg : Str → Option Value) (base : Heap) (k : Nat) (x : Str) (ks : List Str) (gV : List V → List V) (sp : Sp) : Prop where
  ex : ∃ (f : Addr) (fd : FuncData) (ps : List Str) (g : List Value → List Value), FnG P w K mg base k f fd ps sp ∧ mg x = some (.ref f) ∧ PySem.W.keepIn K (.ref f) = true ∧
    (∀ (s : Shared) (ws : List Value), (g ws).length = ps.length → BindsTo s fd ⟨[], ks.zip ws⟩ (ps.zip (g ws))) ∧ ∀ {zs : List V} {ws : List Value}, Vals zs ws → Vals (gV zs) (g ws)
section
variable {X : Cx} {k j : Nat} {x : Str} {ks : List Str} {gV : List V → List V} {sp : Sp} {p pos : Pos} {e : Expr} {es : List Expr} {kws : List Keyword} {t tk : TA}
theorem run_fnG {f : Addr} {fd : FuncData} {ps : List Str} {pins : List (Addr × Obj)} {σ : L2.St} {H : Hp} {s : Shared} {Q : VK} {us : List Value} {vs : List V} (F : FnG X.prog X.w X.K X.mg X.base k f fd ps sp) (hG : X.A.guards = some []) (hr : Room k X.A) (hb : Binds X.K fd ps [])
    (I : L2.Inv X pins σ H s) (r : Vals vs us) (h : sp vs H Q E0) : wpAny (model X.prog X.w) X.A (call (.ref f) us) (EP X pins σ Q) X.xe s := by
  have hl : us.length = ps.length := by rw [← r.length]; exact F.len _ _ _ _ h
  have hb' := hb s us I.kIn (by rw [List.append_nil]; exact hl)
  rw [List.append_nil] at hb'
  refine wpAny_call (codeAny_mono (F.run X.A X.stack s H ⟨us, []⟩ us vs Q E0 hG hr I.env0 hb' r h) fun r s' hq => ?_)
  cases r with
  | error e => exact hq.elim
  | ok fl =>
    cases fl with
    | ret u => exact I.after hq
    | next => exact hq.elim
    | brk => exact hq.elim
    | cont => exact hq.elim
theorem pe_g (c : Cg X.prog X.w X.K X.mg X.base k x sp) (hG : X.A.guards = some []) (hr : Room j X.A) (hk : k ≤ j) (hg : Gl X x) (ha : PA X (e :: es) t)
    (hd : (x == ("__debug__" : Str)) = false := by decide) (h1 : starEach (e :: es) X.env = (false, eval e X.env) :: starEach es X.env := by rfl) (h2 : (backTo pos (starEach es X.env)).any (·.1) = false := by rfl) :
    PE X (.Call (.Name x p) (e :: es) [] pos) (tCall sp [] E0 t) := by
  obtain ⟨f, fd, ps, F, hm, kp, b⟩ := c.ex
  refine ⟨fun pins s σ H Q I h => ?_⟩
  refine wpAny_Call_Name_kw (ld_glob I hg hm ?_ hd)
  refine PySem.W.callWith_K (h₀ := X.base) I.ok.mod.kin kp (thn (ha.run pos pins s σ H _ I h) fun us s1 ⟨vs, H1, I1, r, q⟩ => ⟨I1.kIn, ?_⟩) h1 h2
  have q : sp (vs ++ []) H1 Q E0 := q
  rw [List.append_nil] at q
  exact run_fnG F hG (hr.mono hk) b I1 r q
theorem pe_gk (c : Cgk X.prog X.w X.K X.mg X.base k x ks gV sp) (hG : X.A.guards = some []) (hr : Room j X.A) (hk : k ≤ j) (hg : Gl X x) (ha : PK X kws tk)
    (h1 : (backToKw pos (keywordEach kws X.env)).all (·.1.isSome) = true := by rfl) (h2 : (backToKw pos (keywordEach kws X.env)).filterMap (·.1) = ks := by rfl)
    (hd : (x == ("__debug__" : Str)) = false := by decide) (h3 : ((backTo pos (starEach [] X.env)).any (·.1) || (backToKw pos (keywordEach kws X.env)).any (·.1.isNone)) = false := by rfl) :
    PE X (.Call (.Name x p) [] kws pos) (tKw sp gV tk) := by
  obtain ⟨f, fd, ps, g, F, hm, kp, b, br⟩ := c.ex
  refine ⟨fun pins s σ H Q I h => ?_⟩
  refine wpAny_Call_Name_kw (ld_glob I hg hm ?_ hd)
  refine PySem.W.callWith_KW0 (h₀ := X.base) I.ok.mod.kin kp h1 (thn (ha.run pos pins s σ H _ I h) fun ws s2 ⟨zs, H2, I2, rz, q2⟩ => ⟨I2.kIn, ?_⟩) h3
  rw [h2]
  have rg := br rz
  have hl : (g ws).length = ps.length := by rw [← rg.length]; exact F.len _ _ _ _ q2
  show wpAny _ _ (call (.ref f) [] (ks.zip ws)) _ _ _
  refine wpAny_call (codeAny_mono (F.run X.A X.stack s2 H2 ⟨[], ks.zip ws⟩ (g ws) (gV zs) Q E0 hG (hr.mono hk) I2.env0 (b s2 ws hl) rg q2) fun r s' hq => ?_)
  cases r with
  | error e => exact hq.elim
  | ok fl =>
    cases fl with
    | ret u => exact I2.after hq
    | next => exact hq.elim
    | brk => exact hq.elim
    | cont => exact hq.elim
end
/-! ## a def's promise by data -/
def Wg (G : Hp) : Wd := ⟨[], fun _ _ => True, fun _ h => h, fun _ a h => (nomatch h), G⟩
def Wn : Wd := Wg fun _ => none
def Wd.add (W : Wd) (a : Addr) (P : Nat → List Int → Prop) : Wd where
  J := a :: W.J
  I := fun ν H => W.I ν H ∧ ∃ ns : List Int, H a = some (.lst (ns.map V.int)) ∧ P ν ns
  hI := fun {ν H H'} h i => ⟨W.hI (fun b hb => h b (List.mem_cons_of_mem _ hb)) i.1, by obtain ⟨ns, e, p⟩ := i.2; exact ⟨ns, (h a List.mem_cons_self).trans e, p⟩⟩
  hJ := fun {ν H} i b hb => by
    rcases List.mem_cons.mp hb with rfl | hb
    · obtain ⟨ns, e, _⟩ := i.2; exact ⟨_, e⟩
    · exact W.hJ i.1 b hb
  G := W.G
def spD {ι : Type} (K : PySem.W.Frag) (W : Wd) (js : List V) (arg : ι → List PyData) (pre : ι → Nat → Prop) (post : ι → Nat → Nat → Sl → Prop) : Sp := fun vs H Q _ => ∃ (i : ι) (ν : Nat) (S : List Addr) (us : List V), vs = js ++ us ∧ (∀ a ∈ W.J, a ∈ S) ∧ (∀ a ∈ S, ∃ o, H a = some o) ∧ W.I ν H ∧ Same W.G (hid W.J H) ∧
  Dds K (hid S H) us (arg i) ∧ pre i ν ∧ ∀ ν' s v H', post i ν ν' s → RetOk K W S (hid W.J H) s v H' ν' → Q v H'
section
variable {ι : Type} {K : PySem.W.Frag} {W : Wd} {js : List V} {arg : ι → List PyData} {pre : ι → Nat → Prop} {post : ι → Nat → Nat → Sl → Prop} {S : List Addr} {B : Hp} {ρ : List Sl} {σ : L2.St} {H H' : Hp} {ν : Nat}
def AllSl (K : PySem.W.Frag) (Hh H : Hp) (ρ : List Sl) (σ : L2.St) : Prop := σ.length = ρ.length ∧ ∀ (i : Nat) (s : Sl), ρ[i]? = some s → ∃ u, σ[i]? = some u ∧ SlOk K Hh H s u
theorem AllSl.app {Hh H : Hp} {ρ1 ρ2 : List Sl} {σ1 σ2 : L2.St} (a : AllSl K Hh H ρ1 σ1) (b : AllSl K Hh H ρ2 σ2) : AllSl K Hh H (ρ1 ++ ρ2) (σ1 ++ σ2) := by
  refine ⟨by rw [List.length_append, List.length_append, a.1, b.1], fun i s e => ?_⟩
  by_cases h : i < ρ1.length
  · rw [List.getElem?_append_left h] at e
    obtain ⟨u, eu, ok⟩ := a.2 i s e
    exact ⟨u, by rw [List.getElem?_append_left (by rw [a.1]; exact h)]; exact eu, ok⟩
  · rw [List.getElem?_append_right (by omega)] at e
    obtain ⟨u, eu, ok⟩ := b.2 _ s e
    exact ⟨u, by rw [List.getElem?_append_right (by rw [a.1]; omega), a.1]; exact eu, ok⟩
theorem AllSl.jss {Hh H : Hp} (js : List V) : AllSl K Hh H (js.map .at) (js.map some) := by
  refine ⟨by simp, fun i s e => ?_⟩
  rw [List.getElem?_map] at e
  cases c : js[i]? with
  | none => rw [c] at e; cases e
  | some v =>
    rw [c] at e; cases e
    exact ⟨some v, by rw [List.getElem?_map, c]; rfl, rfl⟩
theorem AllSl.ds {Hh H : Hp} : ∀ {us : List V} {xs : List PyData}, Dds K Hh us xs → AllSl K Hh H (xs.map .d) (us.map some)
  | _, [], h => by cases h; exact ⟨rfl, fun i s e => by simp at e⟩
  | _, x :: xs, h => by
    cases h with
    | @cons v vs _ _ h1 h2 =>
      have := AllSl.ds (H := H) h2
      refine AllSl.app (ρ1 := [.d x]) (σ1 := [some v]) ⟨rfl, fun i s e => ?_⟩ this
      cases i with
      | zero => cases e; exact ⟨some v, rfl, v, rfl, h1⟩
      | succ i => simp at e
theorem AllSl.un {Hh H : Hp} (n : Nat) : AllSl K Hh H (List.replicate n .un) (List.replicate n none) := by
  refine ⟨by simp, fun i s e => ?_⟩
  rw [List.getElem?_replicate] at e
  split at e
  · cases e
    rename_i h
    exact ⟨none, by rw [List.getElem?_replicate, if_pos h], trivial⟩
  · cases e
theorem ownA_start (js : List V) (xs : List PyData) (n : Nat) : ownA (js.map .at ++ (xs.map .d ++ List.replicate n .un)) = [] := by
  apply List.eq_nil_iff_forall_not_mem.mpr
  intro a h
  obtain ⟨i, ys, e⟩ := mem_ownA.mp h
  have m := List.mem_of_getElem? e
  simp [List.mem_append, List.mem_map, List.mem_replicate] at m
theorem fn_run {N : List Str} {vs : List V} {Q : VK} {E : XK} {t : TS} (h : spD K W js arg pre post vs H Q E)
    (hd : ∀ i ν, pre i ν → Ds K W (js.map .at ++ ((arg i).map .d ++ List.replicate (N.length - (js.length + (arg i).length)) .un)) ν t ⟨fun ν' _ => post i ν ν' (.d .none), fun ν' s => post i ν ν' s, fun _ _ => False, fun _ _ => False⟩) :
    t { nx := fun _ H' => Q .non H', rt := Q } (L2.start N vs) H := by
  obtain ⟨i, ν, S, us, rfl, hJS, hal, hI, hG, hD, hp, q⟩ := h
  have hl := hD.len
  have e1 : L2.start N (js ++ us) = js.map some ++ (us.map some ++ List.replicate (N.length - (js.length + (arg i).length)) none) := by
    unfold L2.start
    rw [List.map_append, List.append_assoc, List.length_append, hl]
  rw [e1]
  have eo := ownA_start js (arg i) (N.length - (js.length + (arg i).length))
  have al := (AllSl.jss (K := K) (Hh := hid S H) (H := H) js).app ((AllSl.ds (H := H) hD).app (AllSl.un (N.length - (js.length + (arg i).length))))
  refine hd i ν hp S (hid W.J H) _ H _ ⟨al.1, fun j s e => ?_, fun j k a xs ys e => ?_, fun a ha => ?_, hJS, ?_, hI, fun a ha => ?_, hG⟩ ⟨fun _ ρ σ H' st h => q _ _ _ _ h (st.ret .non), fun _ s v H' r h => q _ _ _ _ h r, fun _ _ _ _ _ h => h.elim, fun _ _ _ _ _ h => h.elim⟩
  · rw [eo, List.append_nil]; exact al.2 j s e
  · have : a ∈ ownA (js.map .at ++ ((arg i).map .d ++ List.replicate (N.length - (js.length + (arg i).length)) .un)) := mem_ownA.mpr ⟨_, _, e⟩
    rw [eo] at this; cases this
  · rw [eo] at ha; cases ha
  · rw [eo, List.append_nil]; exact fun _ _ h => h
  · by_cases hj : a ∈ W.J
    · exact .inl hj
    · obtain ⟨o, e⟩ := hal a ha
      exact .inr ⟨o, hid_of e hj⟩
theorem Sta.G (st : Sta K W S B ρ σ H ν) : Same W.G (hid W.J H) := st.gb.trans (st.fr.trans (hid_sub fun b hb => List.mem_append_left _ hb))
variable {tr : TA} {Φ : Nat → PyData → Prop} {Ψ : Nat → List PyData → Prop}
theorem call_in (st : Sta K W S B ρ σ H ν) {i : ι} {us : List V} (d : Dds K (hid (S ++ ownA ρ) H) us (arg i)) (hp : pre i ν) {Q : VK} {E : XK} (q : ∀ ν' s v H', post i ν ν' s → RetOk K W (S ++ ownA ρ) (hid W.J H) s v H' ν' → Q v H') : spD K W js arg pre post (js ++ us) H Q E :=
  ⟨i, ν, S ++ ownA ρ, us, rfl, fun a ha => List.mem_append_left _ (st.js a ha), st.alive, st.inv, st.G, d, hp, q⟩
/-- a def that may change the world's own objects, the first of which is handed -/
theorem de_call {sp : Sp} {n : Nat} {j : V} (hs : ∀ vs H Q, spD K W [j] arg pre post vs H Q E0 → sp vs H Q E0) (hj : ρ[n]? = some (.at j)) (h : Da K W ρ ν tr fun ν1 xs => ∃ i, xs = arg i ∧ pre i ν1 ∧ ∀ ν2 s, post i ν1 ν2 s → ∃ y, s = .d y ∧ Φ ν2 y) : De K W ρ ν (tCall sp [] E0 (tCons (tVar n) tr)) Φ := fun S B σ H Q st q => by
  obtain ⟨u, eu, e1⟩ := st.sl n _ hj
  subst e1
  refine ⟨j, eu, h S B σ H _ st fun ν1 vs H1 xs k1 i1 d1 ⟨i, ex, hp, hq⟩ => ?_⟩
  subst ex
  have st1 := st.keep k1 i1
  rw [List.append_nil]
  refine hs _ _ _ (call_in (js := [j]) st1 d1 hp fun ν2 s v H2 hs r => ?_)
  obtain ⟨y, rfl, hΦ⟩ := hq ν2 s hs
  exact q ν2 v H2 y (k1.trans r.1) r.2.1 r.2.2 hΦ
theorem do_call {sp : Sp} {n : Nat} {j : V} (hs : ∀ vs H Q, spD K W [j] arg pre post vs H Q E0 → sp vs H Q E0) (hj : ρ[n]? = some (.at j)) (h : Da K W ρ ν tr fun ν1 xs => ∃ i, xs = arg i ∧ pre i ν1 ∧ ∀ ν2 s, post i ν1 ν2 s → ∃ a ys, s = .own a ys ∧ Ψ ν2 ys) : Do K W ρ ν (tCall sp [] E0 (tCons (tVar n) tr)) Ψ := fun S B σ H Q st q => by
  obtain ⟨u, eu, e1⟩ := st.sl n _ hj
  subst e1
  refine ⟨j, eu, h S B σ H _ st fun ν1 vs H1 xs k1 i1 d1 ⟨i, ex, hp, hq⟩ => ?_⟩
  subst ex
  have st1 := st.keep k1 i1
  rw [List.append_nil]
  refine hs _ _ _ (call_in (js := [j]) st1 d1 hp fun ν2 s v H2 hs r => ?_)
  obtain ⟨a, ys, rfl, hΦ⟩ := hq ν2 s hs
  obtain ⟨r1, r2, rfl, r4, r5, vs', r6, r7⟩ := r
  have nj : a ∉ W.J := fun z => r4 (List.mem_append_left _ (st.js a z))
  have n1 : H1 a = none := by
    cases c : H1 a with
    | none => rfl
    | some o => rw [hid_of c nj] at r5; cases r5
  exact q ν2 a H2 vs' ys (k1.trans r1) r2 (k1.none nj n1) r6 r7 hΦ
/-- a def that changes nothing -/
theorem call_in0 (st : Sta K W S B ρ σ H ν) {i : ι} {us : List V} (d : Dds K (hid (S ++ ownA ρ) H) us (arg i)) (hp : pre i 0) {Q : VK} {E : XK} (q : ∀ ν' s v H', post i 0 ν' s → RetOk K Wn (S ++ ownA ρ) (hid [] H) s v H' ν' → Q v H') : spD K Wn [] arg pre post us H Q E :=
  ⟨i, 0, S ++ ownA ρ, us, rfl, fun a ha => (nomatch ha), st.alive, trivial, fun _ _ h => (nomatch h), d, hp, q⟩
theorem kp_of0 (st : Sta K W S B ρ σ H ν) (k : Same (hid [] H) (hid [] H')) : Kp W.J H H' ∧ W.I ν H' := by
  have s : Same H H' := fun b o e => (of_hid (k b o (hid_of e (by simp)))).1
  exact ⟨Kp.same s, W.hI (fun a ha => by obtain ⟨o, eo⟩ := W.hJ st.inv a ha; rw [eo, s _ _ eo]) st.inv⟩
theorem de_call0 (h : Da K W ρ ν tr fun ν1 xs => ∃ i, xs = arg i ∧ pre i 0 ∧ ∀ ν2 s, post i 0 ν2 s → ∃ y, s = .d y ∧ Φ ν1 y) : De K W ρ ν (tCall (spD K Wn [] arg pre post) [] E0 tr) Φ := fun S B σ H Q st q => by
  refine h S B σ H _ st fun ν1 vs H1 xs k1 i1 d1 ⟨i, ex, hp, hq⟩ => ?_
  subst ex
  have st1 := st.keep k1 i1
  rw [List.append_nil]
  refine call_in0 st1 d1 hp fun ν2 s v H2 hs r => ?_
  obtain ⟨y, rfl, hΦ⟩ := hq ν2 s hs
  obtain ⟨k2, i2⟩ := kp_of0 st1 r.1
  exact q ν1 v H2 y (k1.trans k2) i2 r.2.2 hΦ
theorem do_call0 (h : Da K W ρ ν tr fun ν1 xs => ∃ i, xs = arg i ∧ pre i 0 ∧ ∀ ν2 s, post i 0 ν2 s → ∃ a ys, s = .own a ys ∧ Ψ ν1 ys) : Do K W ρ ν (tCall (spD K Wn [] arg pre post) [] E0 tr) Ψ := fun S B σ H Q st q => by
  refine h S B σ H _ st fun ν1 vs H1 xs k1 i1 d1 ⟨i, ex, hp, hq⟩ => ?_
  subst ex
  have st1 := st.keep k1 i1
  rw [List.append_nil]
  refine call_in0 st1 d1 hp fun ν2 s v H2 hs r => ?_
  obtain ⟨a, ys, rfl, hΦ⟩ := hq ν2 s hs
  obtain ⟨k2, i2⟩ := kp_of0 st1 r.1
  obtain ⟨r1, r2, rfl, r4, r5, vs', r6, r7⟩ := r
  have n1 : H1 a = none := by
    cases c : H1 a with
    | none => rfl
    | some o => rw [hid_of c (by simp)] at r5; cases r5
  exact q ν1 a H2 vs' ys (k1.trans k2) i2 (k1.none (fun z => r4 (List.mem_append_left _ (st.js a z))) n1) r6 r7 hΦ
/-- .. by names -/
theorem de_kw {gV : List V → List V} (gD : List PyData → List PyData) (h : Da K W ρ ν tr fun ν1 xs => (∀ {H : Hp} {vs : List V}, Dds K H vs xs → Dds K H (gV vs) (gD xs)) ∧ ∃ i, gD xs = arg i ∧ pre i 0 ∧ ∀ ν2 s, post i 0 ν2 s → ∃ y, s = .d y ∧ Φ ν1 y) : De K W ρ ν (tKw (spD K Wn [] arg pre post) gV tr) Φ := fun S B σ H Q st q => by
  refine h S B σ H _ st fun ν1 vs H1 xs k1 i1 d1 ⟨hg, i, ex, hp, hq⟩ => ?_
  have st1 := st.keep k1 i1
  have d2 := hg d1
  rw [ex] at d2
  refine call_in0 st1 d2 hp fun ν2 s v H2 hs r => ?_
  obtain ⟨y, rfl, hΦ⟩ := hq ν2 s hs
  obtain ⟨k2, i2⟩ := kp_of0 st1 r.1
  exact q ν1 v H2 y (k1.trans k2) i2 r.2.2 hΦ
/-! ## an own list of numbers, handed to a def that changes it -/
theorem Sta.open_ (st : Sta K W S B ρ σ H ν) {i : Nat} {a : Addr} {ns : List Int} {P : Nat → List Int → Prop} {ν0 : Nat} (h : ρ[i]? = some (.own a (ns.map .int))) (hp : P ν0 ns) (hν : W.I ν0 H) : Sta K (W.add a P) (a :: S) B (ρ.set i (.at (.ref a))) σ H ν0 := by
  have hi : i < ρ.length := lt_of_at h
  have ha : a ∈ ownA ρ := mem_ownA.mpr ⟨_, _, h⟩
  have mo : ∀ b, b ∈ ownA (ρ.set i (.at (.ref a))) ↔ b ≠ a ∧ b ∈ ownA ρ := fun b => by
    rw [mem_ownA, mem_ownA]
    constructor
    · rintro ⟨j, ys, e⟩
      rcases get_set e with ⟨_, z⟩ | ⟨ne, e⟩
      · cases z
      · rename_i e0
        refine ⟨?_, j, ys, e⟩
        intro z
        rw [z] at e
        exact ne (st.nd _ _ _ _ _ h e)
    · rintro ⟨ne, j, ys, e⟩
      refine ⟨j, ys, ?_⟩
      rw [List.getElem?_set_ne (fun z => ne (by rw [← z, h] at e; cases e; rfl))]
      exact e
  have eh : ∀ {T : List Addr}, hid (a :: T ++ ownA (ρ.set i (.at (.ref a)))) H = hid (T ++ ownA ρ) H := fun {T} => hid_congr fun b => by
    simp only [List.mem_append, List.mem_cons, mo]
    constructor
    · rintro ((rfl | z) | ⟨_, z⟩)
      · exact .inr ha
      · exact .inl z
      · exact .inr z
    · rintro (z | z)
      · exact .inl (.inr z)
      · by_cases e : b = a
        · exact .inl (.inl e)
        · exact .inr ⟨e, z⟩
  have ei : ∃ vs, H a = some (.lst vs) ∧ vs = ns.map V.int := by
    obtain ⟨u, eu, e1, vs, e2, d⟩ := st.sl i _ h
    exact ⟨vs, e2, d.ints_eq⟩
  refine ⟨by rw [List.length_set]; exact st.len, fun j r e => ?_, fun j k b ys zs e1 e2 => ?_, fun b hb z => ?_, fun b hb => ?_, ?_, ⟨hν, ns, ?_, hp⟩, fun b hb => ?_, st.gb⟩
  · rw [eh]
    rcases get_set e with ⟨rfl, rfl⟩ | ⟨ne, e'⟩
    · obtain ⟨u, eu, e1, _⟩ := st.sl i _ h
      exact ⟨u, eu, e1⟩
    · exact st.sl j r e'
  · rcases get_set e1 with ⟨_, z⟩ | ⟨_, e1⟩
    · cases z
    rcases get_set e2 with ⟨_, z⟩ | ⟨_, e2⟩
    · cases z
    exact st.nd j k b ys zs e1 e2
  · rcases List.mem_cons.mp z with rfl | z
    · exact ((mo b).mp hb).1 rfl
    · exact st.out b ((mo b).mp hb).2 z
  · rcases List.mem_cons.mp hb with rfl | hb
    · exact List.mem_cons_self
    · exact List.mem_cons_of_mem _ (st.js b hb)
  · show Same B (hid (a :: W.J ++ ownA (ρ.set i (.at (.ref a)))) H)
    rw [eh]; exact st.fr
  · obtain ⟨vs, e2, rfl⟩ := ei; exact e2
  · rcases List.mem_cons.mp hb with rfl | hb
    · exact .inl List.mem_cons_self
    · exact (st.al b hb).imp (List.mem_cons_of_mem _) id
theorem Sta.shut_ {a : Addr} {P : Nat → List Int → Prop} (st : Sta K (W.add a P) (a :: S) B ρ σ H ν) (js : ∀ b ∈ W.J, b ∈ S) (al : ∀ b ∈ S, b ∈ W.J ∨ ∃ o, B b = some o) : Sta K W S B ρ σ H ν := by
  have sm : ∀ {T T' : List Addr}, (∀ b ∈ T', b ∈ T) → Same (hid T H) (hid T' H) := fun h => hid_sub h
  have s1 : Same (hid (a :: S ++ ownA ρ) H) (hid (S ++ ownA ρ) H) := hid_sub fun b hb => List.mem_cons_of_mem _ hb
  refine ⟨st.len, fun j r e => ?_, st.nd, fun b hb z => st.out b hb (List.mem_cons_of_mem _ z), js, st.fr.trans (hid_sub fun b hb => List.mem_cons_of_mem _ hb), st.inv.1, al, st.gb⟩
  obtain ⟨u, eu, h⟩ := st.sl j r e
  refine ⟨u, eu, ?_⟩
  cases r with
  | un => trivial
  | d x => obtain ⟨v, e1, d⟩ := h; exact ⟨v, e1, d.same s1⟩
  | own b ys => obtain ⟨e1, us, e2, d⟩ := h; exact ⟨e1, us, e2, d.same s1⟩
  | «at» v => exact h
theorem RetOk.shut_ {a : Addr} {P : Nat → List Int → Prop} {s : Sl} {v : V} (r : RetOk K (W.add a P) (a :: S) B s v H ν) : RetOk K W S B s v H ν := by
  obtain ⟨r1, r2, r3⟩ := r
  refine ⟨r1.trans (hid_sub fun b hb => List.mem_cons_of_mem _ hb), r2.1, ?_⟩
  cases s with
  | un => trivial
  | d x => exact r3.same (hid_sub fun b hb => List.mem_cons_of_mem _ hb)
  | «at» w => exact r3
  | own b ys =>
    obtain ⟨q1, q2, q3, vs, q4, q5⟩ := r3
    refine ⟨q1, fun z => q2 (List.mem_cons_of_mem _ z), q3, vs, q4, q5.same (hid_sub fun c hc => ?_)⟩
    rcases List.mem_cons.mp hc with rfl | hc
    · exact List.mem_cons_self
    · exact List.mem_cons_of_mem _ (List.mem_cons_of_mem _ hc)
theorem ds_open {t : TS} {P : Po} (i : Nat) {a : Addr} {ns : List Int} {J : Nat → List Int → Prop} (ν0 : Nat) (hν : ∀ H, W.I ν H → W.I ν0 H) (h : ρ[i]? = some (.own a (ns.map .int))) (hp : J ν0 ns) (hd : Ds K (W.add a J) (ρ.set i (.at (.ref a))) ν0 t P) : Ds K W ρ ν t P := fun S B σ H D st e =>
  hd (a :: S) B σ H D (st.open_ h hp (hν H st.inv)) ⟨fun _ ρ' σ' H' st' h' => e.nx _ ρ' σ' H' (st'.shut_ st.js st.al) h', fun _ s v H' r h' => e.rt _ s v H' r.shut_ h', fun _ ρ' σ' H' st' h' => e.bk _ ρ' σ' H' (st'.shut_ st.js st.al) h', fun _ ρ' σ' H' st' h' => e.ct _ ρ' σ' H' (st'.shut_ st.js st.al) h'⟩
end
/-! ## built-in things -/
section
variable {K : PySem.W.Frag} {W : Wd} {ρ : List Sl} {ta tb te : TE} {tr : TA} {ν : Nat} {Φ : Nat → PyData → Prop} {Ψ : Nat → List PyData → Prop} {Χ : Nat → Bool → Prop}
/-- an own list read as data, where plain data comes of it -/
theorem de_peek {t : TE} (i : Nat) {a : Addr} {xs : List PyData} (ho : ρ[i]? = some (.own a xs)) (h : De K W (ρ.set i (.d (.list xs))) ν t fun ν1 x => flatD x = true ∧ Φ ν1 x) : De K W ρ ν t Φ := fun S B σ H Q st q =>
  h S B σ H Q (st.freeze ho) fun _ v H' x k i' d ⟨hf, hΦ⟩ => q _ v H' x k i' (flat_dd hf d) hΦ
theorem dt_peek {t : TT} (i : Nat) {a : Addr} {xs : List PyData} (ho : ρ[i]? = some (.own a xs)) (h : Dt K W (ρ.set i (.d (.list xs))) ν t Χ) : Dt K W ρ ν t Χ := fun S B σ H Q st q => h S B σ H Q (st.freeze ho) q
theorem flat_dds {H H' : Hp} : ∀ {xs : List PyData} {vs : List V}, (∀ x ∈ xs, flatD x = true) → Dds K H vs xs → Dds K H' vs xs
  | [], _, _, d => by cases d; exact .nil
  | x :: xs, _, h, d => by
    cases d with
    | cons d1 d2 => exact .cons (flat_dd (h x List.mem_cons_self) d1) (flat_dds (fun y hy => h y (List.mem_cons_of_mem _ hy)) d2)
theorem do_peek {t : TE} (i : Nat) {a : Addr} {xs : List PyData} (ho : ρ[i]? = some (.own a xs)) (h : Do K W (ρ.set i (.d (.list xs))) ν t fun ν1 ys => (∀ y ∈ ys, flatD y = true) ∧ Ψ ν1 ys) : Do K W ρ ν t Ψ := fun S B σ H Q st q =>
  h S B σ H Q (st.freeze ho) fun _ b H' vs ys k i' n e d ⟨hf, hΨ⟩ => q _ b H' vs ys k i' n e (flat_dds hf d) hΨ
theorem de_len (h : De K W ρ ν te fun ν1 x => ∃ xs, (x = .list xs ∨ x = .tuple xs) ∧ Φ ν1 (.int xs.length)) : De K W ρ ν (tCB (fun as H Q => ∃ p ys, as = [.ref p] ∧ (SqL K H p ys ∨ SqT K H p ys) ∧ Q (.int ys.length) H) (tCons te tNil)) Φ := fun S B σ H Q st q => by
  refine h S B σ H _ st fun _ v H1 x k1 i1 d1 ⟨xs, ex, hΦ⟩ => ?_
  rcases ex with rfl | rfl
  · cases d1 with
    | lst e ds => refine ⟨_, _, rfl, .inl (.inl (.inl (of_hid e).1)), ?_⟩; rw [ds.len]; exact q _ _ _ _ k1 i1 (.int _) hΦ
  · cases d1 with
    | tup e ds => refine ⟨_, _, rfl, .inr (same_tup hid_same e), ?_⟩; rw [ds.len]; exact q _ _ _ _ k1 i1 (.int _) hΦ
theorem de_abs (h : De K W ρ ν te fun ν1 x => ∃ i, x = .int i ∧ Φ ν1 (.int (if i < 0 then -i else i))) : De K W ρ ν (tCB (fun xs H Q => ∃ i, xs = [.int i] ∧ Q (.int (if i < 0 then -i else i)) H) (tCons te tNil)) Φ := fun S B σ H Q st q => by
  refine h S B σ H _ st fun _ v H1 x k1 i1 d1 ⟨i, ex, hΦ⟩ => ?_
  subst ex; cases d1
  exact ⟨i, rfl, q _ _ _ _ k1 i1 (.int _) hΦ⟩
theorem de_two {g : Int → Int → Int} (h : De K W ρ ν ta fun ν1 x => De K W ρ ν1 tb fun ν2 y => ∃ i j, x = .int i ∧ y = .int j ∧ Φ ν2 (.int (g i j))) : De K W ρ ν (tCB (fun xs H Q => ∃ i j, xs = [.int i, .int j] ∧ Q (.int (g i j)) H) (tCons ta (tCons tb tNil))) Φ := fun S B σ H Q st q => by
  refine h S B σ H _ st fun _ v H1 x k1 i1 d1 h1 => ?_
  refine h1 S B σ H1 _ (st.keep k1 i1) fun _ w H2 y k2 i2 d2 ⟨i, j, ex, ey, hΦ⟩ => ?_
  subst ex ey; cases d1; cases d2
  exact ⟨i, j, rfl, q _ _ _ _ (k1.trans k2) i2 (.int _) hΦ⟩
theorem de_maxL (h : De K W ρ ν te fun ν1 x => ∃ ns : List Int, x = .list (ns.map .int) ∧ 0 < ns.length ∧ ∀ m, m ∈ ns → (∀ y, y ∈ ns → y ≤ m) → Φ ν1 (.int m)) : De K W ρ ν (tCB (rMax K) (tCons te tNil)) Φ := fun S B σ H Q st q => by
  refine h S B σ H _ st fun _ v H1 x k1 i1 d1 ⟨ns, ex, hl, hΦ⟩ => ?_
  subst ex
  cases d1 with
  | lst e ds =>
    cases ds.ints_eq
    exact ⟨_, ns, rfl, .inl (.inl (of_hid e).1), hl, fun m h1 h2 => q _ _ _ _ k1 i1 (.int _) (hΦ m h1 h2)⟩
theorem de_minL (h : De K W ρ ν te fun ν1 x => ∃ ns : List Int, x = .list (ns.map .int) ∧ 0 < ns.length ∧ ∀ m, m ∈ ns → (∀ y, y ∈ ns → m ≤ y) → Φ ν1 (.int m)) : De K W ρ ν (tCB (rMin K) (tCons te tNil)) Φ := fun S B σ H Q st q => by
  refine h S B σ H _ st fun _ v H1 x k1 i1 d1 ⟨ns, ex, hl, hΦ⟩ => ?_
  subst ex
  cases d1 with
  | lst e ds =>
    cases ds.ints_eq
    exact ⟨_, ns, rfl, .inl (.inl (of_hid e).1), hl, fun m h1 h2 => q _ _ _ _ k1 i1 (.int _) (hΦ m h1 h2)⟩
theorem de_sum (h : De K W ρ ν te fun ν1 x => ∃ ns : List Int, x = .list (ns.map .int) ∧ Φ ν1 (.int ns.sum)) : De K W ρ ν (tCB (rSum K) (tCons te tNil)) Φ := fun S B σ H Q st q => by
  refine h S B σ H _ st fun _ v H1 x k1 i1 d1 ⟨ns, ex, hΦ⟩ => ?_
  subst ex
  cases d1 with
  | lst e ds =>
    cases ds.ints_eq
    exact ⟨_, ns, rfl, .inl (.inl (of_hid e).1), q _ _ _ _ k1 i1 (.int _) hΦ⟩
theorem de_sumT (h : De K W ρ ν te fun ν1 x => ∃ ns : List Int, x = .tuple (ns.map .int) ∧ Φ ν1 (.int ns.sum)) : De K W ρ ν (tCB (rSumT K) (tCons te tNil)) Φ := fun S B σ H Q st q => by
  refine h S B σ H _ st fun _ v H1 x k1 i1 d1 ⟨ns, ex, hΦ⟩ => ?_
  subst ex
  cases d1 with
  | tup e ds =>
    cases ds.ints_eq
    exact ⟨_, ns, rfl, same_tup hid_same e, q _ _ _ _ k1 i1 (.int _) hΦ⟩
theorem de_any (h : De K W ρ ν te fun ν1 x => ∃ bs : List Bool, x = .list (bs.map .bool) ∧ Φ ν1 (.bool (bs.any id))) : De K W ρ ν (tCB (rAny K) (tCons te tNil)) Φ := fun S B σ H Q st q => by
  refine h S B σ H _ st fun _ v H1 x k1 i1 d1 ⟨ns, ex, hΦ⟩ => ?_
  subst ex
  cases d1 with
  | lst e ds =>
    cases ds.bools_eq
    exact ⟨_, ns, rfl, .inl (.inl (of_hid e).1), q _ _ _ _ k1 i1 (.bl _) hΦ⟩
theorem de_all (h : De K W ρ ν te fun ν1 x => ∃ bs : List Bool, x = .list (bs.map .bool) ∧ Φ ν1 (.bool (bs.all id))) : De K W ρ ν (tCB (rAll K) (tCons te tNil)) Φ := fun S B σ H Q st q => by
  refine h S B σ H _ st fun _ v H1 x k1 i1 d1 ⟨ns, ex, hΦ⟩ => ?_
  subst ex
  cases d1 with
  | lst e ds =>
    cases ds.bools_eq
    exact ⟨_, ns, rfl, .inl (.inl (of_hid e).1), q _ _ _ _ k1 i1 (.bl _) hΦ⟩
theorem de_intB (h : De K W ρ ν te fun ν1 x => ∃ b, x = .bool b ∧ Φ ν1 (.int (if b then 1 else 0))) : De K W ρ ν (tCB (fun xs H Q => (∃ i, xs = [.int i] ∧ Q (.int i) H) ∨ ∃ k, xs = [.bl k] ∧ Q (.int (if k then 1 else 0)) H) (tCons te tNil)) Φ := fun S B σ H Q st q => by
  refine h S B σ H _ st fun _ v H1 x k1 i1 d1 ⟨b, ex, hΦ⟩ => ?_
  subst ex; cases d1
  exact .inr ⟨b, rfl, q _ _ _ _ k1 i1 (.int _) hΦ⟩
theorem do_list (h : De K W ρ ν te fun ν1 x => ∃ xs, (x = .list xs ∨ x = .tuple xs) ∧ Ψ ν1 xs) : Do K W ρ ν (tCB (fun xs H Q => ∃ p ys, xs = [.ref p] ∧ (SqL K H p ys ∨ SqT K H p ys) ∧ ∀ l, H l = none → Q (.ref l) (upd H l (.lst ys))) (tCons te tNil)) Ψ := fun S B σ H Q st q => by
  refine h S B σ H _ st fun _ v H1 x k1 i1 d1 ⟨xs, ex, hΨ⟩ => ?_
  have st1 := st.keep k1 i1
  have fin : ∀ p ys, v = .ref p → (SqL K H1 p ys ∨ SqT K H1 p ys) → Dds K (hid (S ++ ownA ρ) H1) ys xs → ∃ p ys, [v] = [.ref p] ∧ (SqL K H1 p ys ∨ SqT K H1 p ys) ∧ ∀ l, H1 l = none → Q (.ref l) (upd H1 l (.lst ys)) := fun p ys e1 e2 ds => by
    refine ⟨p, ys, by rw [e1], e2, fun l nl => ?_⟩
    have f := st1.fresh nl
    exact q _ _ _ _ _ (k1.trans (st1.new nl).1) (st1.new nl).2 (k1.none f.2.2 nl) upd_same (ds.same (hid_new nl)) hΨ
  rcases ex with rfl | rfl
  · cases d1 with
    | lst e ds => exact fin _ _ rfl (.inl (.inl (.inl (of_hid e).1))) ds
  · cases d1 with
    | tup e ds => exact fin _ _ rfl (.inr (same_tup hid_same e)) ds
/-- list(x) of an own list -/
theorem do_listO {i : Nat} {a : Addr} {xs : List PyData} (ho : ρ[i]? = some (.own a xs)) (h : Ψ ν xs) : Do K W ρ ν (tCB (fun xs H Q => ∃ p ys, xs = [.ref p] ∧ (SqL K H p ys ∨ SqT K H p ys) ∧ ∀ l, H l = none → Q (.ref l) (upd H l (.lst ys))) (tCons (tVar i) tNil)) Ψ := fun S B σ H Q st q => by
  obtain ⟨u, eu, e1, vs, e2, d⟩ := st.sl i _ ho
  subst e1
  refine ⟨_, eu, a, vs, rfl, .inl (.inl (.inl e2)), fun l nl => ?_⟩
  have f := st.fresh nl
  exact q _ _ _ _ _ (st.new nl).1 (st.new nl).2 nl upd_same (d.same (hid_new nl)) h
theorem do_lstRg1 (h : De K W ρ ν te fun ν1 x => ∃ n, x = .int n ∧ RgOk 0 n ∧ ∀ vs : List Int, rgV 0 n = vs.map V.int → Ψ ν1 (vs.map .int)) (hr : ∀ n, ∃ vs : List Int, rgV 0 n = vs.map V.int) : Do K W ρ ν (tLstRg (tRg1 te)) Ψ := fun S B σ H Q st q => by
  refine h S B σ H _ st fun _ v H1 x k1 i1 d1 ⟨n, ex, hn, hΨ⟩ => ?_
  subst ex; cases d1
  have st1 := st.keep k1 i1
  refine ⟨n, rfl, hn, fun l nl => ?_⟩
  obtain ⟨vs, ev⟩ := hr n
  have f := st1.fresh nl
  rw [ev]
  exact q _ _ _ _ _ (k1.trans (st1.new nl).1) (st1.new nl).2 (k1.none f.2.2 nl) upd_same (Dds.ints vs) (hΨ vs ev)
/-! slices -/
def Dp0 (K : PySem.W.Frag) (W : Wd) (ρ : List Sl) (ν : Nat) (t : TO) (Θ : Nat → Option Int → Prop) : Prop := ∀ S B σ H Q, Sta K W S B ρ σ H ν → (∀ ν' o H', Kp W.J H H' → W.I ν' H' → Θ ν' o → Q o H') → t σ H Q
theorem dp_no {Θ : Nat → Option Int → Prop} (h : Θ ν none) : Dp0 K W ρ ν tNoPart Θ := fun S B σ H Q st q => q _ _ _ Kp.refl st.inv h
theorem dp_part {Θ : Nat → Option Int → Prop} (h : De K W ρ ν te fun ν1 x => ∃ i, x = .int i ∧ Θ ν1 (some i)) : Dp0 K W ρ ν (tPart te) Θ := fun S B σ H Q st q => by
  refine h S B σ H _ st fun _ v H1 x k1 i1 d1 ⟨i, ex, hΘ⟩ => ?_
  subst ex; cases d1
  exact ⟨i, rfl, q _ _ _ k1 i1 hΘ⟩
def cutD (xs : List PyData) (lo hi : Option Int) : List PyData := (xs.drop (HT.sIx xs.length 0 lo)).take (HT.sIx xs.length xs.length hi - HT.sIx xs.length 0 lo)
theorem Dds.cut {H : Hp} {vs : List V} {xs : List PyData} {lo hi : Option Int} (d : Dds K H vs xs) : Dds K H (cutV vs lo hi) (cutD xs lo hi) := by
  unfold cutV cutD
  rw [d.len]
  exact (d.drop _).take _
theorem do_slL {tl th : TO} (h : De K W ρ ν te fun ν1 x => Dp0 K W ρ ν1 tl fun ν2 lo => Dp0 K W ρ ν2 th fun ν3 hi => ∃ xs, x = .list xs ∧ Ψ ν3 (cutD xs lo hi)) : Do K W ρ ν (tSl (rSlL K) te tl th) Ψ := fun S B σ H Q st q => by
  refine h S B σ H _ st fun _ v H1 x k1 i1 d1 h1 => ?_
  refine h1 S B σ H1 _ (st.keep k1 i1) fun _ lo H2 k2 i2 h2 => ?_
  refine h2 S B σ H2 _ (st.keep (k1.trans k2) i2) fun _ hi H3 k3 i3 ⟨xs, ex, hΨ⟩ => ?_
  subst ex
  have k := (k1.trans k2).trans k3
  have st3 := st.keep k i3
  cases d1.same ((st.keep k1 i1).kpS (k2.trans k3)) with
  | lst e ds =>
    refine ⟨_, _, rfl, .inl (.inl (of_hid e).1), fun l nl => ?_⟩
    have f := st3.fresh nl
    exact q _ _ _ _ _ (k.trans (st3.new nl).1) (st3.new nl).2 (k.none f.2.2 nl) upd_same (ds.cut.same (hid_new nl)) hΨ
theorem de_slT {tl th : TO} (h : De K W ρ ν te fun ν1 x => Dp0 K W ρ ν1 tl fun ν2 lo => Dp0 K W ρ ν2 th fun ν3 hi => ∃ xs, x = .tuple xs ∧ ¬ (HT.sIx xs.length 0 lo = 0 ∧ HT.sIx xs.length xs.length hi = xs.length) ∧ Φ ν3 (.tuple (cutD xs lo hi))) : De K W ρ ν (tSl (rSlT K) te tl th) Φ := fun S B σ H Q st q => by
  refine h S B σ H _ st fun _ v H1 x k1 i1 d1 h1 => ?_
  refine h1 S B σ H1 _ (st.keep k1 i1) fun _ lo H2 k2 i2 h2 => ?_
  refine h2 S B σ H2 _ (st.keep (k1.trans k2) i2) fun _ hi H3 k3 i3 ⟨xs, ex, hn, hΦ⟩ => ?_
  subst ex
  have k := (k1.trans k2).trans k3
  have st3 := st.keep k i3
  cases d1.same ((st.keep k1 i1).kpS (k2.trans k3)) with
  | tup e ds =>
    refine ⟨_, _, rfl, same_tup hid_same e, by rw [ds.len]; exact hn, fun l nl => ?_⟩
    have f := st3.fresh nl
    exact q _ _ _ _ (k.trans (st3.new nl).1) (st3.new nl).2 (.tup (.inl (.inl (hid_of upd_same (by simp [f.1, f.2.1])))) (ds.cut.same (hid_new' nl))) hΦ
theorem do_revL (h : De K W ρ ν te fun ν1 x => ∃ xs, x = .list xs ∧ Ψ ν1 xs.reverse) : Do K W ρ ν (tRevL K te) Ψ := fun S B σ H Q st q => by
  refine h S B σ H _ st fun _ v H1 x k1 i1 d1 ⟨xs, ex, hΨ⟩ => ?_
  subst ex
  have st1 := st.keep k1 i1
  cases d1 with
  | lst e ds =>
    refine ⟨_, _, rfl, .inl (.inl (of_hid e).1), fun l nl => ?_⟩
    have f := st1.fresh nl
    exact q _ _ _ _ _ (k1.trans (st1.new nl).1) (st1.new nl).2 (k1.none f.2.2 nl) upd_same (ds.rev.same (hid_new nl)) hΨ
/-! isinstance, repr -/
def tyD : PyData → String
  | .none => "NoneType"
  | .bool _ => "bool"
  | .int _ => "int"
  | .str _ => "str"
  | .list _ => "list"
  | .tuple _ => "tuple"
  | .dict _ => "dict"
theorem dd_ty {H : Hp} : ∀ {x : PyData} {v : V}, Dd K H v x → TyX K H v (.type (tyD x))
  | .none, _, h => by cases h; exact .base .non
  | .bool b, _, h => by cases h; exact .base (.bl b)
  | .int i, _, h => by cases h; exact .base (.int i)
  | .str x, _, h => by cases h; exact .base (.str x)
  | .list ds, _, h => by
    cases h with
    | lst e d => exact .base (.lst e)
  | .tuple ds, _, h => by
    cases h with
    | tup e d =>
      rcases e with (e | ⟨o, e⟩) | e
      · exact .base (.tup e)
      · exact .fTuple e
      · obtain ⟨o, its, m, e1, e2, _⟩ := e
        exact .kTuple e1 e2
  | .dict _, _, h => by cases h
theorem tyd_same {H H' : Hp} (s : Same H H') {v : V} {x : PyData} (d : Dd K H v x) : TyX K H' v (.type (tyD x)) := dd_ty (d.same s)
theorem de_isi {n : String} (h : De K W ρ ν te fun ν1 x => ∃ b, PySem.W.kitOne K (.type (tyD x)) (.type n) = some b ∧ Φ ν1 (.bool b)) : De K W ρ ν (tCB (rIsi K) (tCons te (tCons (tC (.ty n)) tNil))) Φ := fun S B σ H Q st q => by
  refine h S B σ H _ st fun _ v H1 x k1 i1 d1 ⟨b, hb, hΦ⟩ => ?_
  exact ⟨v, _, _, _, b, rfl, .ty n, tyd_same hid_same d1, hb, q _ _ _ _ k1 i1 (.bl _) hΦ⟩
theorem de_repr (h : De K W ρ ν te fun ν1 x => ∃ n w, (∃ xs, x = .list xs ∨ x = .tuple xs) ∧ Rp x n w ∧ n ≤ 50 ∧ w ≤ 100000 ∧ Φ ν1 (.str x.shown)) : De K W ρ ν (tCB (fun xs H Q => ∃ (a : Addr) (d : PyData) (n W : Nat), xs = [.ref a] ∧ Dp K H (.ref a) d ∧ Rp d n W ∧ n ≤ 50 ∧ W ≤ 100000 ∧ Q (.str d.shown) H) (tCons te tNil)) Φ := fun S B σ H Q st q => by
  refine h S B σ H _ st fun _ v H1 x k1 i1 d1 ⟨n, w, ⟨xs, hx⟩, hr, hn, hw, hΦ⟩ => ?_
  have d2 := (d1.same hid_same).dp
  have : ∃ a, v = .ref a := by
    rcases hx with rfl | rfl
    · cases d1; exact ⟨_, rfl⟩
    · cases d1; exact ⟨_, rfl⟩
  obtain ⟨a, rfl⟩ := this
  exact ⟨a, x, n, w, rfl, d2, hr, hn, hw, q _ _ _ _ k1 i1 (.str _) hΦ⟩
end
end Bd
namespace Bd
open PySem PySem.Spec PyProof.Rows L2 HT
/-! ## numbers, truths, lists, tuples -/
section
variable (K : PySem.W.Frag) (W : Wd) (ρ : List Sl) (ν : Nat)
def DeI (t : TE) (k : Nat → Int → Prop) : Prop := De K W ρ ν t fun n x => ∃ i, x = .int i ∧ k n i
def DeB (t : TE) (k : Nat → Bool → Prop) : Prop := De K W ρ ν t fun n x => ∃ b, x = .bool b ∧ k n b
def DeL (t : TE) (k : Nat → List PyData → Prop) : Prop := De K W ρ ν t fun n x => ∃ xs, x = .list xs ∧ k n xs
def DeT (t : TE) (k : Nat → List PyData → Prop) : Prop := De K W ρ ν t fun n x => ∃ xs, x = .tuple xs ∧ k n xs
end
section
variable {K : PySem.W.Frag} {W : Wd} {ρ : List Sl} {ta tb tc te : TE} {tr : TA} {t u : TT} {ν : Nat} {Φ : Nat → PyData → Prop} {Ψ : Nat → List PyData → Prop} {Χ : Nat → Bool → Prop} {k : Nat → Int → Prop} {kb : Nat → Bool → Prop} {kl : Nat → List PyData → Prop}
theorem De.imp {t : TE} {Φ Φ' : Nat → PyData → Prop} (h : De K W ρ ν t Φ) (i : ∀ n x, Φ n x → Φ' n x) : De K W ρ ν t Φ' := fun S B σ H Q st q => h S B σ H Q st fun n v H' x k i' d hΦ => q n v H' x k i' d (i n x hΦ)
theorem Do.imp {t : TE} {Φ Φ' : Nat → List PyData → Prop} (h : Do K W ρ ν t Φ) (i : ∀ n x, Φ n x → Φ' n x) : Do K W ρ ν t Φ' := fun S B σ H Q st q => h S B σ H Q st fun n a H' vs x k i' nn e d hΦ => q n a H' vs x k i' nn e d (i n x hΦ)
theorem Dt.imp {t : TT} {Φ Φ' : Nat → Bool → Prop} (h : Dt K W ρ ν t Φ) (i : ∀ n x, Φ n x → Φ' n x) : Dt K W ρ ν t Φ' := fun S B σ H Q st q => h S B σ H Q st fun n b H' k i' hΦ => q n b H' k i' (i n b hΦ)
/-- numbers as data -/
theorem dI_e {t : TE} (h : DeI K W ρ ν t fun ν1 i => Φ ν1 (.int i)) : De K W ρ ν t Φ := De.imp h fun _ x ⟨i, e, p⟩ => by rw [e]; exact p
theorem dB_e {t : TE} (h : DeB K W ρ ν t fun ν1 i => Φ ν1 (.bool i)) : De K W ρ ν t Φ := De.imp h fun _ x ⟨i, e, p⟩ => by rw [e]; exact p
theorem dI_var {i : Nat} {c : Int} (h : ρ[i]? = some (.d (.int c))) (q : k ν c) : DeI K W ρ ν (tVar i) k := de_var h ⟨c, rfl, q⟩
theorem dB_var {i : Nat} {c : Bool} (h : ρ[i]? = some (.d (.bool c))) (q : kb ν c) : DeB K W ρ ν (tVar i) kb := de_var h ⟨c, rfl, q⟩
theorem dL_var {i : Nat} {c : List PyData} (h : ρ[i]? = some (.d (.list c))) (q : kl ν c) : DeL K W ρ ν (tVar i) kl := de_var h ⟨c, rfl, q⟩
theorem dT_var {i : Nat} {c : List PyData} (h : ρ[i]? = some (.d (.tuple c))) (q : kl ν c) : DeT K W ρ ν (tVar i) kl := de_var h ⟨c, rfl, q⟩
theorem dI_c {c : Int} (q : k ν c) : DeI K W ρ ν (tC (.int c)) k := de_c rfl ⟨c, rfl, q⟩
theorem dB_c {c : Bool} (q : kb ν c) : DeB K W ρ ν (tC (.bl c)) kb := de_c rfl ⟨c, rfl, q⟩
theorem dI_op0 {g : Int → Int → Int} (h : DeI K W ρ ν ta fun ν1 i => DeI K W ρ ν1 tb fun ν2 j => k ν2 (g i j)) : DeI K W ρ ν (tOp (rI0 fun i j => .int (g i j)) ta tb) k :=
  de_rI0 (fun _ _ => rfl) (De.imp h fun _ x ⟨i, e, p⟩ => De.imp p fun _ y ⟨j, e', p'⟩ => ⟨i, j, e, e', _, rfl, p'⟩)
theorem dI_op {C : Int → Int → Prop} {g : Int → Int → Int} (h : DeI K W ρ ν ta fun ν1 i => DeI K W ρ ν1 tb fun ν2 j => C i j ∧ k ν2 (g i j)) : DeI K W ρ ν (tOp (rI C fun i j => .int (g i j)) ta tb) k :=
  de_rI (fun _ _ => rfl) (De.imp h fun _ x ⟨i, e, p⟩ => De.imp p fun _ y ⟨j, e', c, p'⟩ => ⟨i, j, e, e', c, _, rfl, p'⟩)
theorem dI_un {g : Int → Int} (h : DeI K W ρ ν ta fun ν1 i => k ν1 (g i)) : DeI K W ρ ν (tUn (rU fun i => .int (g i)) ta) k := de_rU (fun _ => rfl) (De.imp h fun _ x ⟨i, e, p⟩ => ⟨i, e, _, rfl, p⟩)
theorem dB_op0 {g : Int → Int → Bool} (h : DeI K W ρ ν ta fun ν1 i => DeI K W ρ ν1 tb fun ν2 j => kb ν2 (g i j)) : DeB K W ρ ν (tOp (rI0 fun i j => .bl (g i j)) ta tb) kb :=
  de_rI0 (fun _ _ => rfl) (De.imp h fun _ x ⟨i, e, p⟩ => De.imp p fun _ y ⟨j, e', p'⟩ => ⟨i, j, e, e', _, rfl, p'⟩)
theorem dB_eqI (h : DeI K W ρ ν ta fun ν1 i => DeI K W ρ ν1 tb fun ν2 j => kb ν2 (decide (i = j))) : DeB K W ρ ν (tOp rEq ta tb) kb := de_eqI (De.imp h fun _ x ⟨i, e, p⟩ => De.imp p fun _ y ⟨j, e', p'⟩ => ⟨i, j, e, e', _, rfl, p'⟩)
theorem dB_neI (h : DeI K W ρ ν ta fun ν1 i => DeI K W ρ ν1 tb fun ν2 j => kb ν2 (!decide (i = j))) : DeB K W ρ ν (tOp rNe ta tb) kb := de_neI (De.imp h fun _ x ⟨i, e, p⟩ => De.imp p fun _ y ⟨j, e', p'⟩ => ⟨i, j, e, e', _, rfl, p'⟩)
theorem dB_eqD (h : De K W ρ ν ta fun ν1 x => De K W ρ ν1 tb fun ν2 y => SeqAt.shaped x = true ∧ SeqAt.shaped y = true ∧ kb ν2 (PyData.eqv x y)) : DeB K W ρ ν (tOp (rEqD K) ta tb) kb := de_eqD (De.imp h fun _ x p => De.imp p fun _ y ⟨a, b, c⟩ => ⟨a, b, _, rfl, c⟩)
theorem dB_neD (h : De K W ρ ν ta fun ν1 x => De K W ρ ν1 tb fun ν2 y => SeqAt.shaped x = true ∧ SeqAt.shaped y = true ∧ kb ν2 (!PyData.eqv x y)) : DeB K W ρ ν (tOp (rNeD K) ta tb) kb := de_neD (De.imp h fun _ x p => De.imp p fun _ y ⟨a, b, c⟩ => ⟨a, b, _, rfl, c⟩)
theorem dB_inI {neg : Bool} (h : DeI K W ρ ν ta fun ν1 i => De K W ρ ν1 tb fun ν2 y => ∃ ns : List Int, (y = .list (ns.map .int) ∨ y = .tuple (ns.map .int)) ∧ kb ν2 (if neg then !decide (i ∈ ns) else decide (i ∈ ns))) : DeB K W ρ ν (tOp (rIn K neg) ta tb) kb :=
  de_inI (De.imp h fun _ x ⟨i, e, p⟩ => De.imp p fun _ y ⟨ns, e', p'⟩ => ⟨i, ns, e, e', _, rfl, p'⟩)
theorem dB_not (h : DeB K W ρ ν ta fun ν1 b => kb ν1 (!b)) : DeB K W ρ ν (tNotV ta) kb := de_not (De.imp h fun _ x ⟨b, e, p⟩ => ⟨b, e, _, rfl, p⟩)
theorem dB_and (h : DeB K W ρ ν ta fun ν1 b => (b = true → DeB K W ρ ν1 tb kb) ∧ (b = false → kb ν1 false)) : DeB K W ρ ν (tAndV ta tb) kb := de_and (De.imp h fun _ x ⟨b, e, p, q⟩ => ⟨b, e, p, fun z => ⟨_, rfl, q z⟩⟩)
theorem dB_or (h : DeB K W ρ ν ta fun ν1 b => (b = true → kb ν1 true) ∧ (b = false → DeB K W ρ ν1 tb kb)) : DeB K W ρ ν (tOrV ta tb) kb := de_or (De.imp h fun _ x ⟨b, e, p, q⟩ => ⟨b, e, fun z => ⟨_, rfl, p z⟩, q⟩)
theorem dB_chain {g g' : Int → Int → Bool} (h : DeI K W ρ ν ta fun ν1 i => DeI K W ρ ν1 tb fun ν2 j => (g i j = true → DeI K W ρ ν2 tc fun ν3 l => kb ν3 (g' j l)) ∧ (g i j = false → kb ν2 false)) :
    DeB K W ρ ν (tChain (rI0 fun i j => .bl (g i j)) (rI0 fun i j => .bl (g' i j)) ta tb tc) kb :=
  de_chain (De.imp h fun _ x ⟨i, e, p⟩ => De.imp p fun _ y ⟨j, e', p1, p2⟩ => ⟨i, j, e, e', fun z => De.imp (p1 z) fun _ w ⟨l, e'', p3⟩ => ⟨l, e'', _, rfl, p3⟩, fun z => ⟨_, rfl, p2 z⟩⟩)
theorem dI_if (h : Dt K W ρ ν t fun ν1 b => (b = true → DeI K W ρ ν1 ta k) ∧ (b = false → DeI K W ρ ν1 tb k)) : DeI K W ρ ν (tIf t ta tb) k := de_if h
theorem dB_if (h : Dt K W ρ ν t fun ν1 b => (b = true → DeB K W ρ ν1 ta kb) ∧ (b = false → DeB K W ρ ν1 tb kb)) : DeB K W ρ ν (tIf t ta tb) kb := de_if h
/-! items -/
theorem dX_ixL (h : DeL K W ρ ν ta fun ν1 xs => DeI K W ρ ν1 tb fun ν2 i => ∃ d, atD xs i = some d ∧ Φ ν2 d) : De K W ρ ν (tOp (rIxL K) ta tb) Φ := de_ixL (De.imp h fun _ x ⟨xs, e, p⟩ => De.imp p fun _ y ⟨i, e', d, ed, q⟩ => ⟨xs, i, d, e, e', ed, q⟩)
theorem dX_ixT (h : DeT K W ρ ν ta fun ν1 xs => DeI K W ρ ν1 tb fun ν2 i => ∃ d, atD xs i = some d ∧ Φ ν2 d) : De K W ρ ν (tOp (rIxT K) ta tb) Φ := de_ixT (De.imp h fun _ x ⟨xs, e, p⟩ => De.imp p fun _ y ⟨i, e', d, ed, q⟩ => ⟨xs, i, d, e, e', ed, q⟩)
theorem dX_ixO {j : Nat} {a : Addr} {xs : List PyData} (ho : ρ[j]? = some (.own a xs)) (h : DeI K W ρ ν tb fun ν1 i => ∃ d, atD xs i = some d ∧ Φ ν1 d) : De K W ρ ν (tOp (rIxL K) (tVar j) tb) Φ := de_ixO ho (De.imp h fun _ y ⟨i, e', d, ed, q⟩ => ⟨i, d, e', ed, q⟩)
theorem dI_ixL (h : DeL K W ρ ν ta fun ν1 xs => DeI K W ρ ν1 tb fun ν2 i => ∃ c, atD xs i = some (.int c) ∧ k ν2 c) : DeI K W ρ ν (tOp (rIxL K) ta tb) k := dX_ixL (De.imp h fun _ x ⟨xs, e, p⟩ => ⟨xs, e, De.imp p fun _ y ⟨i, e', c, ed, q⟩ => ⟨i, e', _, ed, c, rfl, q⟩⟩)
theorem dI_ixT (h : DeT K W ρ ν ta fun ν1 xs => DeI K W ρ ν1 tb fun ν2 i => ∃ c, atD xs i = some (.int c) ∧ k ν2 c) : DeI K W ρ ν (tOp (rIxT K) ta tb) k := dX_ixT (De.imp h fun _ x ⟨xs, e, p⟩ => ⟨xs, e, De.imp p fun _ y ⟨i, e', c, ed, q⟩ => ⟨i, e', _, ed, c, rfl, q⟩⟩)
theorem dI_ixO {j : Nat} {a : Addr} {xs : List PyData} (ho : ρ[j]? = some (.own a xs)) (h : DeI K W ρ ν tb fun ν1 i => ∃ c, atD xs i = some (.int c) ∧ k ν1 c) : DeI K W ρ ν (tOp (rIxL K) (tVar j) tb) k := dX_ixO ho (De.imp h fun _ y ⟨i, e', c, ed, q⟩ => ⟨i, e', _, ed, c, rfl, q⟩)
theorem dL_ixL (h : DeL K W ρ ν ta fun ν1 xs => DeI K W ρ ν1 tb fun ν2 i => ∃ c, atD xs i = some (.list c) ∧ kl ν2 c) : DeL K W ρ ν (tOp (rIxL K) ta tb) kl := dX_ixL (De.imp h fun _ x ⟨xs, e, p⟩ => ⟨xs, e, De.imp p fun _ y ⟨i, e', c, ed, q⟩ => ⟨i, e', _, ed, c, rfl, q⟩⟩)
theorem dL_ixT (h : DeT K W ρ ν ta fun ν1 xs => DeI K W ρ ν1 tb fun ν2 i => ∃ c, atD xs i = some (.list c) ∧ kl ν2 c) : DeL K W ρ ν (tOp (rIxT K) ta tb) kl := dX_ixT (De.imp h fun _ x ⟨xs, e, p⟩ => ⟨xs, e, De.imp p fun _ y ⟨i, e', c, ed, q⟩ => ⟨i, e', _, ed, c, rfl, q⟩⟩)
theorem dL_ixO {j : Nat} {a : Addr} {xs : List PyData} (ho : ρ[j]? = some (.own a xs)) (h : DeI K W ρ ν tb fun ν1 i => ∃ c, atD xs i = some (.list c) ∧ kl ν1 c) : DeL K W ρ ν (tOp (rIxL K) (tVar j) tb) kl := dX_ixO ho (De.imp h fun _ y ⟨i, e', c, ed, q⟩ => ⟨i, e', _, ed, c, rfl, q⟩)
theorem dT_ixL (h : DeL K W ρ ν ta fun ν1 xs => DeI K W ρ ν1 tb fun ν2 i => ∃ c, atD xs i = some (.tuple c) ∧ kl ν2 c) : DeT K W ρ ν (tOp (rIxL K) ta tb) kl := dX_ixL (De.imp h fun _ x ⟨xs, e, p⟩ => ⟨xs, e, De.imp p fun _ y ⟨i, e', c, ed, q⟩ => ⟨i, e', _, ed, c, rfl, q⟩⟩)
theorem dT_ixT (h : DeT K W ρ ν ta fun ν1 xs => DeI K W ρ ν1 tb fun ν2 i => ∃ c, atD xs i = some (.tuple c) ∧ kl ν2 c) : DeT K W ρ ν (tOp (rIxT K) ta tb) kl := dX_ixT (De.imp h fun _ x ⟨xs, e, p⟩ => ⟨xs, e, De.imp p fun _ y ⟨i, e', c, ed, q⟩ => ⟨i, e', _, ed, c, rfl, q⟩⟩)
theorem dT_tup (h : Da K W ρ ν tr fun ν1 xs => xs.length ≤ sizeLine ∧ kl ν1 xs) : DeT K W ρ ν (tTup tr) kl := de_tup (fun S B σ H Q st q => h S B σ H Q st fun n vs H' xs k' i' d ⟨a, b⟩ => q n vs H' xs k' i' d ⟨a, xs, rfl, b⟩)
theorem dL_o {t : TE} (h : Do K W ρ ν t kl) : DeL K W ρ ν t kl := Do.de (h.imp fun _ xs p => ⟨xs, rfl, p⟩)
theorem do_catL (h : DeL K W ρ ν ta fun ν1 xs => DeL K W ρ ν1 tb fun ν2 ys => xs.length + ys.length ≤ sizeLine ∧ Ψ ν2 (xs ++ ys)) : Do K W ρ ν (tOp rCat ta tb) Ψ := do_cat (De.imp h fun _ x ⟨xs, e, p⟩ => De.imp p fun _ y ⟨ys, e', a, b⟩ => ⟨xs, ys, e, e', a, b⟩)
theorem dI_lenL (h : DeL K W ρ ν te fun ν1 xs => k ν1 (xs.length : Int)) : DeI K W ρ ν (tCB (fun as H Q => ∃ p ys, as = [.ref p] ∧ (SqL K H p ys ∨ SqT K H p ys) ∧ Q (.int ys.length) H) (tCons te tNil)) k := de_len (De.imp h fun _ x ⟨xs, e, p⟩ => ⟨xs, .inl e, _, rfl, p⟩)
theorem dI_lenT (h : DeT K W ρ ν te fun ν1 xs => k ν1 (xs.length : Int)) : DeI K W ρ ν (tCB (fun as H Q => ∃ p ys, as = [.ref p] ∧ (SqL K H p ys ∨ SqT K H p ys) ∧ Q (.int ys.length) H) (tCons te tNil)) k := de_len (De.imp h fun _ x ⟨xs, e, p⟩ => ⟨xs, .inr e, _, rfl, p⟩)
theorem dI_lenO {i : Nat} {a : Addr} {xs : List PyData} (ho : ρ[i]? = some (.own a xs)) (h : k ν (xs.length : Int)) : DeI K W ρ ν (tCB (fun as H Q => ∃ p ys, as = [.ref p] ∧ (SqL K H p ys ∨ SqT K H p ys) ∧ Q (.int ys.length) H) (tCons (tVar i) tNil)) k :=
  de_peek i ho (de_len (de_var (List.getElem?_set_self (lt_of_at ho)) ⟨xs, .inl rfl, rfl, _, rfl, h⟩))
theorem dI_abs (h : DeI K W ρ ν te fun ν1 i => k ν1 (if i < 0 then -i else i)) : DeI K W ρ ν (tCB (fun xs H Q => ∃ i, xs = [.int i] ∧ Q (.int (if i < 0 then -i else i)) H) (tCons te tNil)) k := de_abs (De.imp h fun _ x ⟨i, e, p⟩ => ⟨i, e, _, rfl, p⟩)
theorem dI_two {g : Int → Int → Int} (h : DeI K W ρ ν ta fun ν1 i => DeI K W ρ ν1 tb fun ν2 j => k ν2 (g i j)) : DeI K W ρ ν (tCB (fun xs H Q => ∃ i j, xs = [.int i, .int j] ∧ Q (.int (g i j)) H) (tCons ta (tCons tb tNil))) k :=
  de_two (De.imp h fun _ x ⟨i, e, p⟩ => De.imp p fun _ y ⟨j, e', p'⟩ => ⟨i, j, e, e', _, rfl, p'⟩)
theorem dI_intB (h : DeB K W ρ ν te fun ν1 b => k ν1 (if b then 1 else 0)) : DeI K W ρ ν (tCB (fun xs H Q => (∃ i, xs = [.int i] ∧ Q (.int i) H) ∨ ∃ k, xs = [.bl k] ∧ Q (.int (if k then 1 else 0)) H) (tCons te tNil)) k := de_intB (De.imp h fun _ x ⟨b, e, p⟩ => ⟨b, e, _, rfl, p⟩)
theorem dI_maxL (h : DeL K W ρ ν te fun ν1 xs => ∃ ns : List Int, xs = ns.map .int ∧ 0 < ns.length ∧ ∀ m, m ∈ ns → (∀ y, y ∈ ns → y ≤ m) → k ν1 m) : DeI K W ρ ν (tCB (rMax K) (tCons te tNil)) k := de_maxL (De.imp h fun _ x ⟨xs, e, ns, e', p, q⟩ => ⟨ns, by rw [e, e'], p, fun m h1 h2 => ⟨m, rfl, q m h1 h2⟩⟩)
theorem dI_sumL (h : DeL K W ρ ν te fun ν1 xs => ∃ ns : List Int, xs = ns.map .int ∧ k ν1 ns.sum) : DeI K W ρ ν (tCB (rSum K) (tCons te tNil)) k := de_sum (De.imp h fun _ x ⟨xs, e, ns, e', p⟩ => ⟨ns, by rw [e, e'], _, rfl, p⟩)
theorem do_slLL {tl th : TO} (h : DeL K W ρ ν te fun ν1 xs => Dp0 K W ρ ν1 tl fun ν2 lo => Dp0 K W ρ ν2 th fun ν3 hi => Ψ ν3 (cutD xs lo hi)) : Do K W ρ ν (tSl (rSlL K) te tl th) Ψ :=
  do_slL (De.imp h fun _ x ⟨xs, e, p⟩ => fun S B σ H Q st q => p S B σ H Q st fun n o H' k' i' p' => q n o H' k' i' fun S B σ H Q st q => p' S B σ H Q st fun n o H' k' i' p'' => q n o H' k' i' ⟨xs, e, p''⟩)
theorem dp_partI {Θ : Nat → Option Int → Prop} (h : DeI K W ρ ν te fun ν1 i => Θ ν1 (some i)) : Dp0 K W ρ ν (tPart te) Θ := dp_part h
theorem dt_tB (h : DeB K W ρ ν ta Χ) : Dt K W ρ ν (tB ta) Χ := dt_b h
theorem dt_tTest (h : DeB K W ρ ν ta Χ) : Dt K W ρ ν (tTest ta) Χ := dt_b h
theorem di_listL (h : DeL K W ρ ν ta Ψ) : Di K W ρ ν (iList K ta) Ψ := di_list h
theorem di_rngI (h : DeI K W ρ ν ta fun ν1 j => -(2 ^ 62) ≤ j ∧ j < 2 ^ 62 ∧ Ψ ν1 (rngD 0 j.toNat)) : Di K W ρ ν (iRng1 (tCons ta tNil)) Ψ := di_rng1 (da_cons (De.imp h fun _ x ⟨j, e, a, b, c⟩ => da_nil ⟨j, by rw [e], a, b, c⟩))
theorem di_zipL (h : DeL K W ρ ν ta fun ν1 xs => DeL K W ρ ν1 tb fun ν2 ys => Ψ ν2 (zipD xs ys)) : Di K W ρ ν (iZip K (tCons ta (tCons tb tNil))) Ψ := di_zip (da_cons (De.imp h fun _ x ⟨xs, e, p⟩ => da_cons (De.imp p fun _ y ⟨ys, e', p'⟩ => da_nil ⟨xs, ys, by rw [e, e'], p'⟩)))
theorem di_enumL (h : DeL K W ρ ν ta fun ν1 xs => Ψ ν1 (enumD xs)) : Di K W ρ ν (iEnum K (tCons ta tNil)) Ψ := di_enum (da_cons (De.imp h fun _ x ⟨xs, e, p⟩ => da_nil ⟨xs, by rw [e], p⟩))
theorem ds_subI {i : Nat} {a : Addr} {xs : List PyData} {P : Po} (ho : ρ[i]? = some (.own a xs)) (h : De K W ρ ν te fun ν1 x => DeI K W ρ ν1 tb fun ν2 n => ∃ j, ixN xs.length n = some j ∧ P.nx ν2 (ρ.set i (.own a (xs.set j x)))) : Ds K W ρ ν (tAsg te (gSub (tVar i) tb rSetL)) P :=
  ds_sub ho (De.imp h fun _ x p => De.imp p fun _ y ⟨n, e, j, ej, q⟩ => ⟨n, j, e, ej, q⟩)
theorem ds_augSI {i : Nat} {a : Addr} {xs : List PyData} {f : Int → Int → Int} {P : Po} (ho : ρ[i]? = some (.own a xs)) (h : DeI K W ρ ν tb fun ν1 n => ∃ (j : Nat) (c : Int), n = (j : Int) ∧ xs[j]? = some (.int c) ∧ DeI K W ρ ν1 te fun ν2 m => P.nx ν2 (ρ.set i (.own a (xs.set j (.int (f c m)))))) : Ds K W ρ ν (tAugS (tVar i) tb te (rGetL K) (ipI f) rSetL) P :=
  ds_augS ho (De.imp h fun _ y ⟨n, e, j, c, en, ec, q⟩ => ⟨n, j, c, e, by omega, en, ec, q⟩)
theorem ds_augI {i : Nat} {f : Int → Int → Int} {c : Int} {P : Po} (hx : ρ[i]? = some (.d (.int c))) (h : DeI K W ρ ν te fun ν1 m => P.nx ν1 (ρ.set i (.d (.int (f c m))))) : Ds K W ρ ν (tAug i te (ipI f)) P := ds_aug hx h
theorem dI_call {ι : Type} {js : List V} {arg : ι → List PyData} {pre : ι → Nat → Prop} {post : ι → Nat → Nat → Sl → Prop} {sp : Sp} {n : Nat} {j : V} (hs : ∀ vs H Q, spD K W [j] arg pre post vs H Q E0 → sp vs H Q E0) (hj : ρ[n]? = some (.at j)) (h : Da K W ρ ν tr fun ν1 xs => ∃ i, xs = arg i ∧ pre i ν1 ∧ ∀ ν2 s, post i ν1 ν2 s → ∃ y, s = .d (.int y) ∧ k ν2 y) : DeI K W ρ ν (tCall sp [] E0 (tCons (tVar n) tr)) k :=
  de_call hs hj fun S B σ H Q st q => h S B σ H Q st fun n vs H' xs k' i' d ⟨i, e, p, f⟩ => q n vs H' xs k' i' d ⟨i, e, p, fun n2 s hs => by obtain ⟨y, e2, p2⟩ := f n2 s hs; exact ⟨_, e2, y, rfl, p2⟩⟩
theorem dI_call0 {ι : Type} {arg : ι → List PyData} {pre : ι → Nat → Prop} {post : ι → Nat → Nat → Sl → Prop} (h : Da K W ρ ν tr fun ν1 xs => ∃ i, xs = arg i ∧ pre i 0 ∧ ∀ ν2 s, post i 0 ν2 s → ∃ y, s = .d (.int y) ∧ k ν1 y) : DeI K W ρ ν (tCall (spD K Wn [] arg pre post) [] E0 tr) k :=
  de_call0 fun S B σ H Q st q => h S B σ H Q st fun n vs H' xs k' i' d ⟨i, e, p, f⟩ => q n vs H' xs k' i' d ⟨i, e, p, fun n2 s hs => by obtain ⟨y, e2, p2⟩ := f n2 s hs; exact ⟨_, e2, y, rfl, p2⟩⟩
theorem dB_call0 {ι : Type} {arg : ι → List PyData} {pre : ι → Nat → Prop} {post : ι → Nat → Nat → Sl → Prop} (h : Da K W ρ ν tr fun ν1 xs => ∃ i, xs = arg i ∧ pre i 0 ∧ ∀ ν2 s, post i 0 ν2 s → ∃ y, s = .d (.bool y) ∧ kb ν1 y) : DeB K W ρ ν (tCall (spD K Wn [] arg pre post) [] E0 tr) kb :=
  de_call0 fun S B σ H Q st q => h S B σ H Q st fun n vs H' xs k' i' d ⟨i, e, p, f⟩ => q n vs H' xs k' i' d ⟨i, e, p, fun n2 s hs => by obtain ⟨y, e2, p2⟩ := f n2 s hs; exact ⟨_, e2, y, rfl, p2⟩⟩
theorem dI_kw {ι : Type} {arg : ι → List PyData} {pre : ι → Nat → Prop} {post : ι → Nat → Nat → Sl → Prop} {gV : List V → List V} (gD : List PyData → List PyData) (h : Da K W ρ ν tr fun ν1 xs => (∀ {H : Hp} {vs : List V}, Dds K H vs xs → Dds K H (gV vs) (gD xs)) ∧ ∃ i, gD xs = arg i ∧ pre i 0 ∧ ∀ ν2 s, post i 0 ν2 s → ∃ y, s = .d (.int y) ∧ k ν1 y) : DeI K W ρ ν (tKw (spD K Wn [] arg pre post) gV tr) k :=
  de_kw gD fun S B σ H Q st q => h S B σ H Q st fun n vs H' xs k' i' d ⟨hg, i, e, p, f⟩ => q n vs H' xs k' i' d ⟨hg, i, e, p, fun n2 s hs => by obtain ⟨y, e2, p2⟩ := f n2 s hs; exact ⟨_, e2, y, rfl, p2⟩⟩
end
/-! ## a def's length -/
theorem spD_len {ι : Type} {K : PySem.W.Frag} {W : Wd} {js : List V} {arg : ι → List PyData} {pre : ι → Nat → Prop} {post : ι → Nat → Nat → Sl → Prop} {n : Nat} {vs : List V} {H : Hp} {Q : VK} {E : XK} (h : spD K W js arg pre post vs H Q E) (hl : ∀ i, js.length + (arg i).length = n) : vs.length = n := by
  obtain ⟨i, ν, S, us, rfl, _, _, _, _, d, _⟩ := h
  rw [List.length_append, d.len]
  exact hl i
theorem fn_ds {ι : Type} {K : PySem.W.Frag} {W : Wd} {js : List V} {arg : ι → List PyData} {pre : ι → Nat → Prop} {post : ι → Nat → Nat → Sl → Prop} {N : List Str} {vs : List V} {H : Hp} {Q : VK} {E : XK} {t : TS} (ρ0 : ι → List Sl) (h : spD K W js arg pre post vs H Q E)
    (hρ : ∀ i, js.map .at ++ ((arg i).map .d ++ List.replicate (N.length - (js.length + (arg i).length)) .un) = ρ0 i)
    (hd : ∀ i ν, pre i ν → Ds K W (ρ0 i) ν t ⟨fun ν' _ => post i ν ν' (.d .none), fun ν' s => post i ν ν' s, fun _ _ => False, fun _ _ => False⟩) :
    t { nx := fun _ H' => Q .non H', rt := Q } (L2.start N vs) H := fn_run h fun i ν hp => by rw [hρ i]; exact hd i ν hp
/-! ## loops and comprehensions over things that are told -/
section
variable {K : PySem.W.Frag} {W : Wd} {ρ : List Sl} {ν : Nat} {Ψ : Nat → List PyData → Prop}
def LcK (K : PySem.W.Frag) (W : Wd) (ρ : List Sl) (ν : Nat) (vs : List Nat) (g : TG) (tt : TT) (te : TE) (Ψ : Nat → List PyData → Prop) (xs : List PyData) : Prop := ∃ Iv : Nat → Nat → List PyData → Prop, Iv 0 ν [] ∧ (∀ k x ν2 ys, xs[k]? = some x → Iv k ν2 ys → Dg K W (wipeR ρ vs) ν2 (· ∈ vs) g x fun ρ2 => Dt K W ρ2 ν2 tt fun ν3 b =>
      (b = true → De K W ρ2 ν3 te fun ν4 y => ys.length < sizeLine ∧ Iv (k + 1) ν4 (ys ++ [y])) ∧ (b = false → Iv (k + 1) ν3 ys)) ∧ ∀ ν2 ys, Iv xs.length ν2 ys → Ψ ν2 ys
theorem do_lck {wi : TI} {g : TG} {tt : TT} {te : TE} {vs : List Nat} (hv : (vs.all fun v => nOwn ρ v) = true) (h : Di K W ρ ν wi fun ν1 xs => LcK K W ρ ν1 vs g tt te Ψ xs) : Do K W ρ ν (tLc wi g tt te vs) Ψ := do_lc (fun v hm => List.all_eq_true.mp hv v hm) h
def ForK (K : PySem.W.Frag) (W : Wd) (ρ : List Sl) (ν : Nat) (g : TG) (tb : TS) (P : Po) (xs : List PyData) : Prop := ∃ Iv : Nat → Nat → List Sl → Prop, Iv 0 ν ρ ∧ (∀ k x ν2 ρ', xs[k]? = some x → Iv k ν2 ρ' → Dg K W ρ' ν2 (fun _ => True) g x fun ρ2 => Ds K W ρ2 ν2 tb ⟨Iv (k + 1), P.rt, P.nx, Iv (k + 1)⟩) ∧ ∀ ν2 ρ', Iv xs.length ν2 ρ' → P.nx ν2 ρ'
theorem ds_fork {wi : TI} {g : TG} {tb : TS} {P : Po} (h : Di K W ρ ν wi fun ν1 xs => ForK K W ρ ν1 g tb P xs) : Ds K W ρ ν (tFor wi g tb) P := ds_for h
theorem Dg.imp {P : Nat → Prop} {g : TG} {x : PyData} {Θ Θ' : List Sl → Prop} (h : Dg K W ρ ν P g x Θ) (i : ∀ r, Θ r → Θ' r) : Dg K W ρ ν P g x Θ' := fun S B σ H v Q st d q => h S B σ H v Q st d fun ρ' σ' st' eo e' hΘ => q ρ' σ' st' eo e' (i ρ' hΘ)
theorem dg_nm {i : Nat} {x : PyData} {Θ : List Sl → Prop} (n : nOwn ρ i = true) (h : Θ (ρ.set i (.d x))) : Dg K W ρ ν (fun _ => True) (gName i) x Θ := dg_name n trivial h
/-- one element a thing, some left out, nothing drawn -/
theorem lcF {α : Type} {g : TG} {tt : TT} {te : TE} {vs : List Nat} {xs : List PyData} (enc : α → PyData) (L : List α) (p : α → Bool) (f : α → PyData) (hl : L.length < sizeLine) (hx : xs = L.map enc)
    (hb : ∀ a ∈ L, Dg K W (wipeR ρ vs) ν (· ∈ vs) g (enc a) fun ρ2 => Dt K W ρ2 ν tt fun ν1 b => ν1 = ν ∧ b = p a ∧ (p a = true → De K W ρ2 ν te fun ν2 y => ν2 = ν ∧ y = f a))
    (h : Ψ ν ((L.filter p).map f)) : LcK K W ρ ν vs g tt te Ψ xs := by
  subst hx
  refine ⟨fun k ν' ys => ν' = ν ∧ ys = ((L.take k).filter p).map f, ⟨rfl, by simp⟩, fun k x ν2 ys hx hI => ?_, fun ν2 ys hI => ?_⟩
  · obtain ⟨e0, hI⟩ := hI
    subst e0
    rw [List.getElem?_map] at hx
    cases c : L[k]? with
    | none => rw [c] at hx; cases hx
    | some a =>
      rw [c] at hx
      cases hx
      have hm := List.mem_of_getElem? c
      have ys_len : ys.length < sizeLine := by
        rw [hI, List.length_map]
        have h1 := List.length_filter_le p (L.take k)
        have h2 : (L.take k).length ≤ L.length := by rw [List.length_take]; omega
        omega
      refine (hb a hm).imp fun ρ2 hD => Dt.imp hD fun ν1 b ⟨e1, eb, he⟩ => ?_
      subst e1
      refine ⟨fun hb' => ?_, fun hb' => ?_⟩
      · refine De.imp (he (by rw [← eb]; exact hb')) fun n y ⟨en, ey⟩ => ⟨ys_len, en, ?_⟩
        show ys ++ [y] = ((L.take (k + 1)).filter p).map f
        rw [take_snoc c, List.filter_append, List.map_append, ← hI, ey, List.filter_cons_of_pos (by rw [← eb]; exact hb')]
        rfl
      · refine ⟨rfl, ?_⟩
        show ys = ((L.take (k + 1)).filter p).map f
        rw [take_snoc c, List.filter_append, List.map_append, ← hI, List.filter_cons_of_neg (by rw [← eb, hb']; simp)]
        simp
  · obtain ⟨e0, hI⟩ := hI
    rw [List.length_map, List.take_of_length_le (Nat.le_refl _)] at hI
    rw [e0, hI]; exact h
theorem lcM {α : Type} {g : TG} {te : TE} {vs : List Nat} {xs : List PyData} (enc : α → PyData) (L : List α) (f : α → PyData) (hl : L.length < sizeLine) (hx : xs = L.map enc)
    (hb : ∀ a ∈ L, Dg K W (wipeR ρ vs) ν (· ∈ vs) g (enc a) fun ρ2 => De K W ρ2 ν te fun ν2 y => ν2 = ν ∧ y = f a)
    (h : Ψ ν (L.map f)) : LcK K W ρ ν vs g tYes te Ψ xs := by
  refine lcF enc L (fun _ => true) f hl hx (fun a ha => (hb a ha).imp fun ρ2 hD => dt_yes ⟨rfl, rfl, fun _ => hD⟩) ?_
  rw [List.filter_eq_self.mpr (fun _ _ => rfl)]; exact h
/-- .. with draws, at most c of them each -/
theorem lcP {α : Type} {g : TG} {te : TE} {vs : List Nat} {xs : List PyData} (enc : α → PyData) (L : List α) (Pr : α → PyData → Prop) (c : Nat) (hl : L.length < sizeLine) (hx : xs = L.map enc)
    (hb : ∀ a ∈ L, ∀ ν1, ν1 ≤ ν + c * L.length → Dg K W (wipeR ρ vs) ν1 (· ∈ vs) g (enc a) fun ρ2 => De K W ρ2 ν1 te fun ν2 y => ν2 ≤ ν1 + c ∧ Pr a y)
    (h : ∀ ν2 ys, ν2 ≤ ν + c * L.length → ys.length = L.length → (∀ (k : Nat) (a : α) (y : PyData), L[k]? = some a → ys[k]? = some y → Pr a y) → Ψ ν2 ys) : LcK K W ρ ν vs g tYes te Ψ xs := by
  subst hx
  refine ⟨fun k ν' ys => ν' ≤ ν + c * k ∧ ys.length = k ∧ ∀ (m : Nat) (a : α) (y : PyData), L[m]? = some a → ys[m]? = some y → Pr a y, ⟨Nat.le_refl _, rfl, fun m a y _ e => by simp at e⟩, fun k x ν2 ys hx hI => ?_, fun ν2 ys hI => ?_⟩
  · obtain ⟨n0, hI⟩ := hI
    rw [List.getElem?_map] at hx
    cases cc : L[k]? with
    | none => rw [cc] at hx; cases hx
    | some a =>
      rw [cc] at hx
      cases hx
      have hm := List.mem_of_getElem? cc
      have hk := lt_of_at cc
      have hle : c * k ≤ c * L.length := Nat.mul_le_mul_left _ (Nat.le_of_lt hk)
      refine (hb a hm ν2 (by omega)).imp fun ρ2 hD => dt_yes ⟨fun _ => De.imp hD fun n y ⟨pn, py⟩ => ⟨by omega, by rw [Nat.mul_add, Nat.mul_one]; omega, by simp [hI.1], fun m a' y' e1 e2 => ?_⟩, fun z => nomatch z⟩
      by_cases em : m < k
      · rw [List.getElem?_append_left (by omega)] at e2
        exact hI.2 m a' y' e1 e2
      · have hlt := lt_of_at e2
        rw [List.length_append, List.length_singleton, hI.1] at hlt
        have : m = k := by omega
        subst this
        rw [List.getElem?_append_right (by omega), hI.1, Nat.sub_self] at e2
        rw [cc] at e1
        cases e1
        cases e2
        exact py
  · rw [List.length_map] at hI
    exact h ν2 ys hI.1 hI.2.1 hI.2.2
/-- a loop over things, nothing said of numbers of draws but a bound -/
theorem forI {α : Type} {g : TG} {tb : TS} {P : Po} {xs : List PyData} (enc : α → PyData) (L : List α) (hx : xs = L.map enc) (c : Nat) (Iv : Nat → List Sl → Prop) (h0 : Iv 0 ρ)
    (hs : ∀ (k : Nat) (a : α) ν1 ρ', L[k]? = some a → ν1 ≤ ν + c * L.length → Iv k ρ' → Dg K W ρ' ν1 (fun _ => True) g (enc a) fun ρ2 => Ds K W ρ2 ν1 tb ⟨fun ν2 r => ν2 ≤ ν1 + c ∧ Iv (k + 1) r, P.rt, P.nx, fun ν2 r => ν2 ≤ ν1 + c ∧ Iv (k + 1) r⟩)
    (hd : ∀ ν2 ρ', ν2 ≤ ν + c * L.length → Iv L.length ρ' → P.nx ν2 ρ') : ForK K W ρ ν g tb P xs := by
  subst hx
  refine ⟨fun k ν' r => ν' ≤ ν + c * k ∧ Iv k r, ⟨Nat.le_refl _, h0⟩, fun k x ν2 ρ' hx hI => ?_, fun ν2 ρ' hI => ?_⟩
  · rw [List.getElem?_map] at hx
    cases cc : L[k]? with
    | none => rw [cc] at hx; cases hx
    | some a =>
      rw [cc] at hx
      cases hx
      have hk := lt_of_at cc
      have hle : c * k ≤ c * L.length := Nat.mul_le_mul_left _ (Nat.le_of_lt hk)
      refine (hs k a ν2 ρ' cc (by omega) hI.2).imp fun ρ2 hD => fun S B σ H D st e => hD S B σ H D st ⟨fun n r σ' H' st' ⟨h1, h2⟩ => e.nx n r σ' H' st' ⟨by rw [Nat.mul_add, Nat.mul_one]; omega, h2⟩, e.rt, e.bk, fun n r σ' H' st' ⟨h1, h2⟩ => e.ct n r σ' H' st' ⟨by rw [Nat.mul_add, Nat.mul_one]; omega, h2⟩⟩
  · rw [List.length_map] at hI
    exact hd ν2 ρ' hI.1 hI.2
theorem rngD_map (n : Nat) : rngD 0 n = (List.range n).map fun (i : Nat) => PyData.int (i : Int) := by
  unfold rngD
  refine List.map_congr_left fun i _ => ?_
  rw [Int.zero_add]
end
end Bd
namespace Bd
open PySem PySem.Spec PyProof.Rows L2 HT
/-! ### tapes, as data -/
abbrev Bead := Nat × Int
abbrev Lk := Int × Int × Int × Int
def beadD (b : Bead) : PyData := .tuple [.int b.1, .int b.2]
def lookD (l : Lk) : PyData := .tuple [.int l.1, .int l.2.1, .int l.2.2.1, .int l.2.2.2]
def intsD (ns : List Int) : PyData := .list (ns.map .int)
def tapeD (bs : List Bead) (ls : List Lk) : PyData := .tuple [.list (bs.map beadD), .list (ls.map lookD)]
theorem cutD_take (xs : List PyData) (m : Nat) : cutD xs none (some (m : Int)) = xs.take m := by
  unfold cutD HT.sIx
  have : (fun (a b : Nat) => (xs.drop a).take b) 0 (min m xs.length) = xs.take m := by
    simp only [List.drop_zero]
    by_cases h : m ≤ xs.length
    · rw [Nat.min_eq_left h]
    · rw [Nat.min_eq_right (by omega), List.take_of_length_le (Nat.le_refl _), List.take_of_length_le (by omega)]
  rw [← this]
  congr 1
  all_goals first | rfl | (simp only []; omega) | skip
theorem atD_ints {ns : List Int} {i : Nat} (h : i < ns.length) : atD (ns.map .int) (i : Int) = some (.int (ns.getD i 0)) := by
  refine atD_nat ?_
  rw [List.getElem?_map, List.getElem?_eq_getElem h, List.getD_eq_getElem?_getD, List.getElem?_eq_getElem h]
  rfl
theorem atD_map {α : Type} {f : α → PyData} {L : List α} {i : Nat} {a : α} (h : L[i]? = some a) : atD (L.map f) (i : Int) = some (f a) := by
  refine atD_nat ?_
  rw [List.getElem?_map, h]; rfl
/-- whether a bead is at a door of the room -/
def atDoor (ds : List (Nat × Nat)) (r : Nat) (b : Bead) : Bool := match ds[b.1]? with
  | some d => decide (r = d.1 ∨ r = d.2)
  | none => false
def hadMet (ds : List (Nat × Nat)) (B : List Int) (bs : List Bead) (r m : Nat) : Int := B.getD r 0 + (((bs.take m).filter (atDoor ds r)).length : Int)
def lookAt (r m : Nat) (l : Lk) : Bool := decide (l.1 = (m : Int)) && decide (l.2.1 = (r : Int))
structure Tp where
  rooms : Nat
  ds : List (Nat × Nat)
  B : List Int
  bs : List Bead
  ls : List Lk
  r : Nat
  m : Nat
structure Tp.Ok (t : Tp) : Prop where
  doors : Doors t.rooms t.ds
  lB : t.B.length = t.rooms
  beads : ∀ b ∈ t.bs, b.1 < t.ds.length
  hr : t.r < t.rooms
  lb : t.bs.length ≤ 10000
  ll : t.ls.length ≤ 10000
def Tp.arg (t : Tp) : List PyData := [houseD t.rooms t.ds, intsD t.B, tapeD t.bs t.ls, .int t.r, .int t.m]
end Bd
namespace Bd
open PySem PySem.Spec PyProof.Rows L2 HT
theorem door_in {ds : List (Nat × Nat)} {b : Bead} {d : Nat × Nat} (h : ds[b.1]? = some d) (r : Nat) : decide ((r : Int) ∈ [(d.1 : Int), (d.2 : Int)]) = atDoor ds r b := by
  unfold atDoor
  rw [h]
  simp only [List.mem_cons, List.not_mem_nil, or_false, Int.natCast_inj]
theorem small_take {α : Type} {xs : List α} {m : Nat} (h : xs.length ≤ 10000) : (xs.take m).length < sizeLine := by
  have h2 : (xs.take m).length ≤ xs.length := by rw [List.length_take]; omega
  unfold sizeLine; omega
theorem small_of {α : Type} {xs : List α} {n : Nat} (h : xs.length ≤ n) (hn : n ≤ 1000000) : xs.length < sizeLine := by
  unfold sizeLine; omega
def lookPair (l : Lk) : PyData := .tuple [.int l.2.2.1, .int l.2.2.2]
def looksAt (ls : List Lk) (r m : Nat) : List Lk := ls.filter (lookAt r m)
/-- the greatest of 0 and these -/
def top0 (ns : List Int) : Int := ns.foldl max 0
theorem top0_le : ∀ (ns : List Int) (a : Int), a ≤ ns.foldl max a ∧ ∀ x ∈ ns, x ≤ ns.foldl max a
  | [], a => ⟨Int.le_refl _, fun x h => by cases h⟩
  | n :: ns, a => by
    obtain ⟨h1, h2⟩ := top0_le ns (max a n)
    refine ⟨Int.le_trans (by omega) h1, fun x hx => ?_⟩
    rcases List.mem_cons.mp hx with rfl | hx
    · exact Int.le_trans (by omega) h1
    · exact h2 x hx
theorem top0_mem : ∀ (ns : List Int) (a : Int), ns.foldl max a = a ∨ ns.foldl max a ∈ ns
  | [], a => .inl rfl
  | n :: ns, a => by
    rcases top0_mem ns (max a n) with h | h
    · show ns.foldl max (max a n) = a ∨ _
      by_cases c : n ≤ a
      · left; rw [h]; omega
      · right; rw [List.foldl_cons, h]; exact List.mem_cons.mpr (.inl (by omega))
    · right; exact List.mem_cons_of_mem _ h
/-- a greatest of 0 :: ns is this one -/
theorem top0_is {ns : List Int} {m : Int} (h1 : m ∈ 0 :: ns) (h2 : ∀ y, y ∈ 0 :: ns → y ≤ m) : m = top0 ns := by
  have a := h2 0 List.mem_cons_self
  obtain ⟨b, c⟩ := top0_le ns 0
  unfold top0
  rcases top0_mem ns 0 with e | e
  · have : m ≤ ns.foldl max 0 := by
      rcases List.mem_cons.mp h1 with rfl | h
      · exact b
      · exact c m h
    omega
  · have d := h2 _ (List.mem_cons_of_mem _ e)
    have : m ≤ ns.foldl max 0 := by
      rcases List.mem_cons.mp h1 with rfl | h
      · exact b
      · exact c m h
    omega
def mostOut (ds : List (Nat × Nat)) (B : List Int) (bs : List Bead) (ls : List Lk) (r m : Nat) : Int :=
  if m = 0 then 0 else (hadMet ds B bs r m - top0 ((looksAt ls r m).map fun l => l.2.2.1)) / 2
def leastOut (ds : List (Nat × Nat)) (B : List Int) (bs : List Bead) (ls : List Lk) (r m : Nat) : Int :=
  if m = 0 then 0 else top0 ((looksAt ls r m).map fun l => (hadMet ds B bs r m - l.2.2.2 + 1) / 2)
structure Lt where
  bs : List Bead
  ls : List Lk
  r : Nat
  m : Nat
def Lt.arg (t : Lt) : List PyData := [tapeD t.bs t.ls, .int t.r, .int t.m]
theorem looksAt_small {ls : List Lk} {r m : Nat} (h : ls.length ≤ 10000) : (looksAt ls r m).length ≤ 10000 := Nat.le_trans (List.length_filter_le _ _) h
end Bd
namespace Bd
theorem sz_ {n : Nat} (h : n ≤ 1000) : n ≤ PySem.sizeLine := by unfold PySem.sizeLine; omega
theorem szL {n : Nat} (h : n ≤ 100000) : n < PySem.sizeLine := by unfold PySem.sizeLine; omega
end Bd
namespace Bd
theorem szd {n : Nat} (h : decide (n ≤ 1000) = true) : n ≤ PySem.sizeLine := sz_ (of_decide_eq_true h)
end Bd
namespace Bd
open PySem PySem.Spec PyProof.Rows L2 HT
section
variable {K : PySem.W.Frag} {W : Wd} {ρ : List Sl} {ν : Nat} {ta tb te : TE} {tr : TA} {P : Po} {t u : TS} {k : Nat → Int → Prop} {kl : Nat → List PyData → Prop}
theorem ds_par {i j : Nat} (ni : nOwn ρ i = true) (nj : ∀ x, nOwn (ρ.set i (.d x)) j = true) (h : De K W ρ ν ta fun ν1 x => De K W ρ ν1 tb fun ν2 y => P.nx ν2 ((ρ.set i (.d x)).set j (.d y))) : Ds K W ρ ν (tPar i j (tCons ta (tCons tb tNil))) P := fun S B σ H D st e => by
  refine h S B σ H _ st fun ν1 v H1 x k1 i1 d1 h1 => ?_
  have st1 := st.keep k1 i1
  refine h1 S B σ H1 _ st1 fun ν2 w H2 y k2 i2 d2 hP => ?_
  have st2 := (st1.keep k2 i2).setD ni (d1.same (st1.kpS k2))
  have eo : ownA (ρ.set i (.d x)) = ownA ρ := ownA_set ni rfl
  exact ⟨v, w, rfl, e.nx _ _ _ _ (st2.setD (nj x) (by rw [eo]; exact d2)) hP⟩
/-- both ways of a test go on alike -/
theorem ds_midS (h : Ds K W ρ ν t { P with nx := fun ν' ρ' => Ds K W ρ' ν' u P }) : Ds K W ρ ν (tMid t u) P := ds_mid h fun _ _ h => h
theorem dT_call0 {ι : Type} {arg : ι → List PyData} {pre : ι → Nat → Prop} {post : ι → Nat → Nat → Sl → Prop} (h : Da K W ρ ν tr fun ν1 xs => ∃ i, xs = arg i ∧ pre i 0 ∧ ∀ ν2 s, post i 0 ν2 s → ∃ y, s = .d (.tuple y) ∧ kl ν1 y) : DeT K W ρ ν (tCall (spD K Wn [] arg pre post) [] E0 tr) kl :=
  de_call0 fun S B σ H Q st q => h S B σ H Q st fun n vs H' xs k' i' d ⟨i, e, p, f⟩ => q n vs H' xs k' i' d ⟨i, e, p, fun n2 s hs => by obtain ⟨y, e2, p2⟩ := f n2 s hs; exact ⟨_, e2, y, rfl, p2⟩⟩
theorem de_catTT {Φ : Nat → PyData → Prop} (h : DeT K W ρ ν ta fun ν1 xs => DeT K W ρ ν1 tb fun ν2 ys => xs ≠ [] ∧ ys ≠ [] ∧ xs.length + ys.length ≤ sizeLine ∧ Φ ν2 (.tuple (xs ++ ys))) : De K W ρ ν (tOp (rCatT K) ta tb) Φ :=
  de_catT (De.imp h fun _ x ⟨xs, e, p⟩ => De.imp p fun _ y ⟨ys, e', a, b, c, d⟩ => ⟨xs, ys, e, e', a, b, c, d⟩)
theorem de_slTT {tl th : TO} {Φ : Nat → PyData → Prop} (h : DeT K W ρ ν te fun ν1 xs => Dp0 K W ρ ν1 tl fun ν2 lo => Dp0 K W ρ ν2 th fun ν3 hi => ¬ (HT.sIx xs.length 0 lo = 0 ∧ HT.sIx xs.length xs.length hi = xs.length) ∧ Φ ν3 (.tuple (cutD xs lo hi))) : De K W ρ ν (tSl (rSlT K) te tl th) Φ :=
  de_slT (De.imp h fun _ x ⟨xs, e, p⟩ => fun S B σ H Q st q => p S B σ H Q st fun n o H' k' i' p' => q n o H' k' i' fun S B σ H Q st q => p' S B σ H Q st fun n o H' k' i' ⟨a, b⟩ => q n o H' k' i' ⟨xs, e, a, b⟩)
theorem dT_slT {tl th : TO} (h : DeT K W ρ ν te fun ν1 xs => Dp0 K W ρ ν1 tl fun ν2 lo => Dp0 K W ρ ν2 th fun ν3 hi => ¬ (HT.sIx xs.length 0 lo = 0 ∧ HT.sIx xs.length xs.length hi = xs.length) ∧ kl ν3 (cutD xs lo hi)) : DeT K W ρ ν (tSl (rSlT K) te tl th) kl :=
  de_slTT (De.imp h fun _ x ⟨xs, e, p⟩ => ⟨xs, e, fun S B σ H Q st q => p S B σ H Q st fun n o H' k' i' p' => q n o H' k' i' fun S B σ H Q st q => p' S B σ H Q st fun n o H' k' i' ⟨a, b⟩ => q n o H' k' i' ⟨a, _, rfl, b⟩⟩)
theorem dT_catT (h : DeT K W ρ ν ta fun ν1 xs => DeT K W ρ ν1 tb fun ν2 ys => xs ≠ [] ∧ ys ≠ [] ∧ xs.length + ys.length ≤ sizeLine ∧ kl ν2 (xs ++ ys)) : DeT K W ρ ν (tOp (rCatT K) ta tb) kl :=
  de_catTT (De.imp h fun _ x ⟨xs, e, p⟩ => ⟨xs, e, De.imp p fun _ y ⟨ys, e', a, b, c, d⟩ => ⟨ys, e', a, b, c, _, rfl, d⟩⟩)
end
theorem eqv_nilL (xs : List PyData) : PyData.eqv (.list xs) (.list []) = decide (xs = []) := by
  cases xs with
  | nil => rfl
  | cons x xs => rfl
theorem at_of_lt {xs : List PyData} {r : Int} (h0 : 0 ≤ r) (h1 : r < xs.length) : ∃ d, atD xs r = some d ∧ d ∈ xs := by
  have h : r.toNat < xs.length := by omega
  refine ⟨xs[r.toNat], ?_, List.getElem_mem _⟩
  have := atD_nat (List.getElem?_eq_getElem h)
  rwa [Int.toNat_of_nonneg h0] at this
theorem at_lt {α : Type} {f : α → PyData} {L : List α} {r : Int} (h0 : 0 ≤ r) (h1 : r < L.length) : ∃ a, atD (L.map f) r = some (f a) ∧ L[r.toNat]? = some a := by
  have h : r.toNat < L.length := by omega
  refine ⟨L[r.toNat], ?_, List.getElem?_eq_getElem h⟩
  have := atD_map (f := f) (List.getElem?_eq_getElem h)
  rwa [Int.toNat_of_nonneg h0] at this
theorem set_all {α : Type} {p : α → Prop} {F : List α} {i : Nat} {v : α} (h : ∀ x ∈ F, p x) (hv : p v) : ∀ x ∈ F.set i v, p x := fun x hx => by
  rcases List.mem_or_eq_of_mem_set hx with q | q
  · exact h x q
  · rw [q]; exact hv
theorem ixN_int {n : Nat} {r : Int} (h0 : 0 ≤ r) (h1 : r < n) : ixN n r = some r.toNat := by
  have := ixN_nat (n := n) (j := r.toNat) (by omega)
  rwa [Int.toNat_of_nonneg h0] at this
end Bd
namespace Bd
open PySem PySem.Spec PyProof.Rows L2 HT
theorem ints_of {p : Int → Prop} : ∀ {ys : List PyData}, (∀ y ∈ ys, ∃ x : Int, y = .int x ∧ p x) → ∃ B : List Int, ys = B.map .int ∧ ∀ x ∈ B, p x
  | [], _ => ⟨[], rfl, fun x h => by cases h⟩
  | y :: ys, h => by
    obtain ⟨x, rfl, px⟩ := h y List.mem_cons_self
    obtain ⟨B, rfl, hB⟩ := ints_of fun y hy => h y (List.mem_cons_of_mem _ hy)
    refine ⟨x :: B, rfl, fun z hz => ?_⟩
    rcases List.mem_cons.mp hz with rfl | hz
    · exact px
    · exact hB z hz
theorem things_of {α : Type} {f : α → PyData} {p : α → Prop} : ∀ {ys : List PyData}, (∀ y ∈ ys, ∃ x : α, y = f x ∧ p x) → ∃ B : List α, ys = B.map f ∧ ∀ x ∈ B, p x
  | [], _ => ⟨[], rfl, fun x h => by cases h⟩
  | y :: ys, h => by
    obtain ⟨x, rfl, px⟩ := h y List.mem_cons_self
    obtain ⟨B, rfl, hB⟩ := things_of (f := f) fun y hy => h y (List.mem_cons_of_mem _ hy)
    refine ⟨x :: B, rfl, fun z hz => ?_⟩
    rcases List.mem_cons.mp hz with rfl | hz
    · exact px
    · exact hB z hz
end Bd
namespace Bd
open PySem PySem.Spec PyProof.Rows L2 HT
section
variable {K : PySem.W.Frag} {W : Wd} {S : List Addr} {B : Hp} {ρ : List Sl} {σ : L2.St} {H : Hp} {ν : Nat} {P : Po} {t : TS}
theorem Sta.forgets (st : Sta K W S B ρ σ H ν) : ∀ {vs : List Nat}, (∀ v ∈ vs, nOwn ρ v = true) → Sta K W S B (wipeR ρ vs) σ H ν
  | [], _ => st
  | v :: vs, h => (st.forgets (vs := vs) fun w hw => h w (List.mem_cons_of_mem _ hw)).same0 ((wipeR_own fun w hw => h w (List.mem_cons_of_mem _ hw)).2 v (h v List.mem_cons_self))
theorem ds_wipe (vs : List Nat) (hv : (vs.all fun v => nOwn ρ v) = true) (h : Ds K W (wipeR ρ vs) ν t P) : Ds K W ρ ν t P := fun S B σ H D st e => h S B σ H D (st.forgets fun v hm => List.all_eq_true.mp hv v hm) e
/-- a loop whose turns leave some slots forgotten -/
theorem forW {α : Type} {g : TG} {tb : TS} {xs : List PyData} (vs : List Nat) (enc : α → PyData) (L : List α) (hx : xs = L.map enc) (c : Nat) (Iv : Nat → List Sl → Prop) (hv : (vs.all fun v => nOwn ρ v) = true) (h0 : Iv 0 (wipeR ρ vs))
    (hs : ∀ (k : Nat) (a : α) ν1 r0, L[k]? = some a → ν1 ≤ ν + c * L.length → Iv k r0 → Dg K W r0 ν1 (fun _ => True) g (enc a) fun ρ2 => Ds K W ρ2 ν1 tb ⟨fun ν2 r => ν2 ≤ ν1 + c ∧ (vs.all fun v => nOwn r v) = true ∧ Iv (k + 1) (wipeR r vs), P.rt, P.nx, fun ν2 r => ν2 ≤ ν1 + c ∧ (vs.all fun v => nOwn r v) = true ∧ Iv (k + 1) (wipeR r vs)⟩)
    (hd : ∀ ν2 ρ', ν2 ≤ ν + c * L.length → (vs.all fun v => nOwn ρ' v) = true → Iv L.length (wipeR ρ' vs) → P.nx ν2 ρ') : ForK K W ρ ν g tb P xs := by
  refine forI enc L hx c (fun k r => (vs.all fun v => nOwn r v) = true ∧ Iv k (wipeR r vs)) ⟨hv, h0⟩ (fun k a ν1 ρ' ha hν hI => ?_) (fun ν2 ρ' hν hI => hd ν2 ρ' hν hI.1 hI.2)
  intro S B σ H v Q st d q
  have hvs : ∀ v ∈ vs, nOwn ρ' v = true := fun v hm => List.all_eq_true.mp hI.1 v hm
  have eo := (wipeR_own (ρ := ρ') hvs).1
  refine hs k a ν1 (wipeR ρ' vs) ha hν hI.2 S B σ H v Q (st.forgets hvs) (by rw [eo]; exact d) fun ρ2 σ2 st2 eo2 e2 h2 => q ρ2 σ2 st2 (eo2.trans eo) e2 h2
end
end Bd
namespace Bd
open PySem PySem.Spec PyProof.Rows L2 HT
section
variable {K : PySem.W.Frag} {W : Wd} {ρ : List Sl} {ν : Nat} {ta tb te : TE} {tr : TA} {kb : Nat → Bool → Prop} {k : Nat → Int → Prop} {Ψ : Nat → List PyData → Prop}
theorem dB_isi {n : String} (h : De K W ρ ν te fun ν1 x => ∃ b, PySem.W.kitOne K (.type (tyD x)) (.type n) = some b ∧ kb ν1 b) : DeB K W ρ ν (tCB (rIsi K) (tCons te (tCons (tC (.ty n)) tNil))) kb := de_isi (De.imp h fun _ x ⟨b, e, p⟩ => ⟨b, e, b, rfl, p⟩)
theorem dB_isiO {i : Nat} {a : Addr} {xs : List PyData} {n : String} (ho : ρ[i]? = some (.own a xs)) (h : ∃ b, PySem.W.kitOne K (.type "list") (.type n) = some b ∧ kb ν b) : DeB K W ρ ν (tCB (rIsi K) (tCons (tVar i) (tCons (tC (.ty n)) tNil))) kb :=
  de_peek i ho (de_isi (de_var (List.getElem?_set_self (lt_of_at ho)) (by obtain ⟨b, e, p⟩ := h; exact ⟨b, e, rfl, b, rfl, p⟩)))
theorem dI_maxO {i : Nat} {a : Addr} {ns : List Int} (ho : ρ[i]? = some (.own a (ns.map .int))) (h0 : 0 < ns.length) (h : ∀ m, m ∈ ns → (∀ y, y ∈ ns → y ≤ m) → k ν m) : DeI K W ρ ν (tCB (rMax K) (tCons (tVar i) tNil)) k :=
  de_peek i ho (de_maxL (de_var (List.getElem?_set_self (lt_of_at ho)) ⟨ns, rfl, h0, fun m h1 h2 => ⟨rfl, m, rfl, h m h1 h2⟩⟩))
theorem dI_minO {i : Nat} {a : Addr} {ns : List Int} (ho : ρ[i]? = some (.own a (ns.map .int))) (h0 : 0 < ns.length) (h : ∀ m, m ∈ ns → (∀ y, y ∈ ns → m ≤ y) → k ν m) : DeI K W ρ ν (tCB (rMin K) (tCons (tVar i) tNil)) k :=
  de_peek i ho (de_minL (de_var (List.getElem?_set_self (lt_of_at ho)) ⟨ns, rfl, h0, fun m h1 h2 => ⟨rfl, m, rfl, h m h1 h2⟩⟩))
end
theorem kit_self {K : PySem.W.Frag} (n : String) : PySem.W.kitOne K (.type n) (.type n) = some true := by
  unfold PySem.W.kitOne
  rw [if_pos (by simp)]
end Bd
namespace Bd
open PySem PySem.Spec PyProof.Rows L2 HT
theorem nats_of : ∀ {ys : List PyData} {M : Nat}, (∀ y ∈ ys, ∃ x : Int, y = .int x ∧ 0 ≤ x ∧ x ≤ M) → ∃ ms : List Nat, ys = (ms.map fun (m : Nat) => PyData.int (m : Int)) ∧ ∀ m ∈ ms, m ≤ M := fun {ys M} h => by
  refine things_of (f := fun (m : Nat) => PyData.int (m : Int)) (p := fun m => m ≤ M) fun y hy => ?_
  obtain ⟨x, rfl, h0, h1⟩ := h y hy
  exact ⟨x.toNat, by rw [Int.toNat_of_nonneg h0], by omega⟩
end Bd
namespace Bd
open PySem PySem.Spec PyProof.Rows L2 HT
theorem do_lstRgN {K : PySem.W.Frag} {W : Wd} {ρ : List Sl} {ν : Nat} {te : TE} {Ψ : Nat → List PyData → Prop} (h : DeI K W ρ ν te fun ν1 n => RgOk 0 n ∧ Ψ ν1 ((List.range n.toNat).map fun (i : Nat) => PyData.int (i : Int))) : Do K W ρ ν (tLstRg (tRg1 te)) Ψ := by
  have e : ∀ n : Int, rgV 0 n = ((List.range n.toNat).map fun (i : Nat) => (i : Int)).map V.int := fun n => by
    unfold rgV
    rw [List.map_map, Int.sub_zero]
    refine List.map_congr_left fun i _ => ?_
    show V.int (0 + (i : Int)) = V.int (i : Int)
    rw [Int.zero_add]
  refine do_lstRg1 (De.imp h fun _ x ⟨n, ex, a, b⟩ => ⟨n, ex, a, fun vs ev => ?_⟩) fun n => ⟨_, e n⟩
  rw [e n] at ev
  have inj : ∀ {as bs : List Int}, as.map V.int = bs.map V.int → as = bs := fun {as} => by
    induction as with
    | nil => intro bs h; cases bs with | nil => rfl | cons b bs => cases h
    | cons a as ih =>
      intro bs h
      cases bs with
      | nil => cases h
      | cons b bs =>
        rw [List.map_cons, List.map_cons] at h
        injection h with h1 h2
        injection h1 with h1
        rw [h1, ih h2]
  rw [← inj ev, List.map_map]
  exact b
end Bd
namespace Bd
open PySem PySem.Spec PyProof.Rows L2 HT
theorem rp_bits {i : Int} {k : Nat} (hk : 0 < k) (h9 : k ≤ 90) (h : i.natAbs < 2 ^ k) : Rp (.int i) 0 k := by
  have h90 : i.natAbs < 2 ^ 90 := Nat.lt_of_lt_of_le h (Nat.pow_le_pow_right (by decide) h9)
  have r := rp_int (i := i) (by omega) (by omega)
  refine ⟨r.lay, r.dep, r.sho, r.sml, ?_⟩
  have hl : i.natAbs.log2 < k := PySem.Flt.log2_lt_of hk h
  show (if i == 0 then 0 else i.natAbs.log2 + 1) ≤ k
  split <;> omega
theorem rp_hs {rooms : Nat} {ds : List (Nat × Nat)} (h : Doors rooms ds) (h1 : rooms ≤ 100) (h2 : ds.length ≤ 100) : Rp (houseD rooms ds) 3 4000 := by
  have hd : Rp (doorsD ds) 2 1800 := (rp_list (n := 1) (W := 16) fun x hx => by
    obtain ⟨p, hp, rfl⟩ := List.mem_map.mp hx
    obtain ⟨q1, q2, _⟩ := h p hp
    exact rp_tup (n := 0) (W := 7) (xs := [.int p.1, .int p.2]) fun y hy => by
      simp only [List.mem_cons, List.not_mem_nil, or_false] at hy
      rcases hy with rfl | rfl <;> exact rp_bits (by decide) (by decide) (by omega)).up (by decide) (by rw [List.length_map]; omega)
  exact (rp_tup (n := 2) (W := 1800) (xs := [.int rooms, doorsD ds]) fun x hx => by
    simp only [List.mem_cons, List.not_mem_nil, or_false] at hx
    rcases hx with rfl | rfl
    · exact (rp_bits (k := 7) (by decide) (by decide) (by omega)).up (by decide) (by decide)
    · exact hd).up (by decide) (by show 2 * (1800 + 1) ≤ 4000; decide)
theorem rp_nums {cs : List Int} {k m : Nat} (hk : 0 < k) (h9 : k ≤ 90) (h : ∀ x ∈ cs, x.natAbs < 2 ^ k) (h2 : cs.length ≤ m) : Rp (intsD cs) 1 (m * (k + 1)) :=
  (rp_list (n := 0) (W := k) (xs := cs.map .int) fun x hx => by
    obtain ⟨i, hi, rfl⟩ := List.mem_map.mp hx
    exact rp_bits hk h9 (h i hi)).up (by decide) (by rw [List.length_map]; exact Nat.mul_le_mul_right _ h2)
end Bd
namespace Bd
open PySem PySem.Spec PyProof.Rows L2 HT
theorem wipeR_at {ρ : List Sl} {i : Nat} : ∀ {vs : List Nat}, i ∉ vs → (wipeR ρ vs)[i]? = ρ[i]?
  | [], _ => rfl
  | v :: vs, h => by
    show ((wipeR ρ vs).set v .un)[i]? = _
    rw [List.getElem?_set_ne (fun z => h (by rw [z]; exact List.mem_cons_self))]
    exact wipeR_at fun z => h (List.mem_cons_of_mem _ z)
theorem nOwn_wipe {ρ : List Sl} {vs : List Nat} {i : Nat} (n : i ∉ vs) (h : nOwn (wipeR ρ vs) i = true) : nOwn ρ i = true := by
  unfold nOwn at h ⊢
  rw [wipeR_at n] at h
  exact h
/-- one slot more -/
theorem all_wipe {ρ : List Sl} {vs : List Nat} {i : Nat} (hv : (vs.all fun v => nOwn ρ v) = true) (n : i ∉ vs) (h : nOwn (wipeR ρ vs) i = true) : ((i :: vs).all fun v => nOwn ρ v) = true := by
  rw [List.all_cons, nOwn_wipe n h, hv]; rfl
end Bd
namespace Bd
open PySem PySem.Spec PyProof.Rows L2 HT
section
variable {K : PySem.W.Frag} {H : Hp}
theorem Dds.un {vs : List V} {x : PyData} {xs : List PyData} (h : Dds K H vs (x :: xs)) : ∃ v us, vs = v :: us ∧ Dd K H v x ∧ Dds K H us xs := by
  cases h with
  | cons h1 h2 => exact ⟨_, _, rfl, h1, h2⟩
theorem Dds.nl {vs : List V} (h : Dds K H vs []) : vs = [] := by cases h; rfl
theorem Dds.two {vs : List V} {a b : PyData} (h : Dds K H vs [a, b]) : ∃ v1 v2, vs = [v1, v2] ∧ Dd K H v1 a ∧ Dd K H v2 b := by
  obtain ⟨v1, _, rfl, h1, h⟩ := h.un
  obtain ⟨v2, _, rfl, h2, h⟩ := h.un
  cases h.nl
  exact ⟨_, _, rfl, h1, h2⟩
theorem Dds.three {vs : List V} {a b c : PyData} (h : Dds K H vs [a, b, c]) : ∃ v1 v2 v3, vs = [v1, v2, v3] ∧ Dd K H v1 a ∧ Dd K H v2 b ∧ Dd K H v3 c := by
  obtain ⟨v1, _, rfl, h1, h⟩ := h.un
  obtain ⟨v2, v3, rfl, h2, h3⟩ := h.two
  exact ⟨_, _, _, rfl, h1, h2, h3⟩
theorem Dds.four {vs : List V} {a b c d : PyData} (h : Dds K H vs [a, b, c, d]) : ∃ v1 v2 v3 v4, vs = [v1, v2, v3, v4] ∧ Dd K H v1 a ∧ Dd K H v2 b ∧ Dd K H v3 c ∧ Dd K H v4 d := by
  obtain ⟨v1, _, rfl, h1, h⟩ := h.un
  obtain ⟨v2, v3, v4, rfl, h2, h3, h4⟩ := h.three
  exact ⟨_, _, _, _, rfl, h1, h2, h3, h4⟩
theorem Dds.five {vs : List V} {a b c d e : PyData} (h : Dds K H vs [a, b, c, d, e]) : ∃ v1 v2 v3 v4 v5, vs = [v1, v2, v3, v4, v5] ∧ Dd K H v1 a ∧ Dd K H v2 b ∧ Dd K H v3 c ∧ Dd K H v4 d ∧ Dd K H v5 e := by
  obtain ⟨v1, _, rfl, h1, h⟩ := h.un
  obtain ⟨v2, v3, v4, v5, rfl, h2, h3, h4, h5⟩ := h.four
  exact ⟨_, _, _, _, _, rfl, h1, h2, h3, h4, h5⟩
end
end Bd
namespace Bd
open PySem PySem.Spec PyProof.Rows L2 HT
/-! ## a def that changes the list that is its second argument, and tells nothing -/
def spO1 {ι : Type} (K : PySem.W.Frag) (a1 : ι → PyData) (a2 : ι → List PyData) (xs : ι → List PyData) (pre : ι → Prop) (post : ι → List PyData → Prop) : Sp := fun vs H Q _ => ∃ (i : ι) (a : Addr) (S : List Addr) (v1 : V) (us ws : List V), vs = v1 :: .ref a :: us ∧ a ∉ S ∧ (∀ b ∈ S, ∃ o, H b = some o) ∧
  H a = some (.lst ws) ∧ Dds K (hid (a :: S) H) ws (xs i) ∧ Dd K (hid (a :: S) H) v1 (a1 i) ∧ Dds K (hid (a :: S) H) us (a2 i) ∧ pre i ∧
  ∀ H' ys ws', Kp [a] H H' → H' a = some (.lst ws') → Dds K (hid (a :: S) H') ws' ys → post i ys → Q .non H'
section
variable {ι : Type} {K : PySem.W.Frag} {a1 : ι → PyData} {a2 : ι → List PyData} {xs : ι → List PyData} {pre : ι → Prop} {post : ι → List PyData → Prop}
theorem spO1_len {n : Nat} {vs : List V} {H : Hp} {Q : VK} {E : XK} (h : spO1 K a1 a2 xs pre post vs H Q E) (hl : ∀ i, 2 + (a2 i).length = n) : vs.length = n := by
  obtain ⟨i, a, S, v1, us, ws, rfl, _, _, _, _, _, d, _⟩ := h
  rw [List.length_cons, List.length_cons, d.len, ← hl i]
  omega
theorem ownA_O1 (x : PyData) (a : Addr) (ys xs : List PyData) (n : Nat) : ownA (.d x :: .own a ys :: (xs.map .d ++ List.replicate n .un)) = [a] := by
  have h := ownA_start [] xs n
  show a :: ownA (xs.map .d ++ List.replicate n .un) = [a]
  rw [show ownA (xs.map .d ++ List.replicate n .un) = [] from h]
theorem fn_runO {N : List Str} {vs : List V} {H : Hp} {Q : VK} {E : XK} {t : TS} (h : spO1 K a1 a2 xs pre post vs H Q E)
    (hd : ∀ i a, pre i → Ds K Wn (.d (a1 i) :: .own a (xs i) :: ((a2 i).map .d ++ List.replicate (N.length - (2 + (a2 i).length)) .un)) 0 t ⟨fun _ r => ∃ ys, r[1]? = some (.own a ys) ∧ post i ys, fun _ _ => False, fun _ _ => False, fun _ _ => False⟩) :
    t { nx := fun _ H' => Q .non H', rt := Q } (L2.start N vs) H := by
  obtain ⟨i, a, S, v1, us, ws, rfl, oa, al, ha, dw, d1, d2, hp, q⟩ := h
  have hl := d2.len
  have e1 : L2.start N (v1 :: .ref a :: us) = some v1 :: some (.ref a) :: (us.map some ++ List.replicate (N.length - (2 + (a2 i).length)) none) := by
    unfold L2.start
    rw [List.length_cons, List.length_cons, hl, show (a2 i).length + 1 + 1 = 2 + (a2 i).length by omega]
    rfl
  rw [e1]
  have eo := ownA_O1 (a1 i) a (xs i) (a2 i) (N.length - (2 + (a2 i).length))
  have hS : ∀ b, b ∈ S ++ [a] ↔ b ∈ a :: S := fun b => by simp [or_comm]
  have eh : ∀ H, hid (S ++ [a]) H = hid (a :: S) H := fun H => hid_congr hS
  have tail := (AllSl.ds (H := H) d2).app (AllSl.un (K := K) (Hh := hid (a :: S) H) (H := H) (N.length - (2 + (a2 i).length)))
  have all : AllSl K (hid (a :: S) H) H (.d (a1 i) :: .own a (xs i) :: ((a2 i).map .d ++ List.replicate (N.length - (2 + (a2 i).length)) .un)) (some v1 :: some (.ref a) :: (us.map some ++ List.replicate (N.length - (2 + (a2 i).length)) none)) := by
    refine AllSl.app (ρ1 := [.d (a1 i), .own a (xs i)]) (σ1 := [some v1, some (.ref a)]) ⟨rfl, fun j s e => ?_⟩ tail
    cases j with
    | zero => cases e; exact ⟨_, rfl, v1, rfl, d1⟩
    | succ j =>
      cases j with
      | zero => cases e; exact ⟨_, rfl, rfl, ws, ha, dw⟩
      | succ j => simp at e
  refine hd i a hp S (hid [a] H) _ H _ ⟨all.1, fun j s e => ?_, fun j k b ys zs e1 e2 => ?_, fun b hb => ?_, fun b hb => (nomatch hb), ?_, trivial, fun b hb => ?_, fun _ _ h => (nomatch h)⟩ ⟨fun _ ρ σ H' st ⟨ys, ey, hy⟩ => ?_, fun _ _ _ _ _ h => h.elim, fun _ _ _ _ _ h => h.elim, fun _ _ _ _ _ h => h.elim⟩
  · rw [eo, eh]; exact all.2 j s e
  · have own1 : ∀ {m : Nat} {c : Addr} {qs : List PyData}, (Sl.d (a1 i) :: .own a (xs i) :: ((a2 i).map .d ++ List.replicate (N.length - (2 + (a2 i).length)) .un))[m]? = some (.own c qs) → m = 1 := fun {m c qs} e => by
      cases m with
      | zero => cases e
      | succ m =>
        cases m with
        | zero => rfl
        | succ m =>
          have : c ∈ ownA ((a2 i).map .d ++ List.replicate (N.length - (2 + (a2 i).length)) .un) := mem_ownA.mpr ⟨m, qs, by simpa using e⟩
          rw [show ownA ((a2 i).map .d ++ List.replicate (N.length - (2 + (a2 i).length)) .un) = [] from ownA_start [] (a2 i) _] at this
          cases this
    rw [own1 e1, own1 e2]
  · rw [eo, List.mem_singleton] at hb
    rw [hb]; exact oa
  · rw [eo]; exact fun _ _ h => h
  · obtain ⟨o, e⟩ := al b hb
    exact .inr ⟨o, hid_of e (by rw [List.mem_singleton]; rintro rfl; exact oa hb)⟩
  · obtain ⟨u, eu, e2, ws', e3, dy⟩ := st.sl 1 _ ey
    have ma : a ∈ ownA ρ := mem_ownA.mpr ⟨_, _, ey⟩
    refine q H' ys ws' (fun b o e => ?_) e3 (dy.same (hid_sub fun b hb => ?_)) hy
    · exact (hid_sub (S := [] ++ ownA ρ) (S' := [a]) (fun c hc => by rw [List.mem_singleton] at hc; rw [hc]; exact ma)) b o (st.fr b o e)
    · rcases List.mem_cons.mp hb with rfl | hb
      · exact List.mem_append_right _ ma
      · exact List.mem_append_left _ hb
theorem fn_dsO {N : List Str} {vs : List V} {H : Hp} {Q : VK} {E : XK} {t : TS} (ρ0 : ι → Addr → List Sl) (h : spO1 K a1 a2 xs pre post vs H Q E)
    (hρ : ∀ i a, .d (a1 i) :: .own a (xs i) :: ((a2 i).map .d ++ List.replicate (N.length - (2 + (a2 i).length)) .un) = ρ0 i a)
    (hd : ∀ i a, pre i → Ds K Wn (ρ0 i a) 0 t ⟨fun _ r => ∃ ys, r[1]? = some (.own a ys) ∧ post i ys, fun _ _ => False, fun _ _ => False, fun _ _ => False⟩) :
    t { nx := fun _ H' => Q .non H', rt := Q } (L2.start N vs) H := fn_runO h fun i a hp => by rw [hρ]; exact hd i a hp
variable {W : Wd} {ρ : List Sl} {ν : Nat} {ta : TE} {tr : TA} {P : Po}
theorem ds_callO {n : Nat} {a : Addr} {ys : List PyData} (ho : ρ[n]? = some (.own a ys)) (h : De K W ρ ν ta fun ν1 x => Da K W ρ ν1 tr fun ν2 zs => ∃ i, x = a1 i ∧ zs = a2 i ∧ ys = xs i ∧ pre i ∧ ∀ ys', post i ys' → P.nx ν2 (ρ.set n (.own a ys'))) :
    Ds K W ρ ν (tDrop (tCall (spO1 K a1 a2 xs pre post) [] E0 (tCons ta (tCons (tVar n) tr)))) P := fun S B σ H D st e => by
  refine h S B σ H _ st fun ν1 v1 H1 x k1 i1 d1 h1 => ?_
  have st1 := st.keep k1 i1
  obtain ⟨w, ew, e1, vs, e2, d⟩ := st1.sl n _ ho
  subst e1
  refine ⟨_, ew, h1 S B σ H1 _ st1 fun ν2 us H2 zs k2 i2 d2 ⟨i, ex, ez, ey, hp, hq⟩ => ?_⟩
  subst ex ez ey
  have st2 := st1.keep k2 i2
  rw [List.append_nil]
  have ma : a ∈ ownA ρ := mem_ownA.mpr ⟨_, _, ho⟩
  -- all that is hidden, but for the list itself
  let S' := (S ++ ownA ρ).filter (fun b => b ≠ a)
  have mS : ∀ b, b ∈ a :: S' ↔ b ∈ S ++ ownA ρ := fun b => by
    show b ∈ a :: (S ++ ownA ρ).filter _ ↔ _
    rw [List.mem_cons, List.mem_filter]
    constructor
    · rintro (rfl | ⟨h, _⟩)
      · exact List.mem_append_right _ ma
      · exact h
    · intro h
      by_cases e : b = a
      · exact .inl e
      · exact .inr ⟨h, by simpa using e⟩
  have eh : ∀ H, hid (a :: S') H = hid (S ++ ownA ρ) H := fun H => hid_congr mS
  refine ⟨i, a, S', v1, us, vs, rfl, ?_, fun b hb => st2.alive b ((mS b).mp (List.mem_cons_of_mem _ hb)), k2.at e2 (st.ownJ ma), ?_, ?_, ?_, hp, fun H' ys' ws' k3 e3 d3 hy => ?_⟩
  · show a ∉ (S ++ ownA ρ).filter _
    rw [List.mem_filter]
    rintro ⟨_, z⟩
    simp at z
  · rw [eh]; exact d.same (st1.kpS k2)
  · rw [eh]; exact d1.same (st1.kpS k2)
  · rw [eh]; exact d2
  · rw [eh] at d3
    -- the list is written, the rest stays
    have d4 : Dds K (hid (S ++ ownA ρ) H') ws' ys' := d3
    have sm : Same (upd H2 a (.lst ws')) H' := fun b o eb => by
      by_cases z : b = a
      · subst z
        rw [upd_same] at eb
        cases eb
        exact e3
      · rw [upd_ne z] at eb
        exact k3.at eb (by simpa using z)
    have hJ : ∀ b ∈ W.J, H' b = H2 b := fun b hb => by
      obtain ⟨o, eo⟩ := W.hJ st2.inv b hb
      rw [eo, k3.at eo (by rw [List.mem_singleton]; rintro rfl; exact st.ownJ ma hb)]
    have eo : ownA (ρ.set n (.own a ys')) = ownA ρ := ownA_setSame ho
    have fr : ∀ {T : List Addr}, Same (hid (T ++ ownA ρ) H2) (hid (T ++ ownA ρ) H') := fun {T} b o eb => by
      obtain ⟨q1, q2⟩ := of_hid eb
      exact hid_of (k3.at q1 (by rw [List.mem_singleton]; rintro rfl; exact q2 (List.mem_append_right _ ma))) q2
    refine e.nx ν2 (ρ.set n (.own a ys')) σ H' ⟨by rw [List.length_set]; exact st2.len, fun j r er => ?_, fun j k b zs ws e1 e2 => ?_, by rw [eo]; exact st2.out, st2.js, by rw [eo]; exact st2.fr.trans fr, W.hI hJ st2.inv, st2.al, st2.gb⟩ (hq ys' hy)
    · rw [eo]
      rcases get_set er with ⟨rfl, rfl⟩ | ⟨ne, er'⟩
      · obtain ⟨u, eu, e1, _⟩ := st2.sl n _ ho
        exact ⟨u, eu, e1, ws', e3, d4⟩
      · obtain ⟨u, eu, h'⟩ := st2.sl j r er'
        refine ⟨u, eu, ?_⟩
        cases r with
        | un => trivial
        | d x => obtain ⟨v, e1, dv⟩ := h'; exact ⟨v, e1, dv.same fr⟩
        | own b zs =>
          obtain ⟨e1, us', e2', dv⟩ := h'
          refine ⟨e1, us', k3.at e2' ?_, dv.same fr⟩
          rw [List.mem_singleton]
          rintro rfl
          exact ne (st2.nd n j b _ zs ho er')
        | «at» v => exact h'
    · have g : ∀ {m : Nat} {c : Addr} {qs : List PyData}, (ρ.set n (.own a ys'))[m]? = some (.own c qs) → ∃ qs', ρ[m]? = some (.own c qs') := fun {m c qs} e => by
        rcases get_set e with ⟨rfl, z⟩ | ⟨_, e⟩
        · cases z; exact ⟨_, ho⟩
        · exact ⟨qs, e⟩
      obtain ⟨_, g1⟩ := g e1
      obtain ⟨_, g2⟩ := g e2
      exact st2.nd j k b _ _ g1 g2
end
end Bd
namespace Bd
open PySem PySem.Spec PyProof.Rows L2 HT
theorem enumD_map {α : Type} (f : α → PyData) (L : List α) : enumD (L.map f) = L.zipIdx.map fun p => .tuple [.int (p.2 : Int), f p.1] := by
  apply List.ext_getElem?
  intro i
  rw [List.getElem?_map, List.getElem?_zipIdx]
  cases c : L[i]? with
  | none =>
    rw [List.getElem?_eq_none]
    · rfl
    · rw [enumD_len, List.length_map]
      exact List.getElem?_eq_none_iff.mp c
  | some a =>
    rw [enumD_at (x := f a) (by rw [List.getElem?_map, c]; rfl)]
    simp
theorem zipIdx_at {α : Type} {L : List α} {k : Nat} {p : α × Nat} (h : L.zipIdx[k]? = some p) : L[k]? = some p.1 ∧ p.2 = k := by
  rw [List.getElem?_zipIdx] at h
  cases c : L[k]? with
  | none => rw [c] at h; cases h
  | some a =>
    rw [c] at h
    have := Option.some.inj h
    subst this
    exact ⟨rfl, by simp⟩
theorem get_ints {F : List Int} {i : Nat} (h : i < F.length) : (F.map PyData.int)[i]? = some (.int (F.getD i 0)) := by
  rw [List.getElem?_map, List.getD_eq_getElem?_getD, List.getElem?_eq_getElem h]; rfl
theorem getD_some {F : List Int} {i : Nat} (h : i < F.length) : F[i]? = some (F.getD i 0) := by
  rw [List.getD_eq_getElem?_getD, List.getElem?_eq_getElem h]; rfl
theorem atD_int {F : List Int} {r : Int} (h0 : 0 ≤ r) (h1 : r < F.length) : atD (F.map .int) r = some (.int (F.getD r.toNat 0)) := by
  have := atD_ints (ns := F) (i := r.toNat) (by omega)
  rwa [Int.toNat_of_nonneg h0] at this
end Bd
namespace Bd
open PySem PySem.Spec PyProof.Rows L2 HT
theorem flat_rep0 (n : Nat) (c : Int) : (List.replicate n [PyData.int c]).flatten = (List.replicate n c).map .int := by
  induction n with
  | zero => rfl
  | succ n ih => rw [List.replicate_succ, List.flatten_cons, ih, List.replicate_succ]; rfl
end Bd
namespace Bd
open PySem PySem.Spec PyProof.Rows L2 HT
/-! ## a def that reads an own list of numbers (its second argument) and tells a new list -/
def spV1 {ι : Type} (K : PySem.W.Frag) (a1 : ι → PyData) (Fs : ι → List Int) (pre : ι → Prop) (post : ι → List PyData → Prop) : Sp := fun vs H Q _ => ∃ (i : ι) (a : Addr) (S : List Addr) (v1 : V), vs = [v1, .ref a] ∧ a ∉ S ∧ (∀ b ∈ S, ∃ o, H b = some o) ∧
  H a = some (.lst ((Fs i).map V.int)) ∧ Dd K (hid (a :: S) H) v1 (a1 i) ∧ pre i ∧
  ∀ H' p ws ys, Same H H' → H p = none → H' p = some (.lst ws) → Dds K (hid (p :: a :: S) H') ws ys → post i ys → Q (.ref p) H'
section
variable {ι : Type} {K : PySem.W.Frag} {a1 : ι → PyData} {Fs : ι → List Int} {pre : ι → Prop} {post : ι → List PyData → Prop}
theorem spV1_len {vs : List V} {H : Hp} {Q : VK} {E : XK} (h : spV1 K a1 Fs pre post vs H Q E) : vs.length = 2 := by
  obtain ⟨i, a, S, v1, rfl, _⟩ := h; rfl
/-- the world of a list that is only read -/
abbrev Wv (a : Addr) (F : List Int) : Wd := Wn.add a fun _ ns => ns = F
theorem fn_dsV {N : List Str} {vs : List V} {H : Hp} {Q : VK} {E : XK} {t : TS} (h : spV1 K a1 Fs pre post vs H Q E)
    (hd : ∀ i a, pre i → Ds K (Wv a (Fs i)) (.d (a1 i) :: .at (.ref a) :: List.replicate (N.length - 2) .un) 0 t ⟨fun _ _ => False, fun _ s => ∃ p ys, s = .own p ys ∧ post i ys, fun _ _ => False, fun _ _ => False⟩) :
    t { nx := fun _ H' => Q .non H', rt := Q } (L2.start N vs) H := by
  obtain ⟨i, a, S, v1, rfl, oa, al, ha, d1, hp, q⟩ := h
  have e1 : L2.start N [v1, .ref a] = some v1 :: some (.ref a) :: List.replicate (N.length - 2) none := rfl
  rw [e1]
  have eo : ownA (.d (a1 i) :: .at (.ref a) :: List.replicate (N.length - 2) .un) = [] := by
    show ownA (List.replicate (N.length - 2) .un) = []
    exact ownA_start [] [] (N.length - 2)
  have all : AllSl K (hid (a :: S) H) H (.d (a1 i) :: .at (.ref a) :: List.replicate (N.length - 2) .un) (some v1 :: some (.ref a) :: List.replicate (N.length - 2) none) := by
    refine AllSl.app (ρ1 := [.d (a1 i), .at (.ref a)]) (σ1 := [some v1, some (.ref a)]) ⟨rfl, fun j s e => ?_⟩ (AllSl.un _)
    cases j with
    | zero => cases e; exact ⟨_, rfl, v1, rfl, d1⟩
    | succ j =>
      cases j with
      | zero => cases e; exact ⟨_, rfl, rfl⟩
      | succ j => simp at e
  refine hd i a hp (a :: S) (hid [a] H) _ H _ ⟨all.1, fun j s e => ?_, fun j k b ys zs e1 e2 => ?_, fun b hb => ?_, fun b hb => ?_, ?_, ⟨trivial, Fs i, ha, rfl⟩, fun b hb => ?_, fun _ _ h => (nomatch h)⟩ ⟨fun _ _ _ _ _ h => h.elim, fun _ s v H' r ⟨p, ys, es, hy⟩ => ?_, fun _ _ _ _ _ h => h.elim, fun _ _ _ _ _ h => h.elim⟩
  · rw [eo, List.append_nil]; exact all.2 j s e
  · have := mem_ownA.mpr ⟨j, ys, e1⟩
    rw [eo] at this; cases this
  · rw [eo] at hb; cases hb
  · have : b ∈ [a] := hb
    rw [List.mem_singleton] at this
    rw [this]; exact List.mem_cons_self
  · rw [eo, List.append_nil]; exact fun _ _ h => h
  · rcases List.mem_cons.mp hb with rfl | hb'
    · exact .inl List.mem_cons_self
    · obtain ⟨o, e⟩ := al b hb'
      exact .inr ⟨o, hid_of e (by rw [List.mem_singleton]; rintro rfl; exact oa hb')⟩
  · subst es
    obtain ⟨r1, r2, rfl, r4, r5, ws, r6, r7⟩ := r
    obtain ⟨_, ns, e2, en⟩ := r2
    subst en
    have sm : Same H H' := fun b o eb => by
      by_cases z : b = a
      · subst z; rw [ha] at eb; cases eb; exact e2
      · exact (of_hid (r1 b o (hid_of eb (by simpa using z)))).1
    have np : H p = none := by
      cases c : H p with
      | none => rfl
      | some o => rw [hid_of c (by rw [List.mem_singleton]; rintro rfl; exact r4 List.mem_cons_self)] at r5; cases r5
    exact q H' p ws ys sm np r6 r7 hy
variable {W : Wd} {ρ : List Sl} {ν : Nat} {ta tb : TE} {Ψ : Nat → List PyData → Prop} {k : Nat → Int → Prop}
theorem do_callV {n : Nat} {a : Addr} {F : List Int} (ho : ρ[n]? = some (.own a (F.map .int))) (h : De K W ρ ν ta fun ν1 x => ∃ i, x = a1 i ∧ F = Fs i ∧ pre i ∧ ∀ ys, post i ys → Ψ ν1 ys) :
    Do K W ρ ν (tCall (spV1 K a1 Fs pre post) [] E0 (tCons ta (tCons (tVar n) tNil))) Ψ := fun S B σ H Q st q => by
  refine h S B σ H _ st fun ν1 v1 H1 x k1 i1 d1 ⟨i, ex, ef, hp, hq⟩ => ?_
  subst ex ef
  have st1 := st.keep k1 i1
  obtain ⟨w, ew, e1, vs, e2, d⟩ := st1.sl n _ ho
  subst e1
  have ev := d.ints_eq
  subst ev
  refine ⟨_, ew, ?_⟩
  have ma : a ∈ ownA ρ := mem_ownA.mpr ⟨_, _, ho⟩
  let S' := (S ++ ownA ρ).filter (fun b => b ≠ a)
  have mS : ∀ b, b ∈ a :: S' ↔ b ∈ S ++ ownA ρ := fun b => by
    show b ∈ a :: (S ++ ownA ρ).filter _ ↔ _
    rw [List.mem_cons, List.mem_filter]
    constructor
    · rintro (rfl | ⟨h, _⟩)
      · exact List.mem_append_right _ ma
      · exact h
    · intro h
      by_cases e : b = a
      · exact .inl e
      · exact .inr ⟨h, by simpa using e⟩
  have eh : ∀ H, hid (a :: S') H = hid (S ++ ownA ρ) H := fun H => hid_congr mS
  have eh2 : ∀ p H, hid (p :: a :: S') H = hid (p :: (S ++ ownA ρ)) H := fun p H => hid_congr fun b => by
    rw [List.mem_cons, List.mem_cons (l := S ++ ownA ρ), mS]
  refine ⟨i, a, S', v1, rfl, ?_, fun b hb => st1.alive b ((mS b).mp (List.mem_cons_of_mem _ hb)), e2, by rw [eh]; exact d1, hp, fun H' p ws ys sm np ep dy hy => ?_⟩
  · show a ∉ (S ++ ownA ρ).filter _
    rw [List.mem_filter]
    rintro ⟨_, z⟩
    simp at z
  · rw [eh2] at dy
    have f := st1.fresh np
    exact q ν1 p H' ws ys (k1.trans (Kp.same sm)) (W.hI (fun b hb => by obtain ⟨o, eo⟩ := W.hJ st1.inv b hb; rw [eo, sm _ _ eo]) st1.inv) (k1.none f.2.2 np) ep dy (hq ys hy)
/-- an item of the list that is read -/
theorem dI_ixV {n : Nat} {a : Addr} {F : List Int} (hj : ρ[n]? = some (.at (.ref a))) (h : DeI K (Wv a F) ρ ν tb fun ν1 i => ∃ c, atI (F.map V.int) i = some (.int c) ∧ k ν1 c) : DeI K (Wv a F) ρ ν (tOp (rIxL K) (tVar n) tb) k := fun S B σ H Q st q => by
  obtain ⟨u, eu, e1⟩ := st.sl n _ hj
  subst e1
  refine ⟨_, eu, h S B σ H _ st fun ν1 v H1 x k1 i1 d1 ⟨i, ex, c, ec, hk⟩ => ?_⟩
  subst ex; cases d1
  have i1' : True ∧ ∃ ns : List Int, H1 a = some (.lst (ns.map V.int)) ∧ ns = F := i1
  obtain ⟨_, ns, e2, rfl⟩ := i1'
  exact ⟨a, _, i, _, rfl, rfl, .inl (.inl e2), ec, q ν1 _ H1 _ k1 i1 (.int _) ⟨c, rfl, hk⟩⟩
end
section
variable {K : PySem.W.Frag} {W : Wd} {ρ : List Sl} {ν : Nat} {ta tb : TE} {kb : Nat → Bool → Prop}
theorem dB_neO {n : Nat} {a : Addr} {xs : List PyData} (ho : ρ[n]? = some (.own a xs)) (hs : SeqAt.shaped (.list xs) = true) (h : kb ν (!decide (xs = []))) : DeB K W ρ ν (tOp (rNeD K) (tVar n) (tLst tNil)) kb :=
  de_peek n ho (de_neD (de_var (List.getElem?_set_self (lt_of_at ho)) (Do.de (do_lst (da_nil ⟨szd rfl, hs, rfl, rfl, _, rfl, by rw [eqv_nilL]; exact h⟩)))))
theorem atI_ints {F : List Int} {i : Nat} (h : i < F.length) : atI (F.map V.int) (i : Int) = some (.int (F.getD i 0)) := by
  refine atI_nat ?_
  rw [List.getElem?_map, List.getD_eq_getElem?_getD, List.getElem?_eq_getElem h]; rfl
end
end Bd
namespace Bd
open PySem PySem.Spec PyProof.Rows L2 HT
/-- a slice of things is some of them -/
theorem cutD_some {α : Type} (f : α → PyData) (L : List α) (lo hi : Option Int) : ∃ L' : List α, cutD (L.map f) lo hi = L'.map f ∧ L'.length ≤ L.length := by
  refine ⟨(L.drop (HT.sIx (L.map f).length 0 lo)).take (HT.sIx (L.map f).length (L.map f).length hi - HT.sIx (L.map f).length 0 lo), ?_, ?_⟩
  · unfold cutD
    rw [List.map_take, List.map_drop]
  · rw [List.length_take, List.length_drop]; omega
theorem shp_mapL {α : Type} {f : α → PyData} {n : Nat} (L : List α) (h : ∀ a, Shp n (f a)) : Shp (n + 1) (.list (L.map f)) := shp_list fun x hx => by
  obtain ⟨a, _, rfl⟩ := List.mem_map.mp hx
  exact h a
theorem shp_pr {a b : Int} : Shp 1 (.tuple [.int a, .int b]) := shp_tup fun x hx => by
  simp only [List.mem_cons, List.not_mem_nil, or_false] at hx
  rcases hx with rfl | rfl <;> exact shp_int _
end Bd
namespace Bd
open PySem PySem.Spec PyProof.Rows L2 HT
/-- these are things, so many at most -/
def Tg {α : Type} (f : α → PyData) (xs : List PyData) (n : Nat) : Prop := ∃ L : List α, xs = L.map f ∧ L.length ≤ n
section
variable {α : Type} {f : α → PyData} {xs ys : List PyData} {n m : Nat}
theorem Tg.app (h : Tg f xs n) (g : Tg f ys m) : Tg f (xs ++ ys) (n + m) := by
  obtain ⟨A, rfl, ha⟩ := h
  obtain ⟨B, rfl, hb⟩ := g
  exact ⟨A ++ B, by rw [List.map_append], by rw [List.length_append]; omega⟩
theorem Tg.cut (L : List α) (lo hi : Option Int) : Tg f (cutD (L.map f) lo hi) L.length := cutD_some f L lo hi
theorem Tg.of (L : List α) : Tg f (L.map f) L.length := ⟨L, rfl, Nat.le_refl _⟩
theorem Tg.len (h : Tg f xs n) : xs.length ≤ n := by obtain ⟨A, rfl, ha⟩ := h; rw [List.length_map]; exact ha
theorem Tg.two (h : Tg f xs n) (g : Tg f ys m) (hn : n + m ≤ 1000000) : xs.length + ys.length ≤ PySem.sizeLine := by
  have := h.len; have := g.len; unfold PySem.sizeLine; omega
theorem Tg.up (h : Tg f xs n) (hm : n ≤ m) : Tg f xs m := by obtain ⟨A, e, ha⟩ := h; exact ⟨A, e, Nat.le_trans ha hm⟩
end
end Bd
namespace Bd
open PySem PySem.Spec PyProof.Rows L2 HT
def isNoD : PyData → Bool
  | .none => true
  | _ => false
section
variable {K : PySem.W.Frag} {W : Wd} {ρ : List Sl} {ν : Nat} {te : TE} {k : Nat → Int → Prop} {Ψ : Nat → List PyData → Prop}
theorem dI_lenKL (h : DeL K W ρ ν te fun ν1 xs => k ν1 (xs.length : Int)) : DeI K W ρ ν (tCB (rLenK K) (tCons te tNil)) k := dI_lenL h
theorem dI_lenKT (h : DeT K W ρ ν te fun ν1 xs => k ν1 (xs.length : Int)) : DeI K W ρ ν (tCB (rLenK K) (tCons te tNil)) k := dI_lenT h
theorem dI_lenKO {i : Nat} {a : Addr} {xs : List PyData} (ho : ρ[i]? = some (.own a xs)) (h : k ν (xs.length : Int)) : DeI K W ρ ν (tCB (rLenK K) (tCons (tVar i) tNil)) k := dI_lenO ho h
theorem do_listK (h : De K W ρ ν te fun ν1 x => ∃ xs, (x = .list xs ∨ x = .tuple xs) ∧ Ψ ν1 xs) : Do K W ρ ν (tCB (rListK K) (tCons te tNil)) Ψ := do_list h
theorem isN_eq {H : Hp} {v : V} {x : PyData} (d : Dd K H v x) : decide (v = V.non) = isNoD x := by
  cases d <;> first | rfl | (exact decide_eq_false (fun z => nomatch z)) | (exact decide_eq_true rfl)
theorem de_isN {Φ : Nat → PyData → Prop} (h : De K W ρ ν te fun ν1 x => Φ ν1 (.bool (isNoD x))) : De K W ρ ν (tOp (fun x y H Q => y = .non ∧ Q (.bl (decide (x = .non))) H) te (tC .non)) Φ := fun S B σ H Q st q => by
  refine h S B σ H _ st fun ν1 v H1 x k1 i1 d1 hΦ => ⟨rfl, ?_⟩
  rw [isN_eq d1]
  exact q ν1 _ H1 _ k1 i1 (.bl _) hΦ
theorem dB_notN {kb : Nat → Bool → Prop} (h : De K W ρ ν te fun ν1 x => kb ν1 (!isNoD x)) : DeB K W ρ ν (tOp (fun x y H Q => y = .non ∧ Q (.bl (!decide (x = .non))) H) te (tC .non)) kb := fun S B σ H Q st q => by
  refine h S B σ H _ st fun ν1 v H1 x k1 i1 d1 hΦ => ⟨rfl, ?_⟩
  rw [isN_eq d1]
  exact q ν1 _ H1 _ k1 i1 (.bl _) ⟨_, rfl, hΦ⟩
end
end Bd
namespace Bd
open PySem PySem.Spec PyProof.Rows L2 HT
section
variable {K : PySem.W.Frag} {W : Wd} {ρ : List Sl} {ν : Nat} {te : TE} {Φ : Nat → PyData → Prop} {Ψ : Nat → List PyData → Prop}
theorem do_listL (h : DeL K W ρ ν te Ψ) : Do K W ρ ν (tCB (fun xs H Q => ∃ p ys, xs = [.ref p] ∧ (SqL K H p ys ∨ SqT K H p ys) ∧ ∀ l, H l = none → Q (.ref l) (upd H l (.lst ys))) (tCons te tNil)) Ψ := do_list (De.imp h fun _ x ⟨xs, e, p⟩ => ⟨xs, .inl e, p⟩)
theorem de_listL (h : DeL K W ρ ν te fun ν1 xs => Φ ν1 (.list xs)) : De K W ρ ν (tCB (fun xs H Q => ∃ p ys, xs = [.ref p] ∧ (SqL K H p ys ∨ SqT K H p ys) ∧ ∀ l, H l = none → Q (.ref l) (upd H l (.lst ys))) (tCons te tNil)) Φ := Do.de (do_listL h)
end
end Bd
namespace Bd
open PySem PySem.Spec PyProof.Rows L2 HT
/-- a loop whose turns leave some slots forgotten; draws are not counted -/
theorem forN {K : PySem.W.Frag} {W : Wd} {ρ : List Sl} {ν : Nat} {P : Po} {α : Type} {g : TG} {tb : TS} {xs : List PyData} (vs : List Nat) (enc : α → PyData) (L : List α) (hx : xs = L.map enc) (Iv : Nat → List Sl → Prop) (hv : (vs.all fun v => nOwn ρ v) = true) (h0 : Iv 0 (wipeR ρ vs))
    (hs : ∀ (k : Nat) (a : α) ν1 r0, L[k]? = some a → Iv k r0 → Dg K W r0 ν1 (fun _ => True) g (enc a) fun ρ2 => Ds K W ρ2 ν1 tb ⟨fun _ r => (vs.all fun v => nOwn r v) = true ∧ Iv (k + 1) (wipeR r vs), P.rt, P.nx, fun _ r => (vs.all fun v => nOwn r v) = true ∧ Iv (k + 1) (wipeR r vs)⟩)
    (hd : ∀ ν2 ρ', (vs.all fun v => nOwn ρ' v) = true → Iv L.length (wipeR ρ' vs) → P.nx ν2 ρ') : ForK K W ρ ν g tb P xs := by
  subst hx
  refine ⟨fun k _ r => (vs.all fun v => nOwn r v) = true ∧ Iv k (wipeR r vs), ⟨hv, h0⟩, fun k x ν2 ρ' hx hI => ?_, fun ν2 ρ' hI => ?_⟩
  · rw [List.getElem?_map] at hx
    cases cc : L[k]? with
    | none => rw [cc] at hx; cases hx
    | some a =>
      rw [cc] at hx
      cases hx
      intro S B σ H v Q st d q
      have hvs : ∀ v ∈ vs, nOwn ρ' v = true := fun v hm => List.all_eq_true.mp hI.1 v hm
      have eo := (wipeR_own (ρ := ρ') hvs).1
      refine hs k a ν2 (wipeR ρ' vs) cc hI.2 S B σ H v Q (st.forgets hvs) (by rw [eo]; exact d) fun ρ2 σ2 st2 eo2 e2 h2 => q ρ2 σ2 st2 (eo2.trans eo) e2 h2
  · rw [List.length_map] at hI
    exact hd ν2 ρ' hI.1 hI.2
end Bd
set_option maxHeartbeats 3200000
namespace Bd
open PySem PySem.Spec PyProof.Rows L2
section
variable {P : Program} {w : World} {A : Around} {E : Value → Shared → Prop} {s : Shared}
/-- a set as it is made -/
abbrev bare (w : World) : Obj := { cls := .type "set", dict := none, data := .set #[] 0 (.fresh 0 0 (!w.params.followText "set-order")) }
theorem call_set_ints {l : Addr} {its : Array Value} (ns : List Int) {Q : Value → Shared → Prop} (hh : A.handled = none) (hl : s.heap.IsList l its) (hit : IntsAre its.toList ns) (hb : ns.length + 1 < scanBound)
    (h : ∀ (h' : Heap) (tk c : Nat), SetR w h' s.heap.objs.size (fun j => decide (j ∈ ns)) c → c ≤ ns.length → (∀ b o, s.heap.get? b = some o → h'.get? b = some o) → Q (.ref s.heap.objs.size) { s with heap := h', toks := tk }) :
    wpAny (model P w) A (call (.type "set") [.ref l]) Q E s := by
  have size : its.size = ns.length := (Array.length_toList (xs := its)).symm.trans (IntsAre.length hit)
  obtain ⟨c, tl, mro⟩ := F.called_set.mro
  have f1 := F.called_set.made; have f2 := F.called_set.sub; have f3 := F.called_set.notType; have f4 := F.called_set.canCreate; have f5 := F.typeCall_set_1 (.ref l)
  refine wpAny_call (codeAny_of_tree (show wpAny _ _ (callAny (.type "set") _) _ _ _ from wpAny_pure ⟨Code.quiet_builtin _ (by decide +kernel), codeAny_builtin F.entry_type_call ?_⟩))
  rw [Around.under_plain (weight_type_call_type "set" [.ref l] []) rfl]; repeat (any_goals (first | assumption | wp_step))
  refine codeAny_mono (code_set_led1 (.ref l) (E := E) (Q₁ := fun obj z => obj = .ref s.heap.objs.size ∧ z = { s with heap := s.heap.push (bare w) }) ⟨rfl, rfl⟩) fun r z hr => ?_
  match r, hr with
  | .error e, hr => exact hr
  | .ok .next, hr => exact hr.elim
  | .ok .brk, hr => exact hr.elim
  | .ok .cont, hr => exact hr.elim
  | .ok (.ret obj), hr =>
    obtain ⟨rfl, rfl⟩ := hr
    have g0 : (s.heap.push (bare w)).get? s.heap.objs.size = some (bare w) := Heap.get?_push_size _ rfl
    have g1 : Shared.TypeIs { s with heap := s.heap.push (bare w) } (.ref s.heap.objs.size) "set" := ⟨_, g0, rfl⟩
    have g2 := F.called_set.init.lookup; have g3 := F.called_set.init.bind (.ref s.heap.objs.size)
    repeat (any_goals (first | assumption | wp_step))
    refine codeAny_mono (codeAny_call_builtin (R := wants (fun r z => r = .none ∧ ∃ h' tk c, z = { s with heap := h', toks := tk } ∧ SetR w h' s.heap.objs.size (fun j => decide (j ∈ ns)) c ∧ c ≤ ns.length ∧ (∀ b o, s.heap.get? b = some o → h'.get? b = some o)) E)
      F.called_set.init.plain F.entry_set_init (check_set_init_1 g1 ?_)) fun r2 z2 hr2 => ?_
    · obtain ⟨⟨ocls, odict, odata, oslots⟩, hol, hcl, nl, hdl⟩ := hl
      simp only at hcl hdl; subst hcl; subst hdl
      have q0 : (s.heap.push (bare w)).get? l = some { cls := .type "list", dict := odict, data := .seq its nl, slots := oslots } := Heap.get?_push_of_some _ hol
      have q1 := F.sub_list_set; have q2 := F.sub_list_frozenset
      have q3 : (Value.type "list" == Value.type "dict") = false := by decide
      have q4 : (s.heap.push (bare w)).IsList l its := ⟨_, q0, rfl, nl, rfl⟩
      unfold Builtin.«set.__init__» noKeywords Builtin.Frozenset.updateFrom; generalize hPI : pyIter = PI; wp_walk; subst hPI
      refine wpAny_pyIter_list q4 (wpAny_bind (wpAny_runValue ?_))
      have lS : l < s.heap.objs.size := Heap.lt_size hol
      have calm : A.in1.in1.in1.handled = none := by simp [hh]
      have sz : (s.heap.push (bare w)).objs.size = s.heap.objs.size + 1 := Heap.size_push ..
      have ne : l ≠ (s.heap.push (bare w)).objs.size := by rw [sz]; exact Nat.ne_of_lt (Nat.lt_succ_of_lt lS)
      have out : s.heap.objs.size ∉ [(s.heap.push (bare w)).objs.size, l] := by
        rw [sz]
        intro z
        rcases List.mem_cons.mp z with z | z
        · omega
        · exact absurd (List.mem_singleton.mp z) (Nat.ne_of_gt lS)
      have val : ∀ (i : Nat) (v : Value), its[i]? = some v → ∃ k t, ns[i]? = some k ∧ v = .int k t := by
        intro i v hv
        have hi : i < ns.length := by rw [← size]; exact (Array.getElem?_eq_some_iff.mp hv).1
        obtain ⟨t, e⟩ := PyProof.Rows.IntsAre.int_at hit i v (by rw [Array.getElem?_toList]; exact hv)
        exact ⟨ns[i], t, List.getElem?_eq_getElem hi, by rw [e, List.getD_eq_getElem?_getD, List.getElem?_eq_getElem hi]; rfl⟩
      refine set_update_ints ((Walks.list calm _ l ne its).toS) s.heap.objs.size out ns size hb val (its.size - 0) 0 _ (by omega) (Nat.zero_le _) ⟨⟨_, Heap.get?_push_size _ rfl, rfl, rfl⟩, (q4.push _)⟩ ⟨0, Nat.le_refl 0, setR_new_at (Heap.get?_push_of_some _ g0)⟩ ?_
      rintro ⟨h', g', d', tk', os'⟩ c' hm hc' hS'
      have eg : g' = s.gens := hm.gens; have ed : d' = s.drawn := hm.drawn; have eo : os' = s.os := hm.os
      subst eg; subst ed; subst eo
      show wpAny _ _ _ _ _ _
      refine wpAny_pure (show wpAny _ _ (ret Value.none) _ _ _ from wpAny_pure ⟨rfl, h', tk', c', rfl, hS', by omega, fun b o e => ?_⟩)
      have b0 : b < s.heap.objs.size := Heap.lt_size e
      refine hm.heap b o (fun z => ?_) (Heap.get?_push_of_some _ (Heap.get?_push_of_some _ e))
      rcases List.mem_cons.mp z with z | z
      · exact absurd z (Nat.ne_of_lt b0)
      · exact absurd ((List.mem_singleton.mp z).trans sz) (Nat.ne_of_lt (Nat.lt_succ_of_lt b0))
    · match r2, hr2 with
      | .error e, h2 => exact h2
      | .ok .next, h2 => exact h2.elim
      | .ok .brk, h2 => exact h2.elim
      | .ok .cont, h2 => exact h2.elim
      | .ok (.ret _), h2 =>
        obtain ⟨rfl, h', tk, c', rfl, hS', hc', hk'⟩ := h2
        repeat (any_goals (first | assumption | wp_step))
        exact h _ _ _ hS' hc' hk'
end
section
variable {X : Cx}
/-- set(xs), a list of ints -/
def rSetOfL (K : PySem.W.Frag) (w : World) : List V → Hp → VK → Prop := fun as H Q => ∃ (l : Addr) (ns : List Int), as = [.ref l] ∧ SqL K H l (ns.map V.int) ∧ ns.length ≤ 1000 ∧
  ∀ p c, H p = none → c ≤ ns.length → Q (.ref p) (upd H p (SetO w p (fun j => decide (j ∈ ns)) c))
theorem call_setL (hc : X.calm = true) : CallR X (.type "set") (rSetOfL X.K X.w) := by
  intro pins s σ H as us Q I r h
  obtain ⟨l, ns, rfl, hq, hn, q⟩ := h
  obtain ⟨u, rfl, rx⟩ := vals1 r
  cases (show u = Value.ref l from rx)
  obtain ⟨its, rv, hl, hz⟩ := I.list hq
  refine call_set_ints ns (I.ok.hd hc) hl.isList (by simpa using intsAre_of rv) (by unfold scanBound; omega) fun h' tk c S hc k => ?_
  have new : H s.heap.objs.size = none := I.hok.fresh (Nat.le_refl _)
  exact ⟨.ref s.heap.objs.size, upd H s.heap.objs.size (SetO X.w s.heap.objs.size (fun j => decide (j ∈ ns)) c), I.laid (t' := tk) k (Nat.le_refl _) (setO_new S), rfl, q _ _ new hc⟩
end
end Bd
namespace Bd
open PySem PySem.Spec PyProof.Rows L2 HT
theorem truth_ints {prog : Program} {w : World} {A : Around} {ns : List Int} {its : List Value} (r : Vals (ns.map V.int) its) : TruthOf prog w A (fun i v => its.toArray[i]? = some v) fun i => (ns.map fun i => i != 0).getD i false := by
  intro i v s Q E hv hq
  have hl := r.length
  rw [List.length_map] at hl
  have hi : i < its.length := by
    have := (Array.getElem?_eq_some_iff.mp hv).1
    simpa using this
  have e : (ns.map V.int)[i]? = some (.int ns[i]) := by rw [List.getElem?_map, List.getElem?_eq_getElem (by omega)]; rfl
  obtain ⟨u, eu, ru⟩ := r.get e
  obtain ⟨t, rfl⟩ := ru
  have ev : v = Value.int ns[i] t := by
    rw [List.getElem?_toArray] at hv
    rw [hv] at eu
    exact Option.some.inj eu
  subst ev
  have g : (ns.map fun i => i != 0).getD i false = (ns[i] != 0) := by
    rw [List.getD_eq_getElem?_getD, List.getElem?_map, List.getElem?_eq_getElem (by omega)]; rfl
  have hq : Q ((ns.map fun i => i != 0).getD i false) s := hq
  rw [g] at hq
  exact truthy_int hq
def rAnyI (K : PySem.W.Frag) : List V → Hp → VK → Prop := fun vs H Q => ∃ (a : Addr) (ns : List Int), vs = [V.ref a] ∧ SqL K H a (ns.map V.int) ∧ Q (.bl (ns.any fun i => i != 0)) H
theorem cr_anyI {X : Cx} (hc : X.calm = true) : CallR X (.builtin "any") (rAnyI X.K) := by
  intro pins s σ H vs us Q I r h
  obtain ⟨a, ns, rfl, hs, q⟩ := h
  obtain ⟨its, rv, hl, _⟩ := I.list hs
  have hln := rv.length
  rw [List.length_map] at hln
  rw [Vals.ref1 r]
  refine call_any_walk (iter_any (PlainL.isList hl) fun s₂ e2 st hne => ?_)
  subst e2
  refine ⟨_, [s.heap.objs.size, a], [s.heap.objs.size], its.toArray.size, fun i v => its.toArray[i]? = some v, fun i h => h.IsListIter s.heap.objs.size a i ∧ h.IsList a its.toArray, fun i => (ns.map fun i => i != 0).getD i false, rfl, Walks.list (A := X.A.in1) (I.ok.hd hc) s.heap.objs.size a hne its.toArray, st, truth_ints rv, fun h' tk hk => ⟨.bl (ns.any fun i => i != 0), H, I.kept fun b o eo => hk b o (fun hm => ?_) (Heap.get?_push_of_some _ eo), ?_, q⟩⟩
  · have := Heap.lt_size eo
    rw [List.mem_singleton.mp hm] at this
    exact absurd this (Nat.lt_irrefl _)
  · have e : ((List.range its.toArray.size).any fun i => (ns.map fun i => i != 0).getD i false) = ns.any fun i => i != 0 := by
      rw [show its.toArray.size = (ns.map fun i => i != 0).length by simp; omega, L2.any_range]
      simp [List.any_map]
    rw [e]; rfl
end Bd
namespace Bd
open PySem PySem.Spec PyProof.Rows L2 HT
theorem op_shr {X : Cx} : OpR X (binaryOp .RShift) (rI (fun _ j => 0 ≤ j) fun i j => .int (i / 2 ^ j.toNat)) :=
  opI fun i j _ _ _ _ _ hc q => rshift_int hc (by rw [Int.fdiv_eq_ediv_of_nonneg i (two_pow_nn j.toNat)]; exact q)
theorem op_band {X : Cx} : OpR X (binaryOp .BitAnd) (rI0 fun i j => .int (Builtin.bitAnd i j)) := opI0 fun _ _ _ _ _ _ _ q => and_int q
/-- whether a thing is true, over K alone -/
def tTru (K : PySem.W.Frag) (ta : TE) : TT := fun σ H Q => ta σ H fun x H' => ∃ k, TruV K x H' k ∧ Q k H'
theorem pt_tru {X : Cx} {K : PySem.W.Frag} {a : Expr} {ta : TE} (hK : X.K = K) (h : PE X a ta) (hs : ∀ whole : Sem Value, PySem.isTrue a X.env whole = do
          let v ← whole
          standAt a.pos
          holding [v] (truthy v)) : PT X a (tTru K ta) := by subst hK; exact pt_truth h hs
theorem dec_vb (i j : Bool) : decide (V.bl i = V.bl j) = decide (i = j) := by
  by_cases h : i = j
  · subst h; simp
  · rw [decide_eq_false h, decide_eq_false]
    intro z; exact h (V.bl.inj z)
section
variable {K : PySem.W.Frag} {W : Wd} {ρ : List Sl} {ν : Nat} {ta tb te : TE} {kb : Nat → Bool → Prop} {k : Nat → Int → Prop}
theorem dB_neB (h : DeB K W ρ ν ta fun ν1 i => DeB K W ρ ν1 tb fun ν2 j => kb ν2 (!decide (i = j))) : DeB K W ρ ν (tOp rNe ta tb) kb := fun S B σ H Q st q => by
  refine h S B σ H _ st fun _ v H1 x k1 i1 d1 ⟨i, ex, h1⟩ => ?_
  refine h1 S B σ H1 _ (st.keep k1 i1) fun _ w H2 y k2 i2 d2 ⟨j, ey, hΦ⟩ => ?_
  subst ex ey; cases d1; cases d2
  refine ⟨rfl, ?_⟩
  rw [dec_vb]
  exact q _ _ _ _ (k1.trans k2) i2 (.bl _) ⟨_, rfl, hΦ⟩
theorem dB_eqB (h : DeB K W ρ ν ta fun ν1 i => DeB K W ρ ν1 tb fun ν2 j => kb ν2 (decide (i = j))) : DeB K W ρ ν (tOp rEq ta tb) kb := fun S B σ H Q st q => by
  refine h S B σ H _ st fun _ v H1 x k1 i1 d1 ⟨i, ex, h1⟩ => ?_
  refine h1 S B σ H1 _ (st.keep k1 i1) fun _ w H2 y k2 i2 d2 ⟨j, ey, hΦ⟩ => ?_
  subst ex ey; cases d1; cases d2
  refine ⟨rfl, ?_⟩
  rw [dec_vb]
  exact q _ _ _ _ (k1.trans k2) i2 (.bl _) ⟨_, rfl, hΦ⟩
theorem dt_truI {Χ : Nat → Bool → Prop} (h : DeI K W ρ ν ta fun ν1 i => Χ ν1 (i != 0)) : Dt K W ρ ν (tTru K ta) Χ := fun S B σ H Q st q => by
  refine h S B σ H _ st fun _ v H1 x k1 i1 d1 ⟨i, ex, h1⟩ => ?_
  subst ex; cases d1
  exact ⟨_, rfl, q _ _ _ k1 i1 h1⟩
theorem dt_truL {Χ : Nat → Bool → Prop} (h : DeL K W ρ ν ta fun ν1 xs => Χ ν1 (!xs.isEmpty)) : Dt K W ρ ν (tTru K ta) Χ := fun S B σ H Q st q => by
  refine h S B σ H _ st fun _ v H1 x k1 i1 d1 ⟨xs, ex, h1⟩ => ?_
  subst ex
  cases d1 with
  | lst e ds =>
    refine ⟨_, .inl ⟨_, .inl (.inl (of_hid e).1), rfl⟩, q _ _ _ k1 i1 ?_⟩
    have hl := ds.len
    cases xs with
    | nil => cases ds; exact h1
    | cons x xs => cases ds; exact h1
theorem dt_truO {i : Nat} {a : Addr} {xs : List PyData} {Χ : Nat → Bool → Prop} (ho : ρ[i]? = some (.own a xs)) (h : Χ ν (!xs.isEmpty)) : Dt K W ρ ν (tTru K (tVar i)) Χ := dt_peek i ho (dt_truL (dL_var (by rw [List.getElem?_set_self (lt_of_at ho)]) h))
theorem do_sorted {Ψ : Nat → List PyData → Prop} (h : DeL K W ρ ν te fun ν1 xs => ∃ ns : List Int, xs = ns.map .int ∧ ns.length < 64 ∧ ∀ zs : List Int, zs.Perm ns → zs.Pairwise (· ≤ ·) → Ψ ν1 (zs.map .int)) : Do K W ρ ν (tCB (rSorted K) (tCons te tNil)) Ψ := fun S B σ H Q st q => by
  refine h S B σ H _ st fun _ v H1 x k1 i1 d1 ⟨xs, ex, ns, exs, hl, hΨ⟩ => ?_
  subst ex exs
  have st1 := st.keep k1 i1
  cases d1 with
  | lst e ds =>
    cases ds.ints_eq
    refine ⟨_, ns, rfl, .inl (.inl (of_hid e).1), hl, fun zs p pm pw np => ?_⟩
    have f := st1.fresh np
    exact q _ _ _ _ _ (k1.trans (st1.new np).1) (st1.new np).2 (k1.none f.2.2 np) upd_same (.ints zs) (hΨ zs pm pw)
theorem do_sortedO {Ψ : Nat → List PyData → Prop} {i : Nat} {a : Addr} {ns : List Int} (ho : ρ[i]? = some (.own a (ns.map .int))) (hl : ns.length < 64) (h : ∀ zs : List Int, zs.Perm ns → zs.Pairwise (· ≤ ·) → Ψ ν (zs.map .int)) : Do K W ρ ν (tCB (rSorted K) (tCons (tVar i) tNil)) Ψ := fun S B σ H Q st q => by
  obtain ⟨u, eu, e1, vs, e2, d⟩ := st.sl i _ ho
  subst e1
  cases d.ints_eq
  refine ⟨_, eu, a, ns, rfl, .inl (.inl e2), hl, fun zs p pm pw np => ?_⟩
  have f := st.fresh np
  exact q _ _ _ _ _ (st.new np).1 (st.new np).2 np upd_same (.ints zs) (h zs pm pw)
theorem do_sset {w : World} {Ψ : Nat → List PyData → Prop} (h : DeL K W ρ ν te fun ν1 xs => ∃ ns : List Int, xs = ns.map .int ∧ ns.length < 64 ∧ ∀ zs : List Int, zs.Pairwise (· < ·) → (∀ k : Int, k ∈ zs ↔ decide (k ∈ ns) = true) → Ψ ν1 (zs.map .int)) : Do K W ρ ν (tCB (rSortedSet w) (tCons (tCB (rSetOfL K w) (tCons te tNil)) tNil)) Ψ := fun S B σ H Q st q => by
  refine h S B σ H _ st fun _ v H1 x k1 i1 d1 ⟨xs, ex, ns, exs, hl, hΨ⟩ => ?_
  subst ex exs
  have st1 := st.keep k1 i1
  cases d1 with
  | lst e ds =>
    cases ds.ints_eq
    refine ⟨_, ns, rfl, .inl (.inl (of_hid e).1), by omega, fun p1 c np hc => ?_⟩
    have f1 := st1.fresh np
    have n1 := st1.new (o := SetO w p1 (fun j => decide (j ∈ ns)) c) np
    have k2 := k1.trans n1.1
    have st2 := st.keep k2 n1.2
    refine ⟨p1, _, c, rfl, upd_same, by omega, fun zs p rise mem hlen np2 => ?_⟩
    have f := st2.fresh np2
    exact q _ _ _ _ _ (k2.trans (st2.new np2).1) (st2.new np2).2 (k2.none f.2.2 np2) upd_same (.ints zs) (hΨ zs rise mem)
theorem dI_minL (h : DeL K W ρ ν te fun ν1 xs => ∃ ns : List Int, xs = ns.map .int ∧ 0 < ns.length ∧ ∀ m, m ∈ ns → (∀ y, y ∈ ns → m ≤ y) → k ν1 m) : DeI K W ρ ν (tCB (rMin K) (tCons te tNil)) k := de_minL (De.imp h fun _ x ⟨xs, e, ns, e', p, q⟩ => ⟨ns, by rw [e, e'], p, fun m h1 h2 => ⟨m, rfl, q m h1 h2⟩⟩)
theorem dB_anyI (h : DeL K W ρ ν te fun ν1 xs => ∃ ns : List Int, xs = ns.map .int ∧ kb ν1 (ns.any fun i => i != 0)) : DeB K W ρ ν (tCB (rAnyI K) (tCons te tNil)) kb := fun S B σ H Q st q => by
  refine h S B σ H _ st fun _ v H1 x k1 i1 d1 ⟨xs, ex, ns, exs, hk⟩ => ?_
  subst ex exs
  cases d1 with
  | lst e ds =>
    cases ds.ints_eq
    exact ⟨_, ns, rfl, .inl (.inl (of_hid e).1), q _ _ _ _ k1 i1 (.bl _) ⟨_, rfl, hk⟩⟩
theorem dI_sumT (h : DeT K W ρ ν te fun ν1 xs => ∃ ns : List Int, xs = ns.map .int ∧ k ν1 ns.sum) : DeI K W ρ ν (tCB (rSumT K) (tCons te tNil)) k := de_sumT (De.imp h fun _ x ⟨xs, e, ns, e', p⟩ => ⟨ns, by rw [e, e'], _, rfl, p⟩)
theorem dI_indexL (h : DeL K W ρ ν te fun ν1 xs => ∃ ns : List Int, xs = ns.map .int ∧ DeI K W ρ ν1 tb fun ν2 x => ∃ j : Nat, ns[j]? = some x ∧ (∀ i, i < j → ns[i]? ≠ some x) ∧ k ν2 (j : Int)) : DeI K W ρ ν (tBM K "list" (rIndex K) te (tCons tb tNil)) k := fun S B σ H Q st q => by
  refine h S B σ H _ st fun _ v H1 x k1 i1 d1 ⟨xs, ex, ns, exs, h1⟩ => ?_
  subst ex exs
  have st1 := st.keep k1 i1
  cases d1 with
  | lst e ds =>
    cases ds.ints_eq
    refine ⟨.inl ⟨rfl, _, .inl (.inl (of_hid e).1)⟩, h1 S B σ H1 _ st1 fun _ w H2 y k2 i2 d2 ⟨x, ey, j, hj, hf, hk⟩ => ?_⟩
    subst ey
    cases d2
    have e2 := (st1.kpS k2) _ _ e
    refine ⟨_, _, _, j, .int x, rfl, rfl, .inl (.inl (of_hid e2).1), rfl, flat_ints ns, by rw [List.getElem?_map, hj]; rfl, by simp [eqV], fun m z' hm hz => ?_, q _ _ _ _ (k1.trans k2) i2 (.int _) ⟨_, rfl, hk⟩⟩
    rw [List.getElem?_map] at hz
    cases c : ns[m]? with
    | none => rw [c] at hz; cases hz
    | some u =>
      rw [c] at hz
      cases hz
      have : u ≠ x := fun z => hf m hm (by rw [c, z])
      simp [eqV, this]
end
theorem first_at {x : Int} : ∀ {ns : List Int}, x ∈ ns → ∃ j : Nat, ns[j]? = some x ∧ ∀ i, i < j → ns[i]? ≠ some x
  | y :: ns, h => by
    by_cases e : y = x
    · exact ⟨0, by rw [e]; rfl, fun i hi => absurd hi (Nat.not_lt_zero _)⟩
    · obtain ⟨j, h1, h2⟩ := first_at (List.mem_of_ne_of_mem (fun z => e z.symm) h)
      refine ⟨j + 1, h1, fun i hi => ?_⟩
      cases i with
      | zero => intro z; exact e (Option.some.inj z)
      | succ i => exact h2 i (by omega)
end Bd
namespace Bd
open PySem PySem.Spec PyProof.Rows L2 HT
/-! ### lots as data (also within tpl/partsright5.tpl) -/
theorem eqv_ints : ∀ a b : List Nat, PyData.eqvAll ((natsL a).map .int) ((natsL b).map .int) = decide (a = b)
  | [], [] => by simp [natsL, PyData.eqvAll]
  | [], y :: b => by simp [natsL, PyData.eqvAll]
  | x :: a, [] => by simp [natsL, PyData.eqvAll]
  | x :: a, y :: b => by
    show (((x : Int) == (y : Int)) && PyData.eqvAll ((natsL a).map .int) ((natsL b).map .int)) = _
    rw [eqv_ints a b]
    by_cases h1 : x = y
    · subst h1
      by_cases h2 : a = b <;> simp [h2]
    · rw [beq_eq_false_iff_ne.mpr (by omega : (x : Int) ≠ (y : Int)), Bool.false_and]
      exact (decide_eq_false (by simp [h1])).symm
theorem eqv_lot (a b : List Nat) : PyData.eqv (lotD a) (lotD b) = decide (a = b) := eqv_ints a b
theorem eqv_lots : ∀ a b : List (List Nat), PyData.eqvAll (a.map lotD) (b.map lotD) = decide (a = b)
  | [], [] => by simp [PyData.eqvAll]
  | [], y :: b => by simp [PyData.eqvAll]
  | x :: a, [] => by simp [PyData.eqvAll]
  | x :: a, y :: b => by
    show (PyData.eqv (lotD x) (lotD y) && PyData.eqvAll (a.map lotD) (b.map lotD)) = _
    rw [eqv_lot, eqv_lots a b]
    by_cases h1 : x = y <;> by_cases h2 : a = b <;> simp [h1, h2]
theorem shp_lot {n : Nat} (l : List Nat) : Shp (n + 1) (lotD l) := shp_list fun d hd => by
  obtain ⟨i, _, rfl⟩ := List.mem_map.mp hd
  exact shp_int i
theorem shp_lots {n : Nat} (ls : List (List Nat)) : Shp (n + 2) (lotsD ls) := shp_list fun d hd => by
  obtain ⟨l, _, rfl⟩ := List.mem_map.mp hd
  exact shp_lot l
theorem lotD_at {K : PySem.W.Frag} {H : Hp} {vs : List V} {ls : List (List Nat)} {i : Nat} {v : V} (h : DpAll K H vs (ls.map lotD)) (e : vs[i]? = some v) : ∃ q l, ls[i]? = some l ∧ v = .ref q ∧ SqL K H q ((natsL l).map V.int) := by
  have hl := dps_len h
  rw [List.length_map] at hl
  have hi : i < ls.length := by have := lt_of_at e; omega
  obtain ⟨u, e1, h1⟩ := dps_at h (i := i) (d := lotD ls[i]) (by rw [List.getElem?_map, List.getElem?_eq_getElem hi]; rfl)
  rw [e] at e1
  cases e1
  obtain ⟨q, rfl, h2⟩ := dp_ints h1
  exact ⟨q, ls[i], List.getElem?_eq_getElem hi, rfl, h2⟩
theorem parts_len {n : Nat} {z : List Dc} (h : n ≤ 50) : (partsL n z).length ≤ 50 ∧ ∀ l ∈ partsL n z, l.length ≤ 50 := by
  unfold partsL lotsOf
  constructor
  · rw [List.length_map]
    exact Nat.le_trans (List.length_filter_le _ _) (by rw [List.length_range]; exact h)
  · intro x hx
    obtain ⟨m, _, rfl⟩ := List.mem_map.mp hx
    exact Nat.le_trans (List.length_filter_le _ _) (by rw [List.length_range]; exact h)
theorem newlots_at {H0 H : Hp} {p : Addr} : ∀ {qs : List Addr} {ls : List (List Nat)} {i : Nat} {l : List Nat}, NewLots H0 H p qs ls → ls[i]? = some l → ∃ q, qs[i]? = some q ∧ H0 q = none ∧ q ≠ p ∧ H q = some (.lst ((natsL l).map V.int))
  | _, _, i, l, .nil, e => by simp at e
  | _, b :: _, 0, l, .cons h t, e => by
    have e2 : b = l := by simpa using e
    subst e2
    exact ⟨_, rfl, h⟩
  | _, _, i + 1, l, .cons h t, e => by
    obtain ⟨q, e1, h1⟩ := newlots_at t (i := i) (by simpa using e)
    exact ⟨q, by simpa using e1, h1⟩
end Bd
namespace Bd
open PySem PySem.Spec PyProof.Rows L2 HT
def sumM (F : List Int) (lot : List Nat) : Int := (lot.map fun r => F.getD r 0).sum
/-- all lots of so many rooms, as they are told -/
def lotsN : Nat → List (List Nat)
  | 0 => [[]]
  | n + 1 => lotsN n ++ (lotsN n).map fun l => l ++ [n]
theorem lotsN_len : ∀ n, (lotsN n).length = 2 ^ n
  | 0 => rfl
  | n + 1 => by show (lotsN n ++ _).length = _; rw [List.length_append, List.length_map, lotsN_len n, Nat.pow_succ]; omega
theorem lotsN_mem : ∀ {n : Nat} {l : List Nat}, l ∈ lotsN n → (∀ r ∈ l, r < n) ∧ l.length ≤ n ∧ l.Nodup
  | 0, l, h => by
    rw [List.mem_singleton.mp h]
    exact ⟨fun r hr => (nomatch hr), Nat.le_refl _, List.nodup_nil⟩
  | n + 1, l, h => by
    rcases List.mem_append.mp h with h | h
    · obtain ⟨h1, h2, h3⟩ := lotsN_mem h
      exact ⟨fun r hr => Nat.lt_succ_of_lt (h1 r hr), by omega, h3⟩
    · obtain ⟨m, hm, rfl⟩ := List.mem_map.mp h
      obtain ⟨h1, h2, h3⟩ := lotsN_mem hm
      refine ⟨fun r hr => ?_, by rw [List.length_append]; show m.length + 1 ≤ n + 1; omega, ?_⟩
      · rcases List.mem_append.mp hr with hr | hr
        · exact Nat.lt_succ_of_lt (h1 r hr)
        · rw [List.mem_singleton.mp hr]; exact Nat.lt_succ_self n
      · rw [List.nodup_append]
        refine ⟨h3, by simp, fun a ha b hb => ?_⟩
        rw [List.mem_singleton] at hb
        have := h1 a ha
        omega
theorem lotsN_at : ∀ (n k : Nat), k < 2 ^ n → (lotsN n)[k]? = some ((List.range n).filter fun r => k.testBit r)
  | 0, k, h => by
    have : k = 0 := by simpa using h
    subst this; rfl
  | n + 1, k, h => by
    show (lotsN n ++ (lotsN n).map fun l => l ++ [n])[k]? = _
    rw [List.range_succ, List.filter_append]
    by_cases c : k < 2 ^ n
    · rw [List.getElem?_append_left (by rw [lotsN_len]; exact c), lotsN_at n k c]
      have : k.testBit n = false := Nat.testBit_lt_two_pow c
      simp [this]
    · obtain ⟨j, rfl⟩ : ∃ j, k = 2 ^ n + j := ⟨k - 2 ^ n, by omega⟩
      have hj : j < 2 ^ n := by rw [Nat.pow_succ] at h; omega
      rw [List.getElem?_append_right (by rw [lotsN_len]; omega), lotsN_len, Nat.add_sub_cancel_left, List.getElem?_map, lotsN_at n j hj]
      have e1 : (2 ^ n + j).testBit n = true := by rw [Nat.testBit_two_pow_add_eq, Nat.testBit_lt_two_pow hj]; rfl
      have e2 : (List.range n).filter (fun r => (2 ^ n + j).testBit r) = (List.range n).filter fun r => j.testBit r := List.filter_congr fun r hr => Nat.testBit_two_pow_add_gt (List.mem_range.mp hr) j
      rw [e2]
      simp [e1]
/-! ### what leaves a lot with one room more -/
def btw1 (x : Dc) (a b : Nat) : Int := if (x.1.1 = a ∧ x.1.2 = b) ∨ (x.1.1 = b ∧ x.1.2 = a) then x.2 else 0
def btwAt (z : List Dc) (a b : Nat) : Int := (z.map fun x => btw1 x a b).sum
theorem sum_one {q : Nat} {c : Int} : ∀ {l : List Nat}, l.Nodup → (l.map fun s => if s = q then c else 0).sum = if q ∈ l then c else 0
  | [], _ => by simp
  | s :: l, nd => by
    obtain ⟨n1, n2⟩ := List.nodup_cons.mp nd
    rw [List.map_cons, List.sum_cons, sum_one n2]
    by_cases e : s = q
    · subst e
      rw [if_pos rfl, if_neg n1, if_pos (List.mem_cons_self), Int.add_zero]
    · rw [if_neg e, Int.zero_add]
      by_cases m : q ∈ l
      · rw [if_pos m, if_pos (List.mem_cons_of_mem _ m)]
      · rw [if_neg m, if_neg (by rw [List.mem_cons]; rintro (z | z); exact e z.symm; exact m z)]
theorem sum_add' {f g : Nat → Int} : ∀ l : List Nat, (l.map fun s => f s + g s).sum = (l.map f).sum + (l.map g).sum
  | [] => rfl
  | s :: l => by rw [List.map_cons, List.map_cons, List.map_cons, List.sum_cons, List.sum_cons, List.sum_cons, sum_add' l]; omega
theorem sum_zero' : ∀ l : List Nat, (l.map fun _ => (0 : Int)).sum = 0
  | [] => rfl
  | s :: l => by rw [List.map_cons, List.sum_cons, sum_zero' l]; rfl
theorem btw1_sum {x : Dc} (hx : x.1.1 ≠ x.1.2) {r : Nat} {l : List Nat} (nd : l.Nodup) : (l.map (btw1 x r)).sum = if x.1.1 = r then (if x.1.2 ∈ l then x.2 else 0) else if x.1.2 = r then (if x.1.1 ∈ l then x.2 else 0) else 0 := by
  by_cases h1 : x.1.1 = r
  · rw [if_pos h1, ← sum_one nd]
    congr 1
    apply List.map_congr_left
    intro s _
    unfold btw1
    by_cases e : s = x.1.2
    · rw [if_pos e, if_pos (.inl ⟨h1, e.symm⟩)]
    · rw [if_neg e, if_neg]
      rintro (⟨_, a⟩ | ⟨_, b⟩)
      · exact e a.symm
      · exact hx (h1.trans b.symm)
  · rw [if_neg h1]
    by_cases h2 : x.1.2 = r
    · rw [if_pos h2, ← sum_one nd]
      congr 1
      apply List.map_congr_left
      intro s _
      unfold btw1
      by_cases e : s = x.1.1
      · rw [if_pos e, if_pos (.inr ⟨e.symm, h2⟩)]
      · rw [if_neg e, if_neg]
        rintro (⟨a, _⟩ | ⟨b, _⟩)
        · exact h1 a
        · exact e b.symm
    · rw [if_neg h2, ← sum_zero' l]
      congr 1
      apply List.map_congr_left
      intro s _
      unfold btw1
      rw [if_neg]
      rintro (⟨a, _⟩ | ⟨_, b⟩)
      · exact h1 a
      · exact h2 b
theorem leave_more {r : Nat} {l : List Nat} (hr : r ∉ l) (nd : l.Nodup) : ∀ {z : List Dc}, (∀ x ∈ z, x.1.1 ≠ x.1.2) → leaveM z (l ++ [r]) = leaveM z l + metAt z r - 2 * (l.map (btwAt z r)).sum
  | [], _ => by
    show (0 : Int) = 0 + 0 - 2 * (l.map fun _ => (0 : Int)).sum
    rw [sum_zero']; rfl
  | x :: z, hz => by
    have hx := hz x (List.mem_cons_self)
    have ih := leave_more hr nd (z := z) fun y hy => hz y (List.mem_cons_of_mem _ hy)
    rw [leaveM_cons, leaveM_cons, met_cons, ih]
    have eb : (l.map (btwAt (x :: z) r)).sum = (l.map (btw1 x r)).sum + (l.map (btwAt z r)).sum := by
      rw [← sum_add']; rfl
    rw [eb, btw1_sum hx nd]
    have m1 : ∀ q : Nat, q ∈ l ++ [r] ↔ q ∈ l ∨ q = r := fun q => by rw [List.mem_append, List.mem_singleton]
    have lv : lvAt (l ++ [r]) x = true ↔ ¬ ((x.1.1 ∈ l ∨ x.1.1 = r) ↔ (x.1.2 ∈ l ∨ x.1.2 = r)) := by rw [lv_iff, m1, m1]
    have lv0 : lvAt l x = true ↔ ¬ (x.1.1 ∈ l ↔ x.1.2 ∈ l) := lv_iff l x
    by_cases h1 : x.1.1 = r
    · have h2 : x.1.2 ≠ r := fun e => hx (h1.trans e.symm)
      have h3 : x.1.1 ∉ l := by rw [h1]; exact hr
      rw [if_pos h1, if_neg h2, if_pos h1]
      by_cases m : x.1.2 ∈ l
      · rw [if_neg (fun z => lv.mp z (by simp [h1, m])), if_pos (lv0.mpr (by simp [h3, m])), if_pos m]; omega
      · rw [if_pos (lv.mpr (by simp [h1, m, h2])), if_neg (fun z => lv0.mp z (by simp [h3, m])), if_neg m]; omega
    · rw [if_neg h1, if_neg h1]
      by_cases h2 : x.1.2 = r
      · have h3 : x.1.2 ∉ l := by rw [h2]; exact hr
        rw [if_pos h2, if_pos h2]
        by_cases m : x.1.1 ∈ l
        · rw [if_neg (fun z => lv.mp z (by simp [h2, m])), if_pos (lv0.mpr (by simp [h3, m])), if_pos m]; omega
        · rw [if_pos (lv.mpr (by simp [h2, m, h1])), if_neg (fun z => lv0.mp z (by simp [h3, m])), if_neg m]; omega
      · rw [if_neg h2, if_neg h2]
        have : (lvAt (l ++ [r]) x = true ↔ lvAt l x = true) := by rw [lv, lv0]; simp [h1, h2]
        by_cases m : lvAt l x = true
        · rw [if_pos m, if_pos (this.mpr m)]; omega
        · rw [if_neg m, if_neg (fun z => m (this.mp z))]; omega
theorem sumM_snoc (F : List Int) (l : List Nat) (r : Nat) : sumM F (l ++ [r]) = sumM F l + F.getD r 0 := by
  unfold sumM
  rw [List.map_append, List.sum_append]
  simp
/-- the sums of all lots, by the lots' order -/
def sumsL (n : Nat) (z : List Dc) (w : List Int) : List Int := (lotsN n).map fun l => sumM w l + leaveM z l
def addL (z : List Dc) (c : Int) (r k : Nat) : List Int := (lotsN k).map fun l => c - 2 * (l.map (btwAt z r)).sum
theorem addL_succ (z : List Dc) (c : Int) (r k : Nat) : addL z c r (k + 1) = addL z c r k ++ (addL z c r k).map fun m => m - 2 * btwAt z r k := by
  unfold addL
  show (lotsN k ++ (lotsN k).map fun l => l ++ [k]).map _ = _
  rw [List.map_append, List.map_map, List.map_map]
  congr 1
  apply List.map_congr_left
  intro l _
  show c - 2 * ((l ++ [k]).map (btwAt z r)).sum = c - 2 * (l.map (btwAt z r)).sum - 2 * btwAt z r k
  rw [List.map_append, List.sum_append]
  simp only [List.map_cons, List.map_nil, List.sum_cons, List.sum_nil]
  omega
theorem sumsL_succ {n : Nat} {z : List Dc} {w : List Int} (hz : ∀ x ∈ z, x.1.1 ≠ x.1.2) : sumsL (n + 1) z w = sumsL n z w ++ List.zipWith (fun a b => a + b) (sumsL n z w) (addL z (w.getD n 0 + metAt z n) n n) := by
  unfold sumsL addL
  show (lotsN n ++ (lotsN n).map fun l => l ++ [n]).map _ = _
  rw [List.map_append, List.zipWith_map, List.map_map]
  congr 1
  rw [List.zipWith_self]
  apply List.map_congr_left
  intro l hl
  obtain ⟨h1, _, h3⟩ := lotsN_mem hl
  have hn : n ∉ l := fun m => Nat.lt_irrefl _ (h1 n m)
  show sumM w (l ++ [n]) + leaveM z (l ++ [n]) = sumM w l + leaveM z l + (w.getD n 0 + metAt z n - 2 * (l.map (btwAt z n)).sum)
  rw [sumM_snoc, leave_more hn h3 hz]
  omega
end Bd
namespace Bd
open PySem PySem.Spec PyProof.Rows L2 HT
/-- rooms gone through from one room on: so far -/
structure Run (n : Nat) (L : List Nat) (m : Nat) (part : List Nat) : Prop where
  nd : part.Nodup
  has : m ∈ part
  cls : ∀ r ∈ part, r < n ∧ L.getD r 0 = m
def Near (z : List Dc) (part : List Nat) (v : Nat) : Prop := ∀ x ∈ z, 0 < x.2 → (x.1.1 = v → x.1.2 ∈ part) ∧ (x.1.2 = v → x.1.1 ∈ part)
theorem Near.more {z : List Dc} {part : List Nat} {v : Nat} (h : Near z part v) (ws : List Nat) : Near z (part ++ ws) v := fun x hx hp =>
  ⟨fun e => List.mem_append_left _ ((h x hx hp).1 e), fun e => List.mem_append_left _ ((h x hx hp).2 e)⟩
theorem Near.snoc {z : List Dc} {part : List Nat} {v : Nat} {x : Dc} (h : Near z part v) (hx : 0 < x.2 → (x.1.1 = v → x.1.2 ∈ part) ∧ (x.1.2 = v → x.1.1 ∈ part)) : Near (z ++ [x]) part v := fun y hy hp => by
  rcases List.mem_append.mp hy with hy | hy
  · exact h y hy hp
  · rw [List.mem_singleton.mp hy] at hp ⊢; exact hx hp
theorem nodup_len {n : Nat} {l : List Nat} (nd : l.Nodup) (h : ∀ r ∈ l, r < n) : l.length ≤ n := by
  have := List.Nodup.length_le_of_subset nd (l₂ := List.range n) (fun r hr => List.mem_range.mpr (h r hr))
  rw [List.length_range] at this
  exact this
theorem run_end {n : Nat} {z : List Dc} {L : List Nat} {m : Nat} {part : List Nat} (hL : Led n z L) (R : Run n L m part) (N : ∀ v ∈ part, Near z part v) : ∀ r, r ∈ part ↔ r ∈ classL n L m := by
  intro r
  rw [class_mem]
  constructor
  · exact fun h => R.cls r h
  · rintro ⟨h1, h2⟩
    have := hL.con (fun t => t ∈ part) (fun x hx hp => ⟨fun a => ((N _ a) x hx hp).1 rfl, fun a => ((N _ a) x hx hp).2 rfl⟩) r h1
    rw [h2] at this
    exact this.mpr R.has
theorem sort_class {n : Nat} {z : List Dc} {L : List Nat} {m : Nat} {part : List Nat} {zs : List Int} (hL : Led n z L) (R : Run n L m part) (N : ∀ v ∈ part, Near z part v) (pm : zs.Perm (natsL part)) (pw : zs.Pairwise (· ≤ ·)) : zs = natsL (classL n L m) := by
  refine rising_eq ?_ (range_rising n _) fun k => ?_
  · have nd : (natsL part).Nodup := by
      unfold natsL
      exact List.pairwise_map.mpr (R.nd.imp fun h e => h (by omega))
    have nd2 : zs.Nodup := pm.nodup_iff.mpr nd
    exact (List.Pairwise.and pw nd2).imp fun h => by omega
  · rw [pm.mem_iff]
    constructor
    · intro h
      obtain ⟨r, hr, rfl⟩ := List.mem_map.mp h
      exact nats_mem.mpr ((run_end hL R N r).mp hr)
    · intro h
      obtain ⟨r, hr, rfl⟩ := List.mem_map.mp h
      exact nats_mem.mpr ((run_end hL R N r).mpr hr)
/-- the lots of the leaders below i -/
def someLots (n : Nat) (L : List Nat) (i : Nat) : List (List Nat) := ((List.range i).filter fun m => decide (m ∈ L)).map (classL n L)
theorem some_all (n : Nat) (z : List Dc) : someLots n (leadL n z) n = partsL n z := rfl
theorem lead_iff {n : Nat} {z : List Dc} {L : List Nat} (hL : Led n z L) {i : Nat} (hi : i < n) : i ∈ L ↔ L.getD i 0 = i := by
  constructor
  · intro h
    obtain ⟨j, hj, e⟩ := List.getElem_of_mem h
    have hj2 : j < n := by rw [← hL.len]; exact hj
    have g : L.getD j 0 = i := by rw [List.getD_eq_getElem?_getD, List.getElem?_eq_getElem hj]; exact e
    have := hL.idem j hj2
    rw [g] at this
    exact this
  · intro h
    have := led_in hL hi
    rw [h] at this
    exact this
theorem some_step {n : Nat} {L : List Nat} {i : Nat} : someLots n L (i + 1) = if i ∈ L then someLots n L i ++ [classL n L i] else someLots n L i := by
  unfold someLots
  rw [List.range_succ, List.filter_append, List.map_append]
  by_cases h : i ∈ L
  · rw [if_pos h, show ([i].filter fun m => decide (m ∈ L)) = [i] by simp [h]]; rfl
  · rw [if_neg h, show ([i].filter fun m => decide (m ∈ L)) = [] by simp [h]]; simp
theorem some_none {n : Nat} {z : List Dc} {L : List Nat} (hL : Led n z L) {i : Nat} (hi : i < n) : (someLots n L i).filter (fun l => decide (i ∈ l)) = [] ↔ i ∈ L := by
  rw [List.filter_eq_nil_iff]
  constructor
  · intro h
    rw [lead_iff hL hi]
    refine Classical.byContradiction fun ne => ?_
    have lo := hL.low i hi
    have hm : L.getD i 0 < i := by omega
    refine h (classL n L (L.getD i 0)) ?_ (decide_eq_true (class_mem.mpr ⟨hi, rfl⟩))
    exact List.mem_map.mpr ⟨_, List.mem_filter.mpr ⟨List.mem_range.mpr hm, decide_eq_true (led_in hL hi)⟩, rfl⟩
  · intro h l hl
    obtain ⟨m, hm, rfl⟩ := List.mem_map.mp hl
    have hm2 := List.mem_range.mp (List.mem_filter.mp hm).1
    rw [decide_eq_true_iff, class_mem]
    rintro ⟨_, e⟩
    have := (lead_iff hL hi).mp h
    omega
end Bd
namespace Bd
open PySem PySem.Spec PyProof.Rows L2 HT
theorem filt_mem (p : Nat → Bool) : ∀ n, (List.range n).filter p ∈ lotsN n
  | 0 => List.mem_singleton.mpr rfl
  | n + 1 => by
    rw [List.range_succ, List.filter_append]
    show _ ∈ lotsN n ++ (lotsN n).map fun l => l ++ [n]
    have ih := filt_mem p n
    by_cases h : p n = true
    · rw [show ([n].filter p) = [n] by simp [h]]
      exact List.mem_append_right _ (List.mem_map.mpr ⟨_, ih, rfl⟩)
    · rw [show ([n].filter p) = [] by simp [h], List.append_nil]
      exact List.mem_append_left _ ih
theorem lots_filt {n : Nat} {l : List Nat} (h : l ∈ lotsN n) : ∃ p : Nat → Bool, l = (List.range n).filter p := by
  obtain ⟨k, hk, e⟩ := List.getElem_of_mem h
  rw [lotsN_len] at hk
  refine ⟨fun r => k.testBit r, ?_⟩
  have := lotsN_at n k hk
  rw [List.getElem?_eq_getElem (by rw [lotsN_len]; exact hk), e] at this
  exact Option.some.inj this
theorem sum_split (f : Nat → Int) (p : Nat → Bool) : ∀ L : List Nat, ((L.filter p).map f).sum + ((L.filter fun r => !p r).map f).sum = (L.map f).sum
  | [] => rfl
  | x :: L => by
    have ih := sum_split f p L
    by_cases h : p x = true
    · rw [List.filter_cons_of_pos h, List.filter_cons_of_neg (by simp [h]), List.map_cons, List.map_cons, List.sum_cons, List.sum_cons]; omega
    · rw [List.filter_cons_of_neg h, List.filter_cons_of_pos (by simp [h]), List.map_cons, List.map_cons, List.sum_cons, List.sum_cons]; omega
theorem sum_all {F : List Int} {n : Nat} (h : F.length = n) : ((List.range n).map fun r => F.getD r 0).sum = F.sum := by
  congr 1
  apply List.ext_getElem?
  intro i
  rw [List.getElem?_map]
  by_cases hi : i < n
  · rw [List.getElem?_range hi, List.getElem?_eq_getElem (by omega : i < F.length)]
    show some (F.getD i 0) = _
    rw [List.getD_eq_getElem?_getD, List.getElem?_eq_getElem (by omega : i < F.length)]; rfl
  · rw [List.getElem?_eq_none (l := List.range n) (by rw [List.length_range]; omega), List.getElem?_eq_none (by omega : F.length ≤ i)]; rfl
theorem leave_compl {n : Nat} {z : List Dc} (hz : ∀ x ∈ z, x.1.1 < n ∧ x.1.2 < n) (p : Nat → Bool) : leaveM z ((List.range n).filter fun r => !p r) = leaveM z ((List.range n).filter p) := by
  unfold leaveM
  congr 2
  apply List.filter_congr
  intro x hx
  obtain ⟨h1, h2⟩ := hz x hx
  have m : ∀ q : Nat → Bool, ∀ r, r < n → decide (r ∈ (List.range n).filter q) = q r := fun q r hr => by
    rw [Bool.eq_iff_iff, decide_eq_true_iff, List.mem_filter, List.mem_range]
    exact ⟨fun z => z.2, fun z => ⟨hr, z⟩⟩
  unfold lvAt
  rw [m _ _ h1, m _ _ h2, m _ _ h1, m _ _ h2]
  cases p x.1.1 <;> cases p x.1.2 <;> rfl
theorem sumM_sub {n : Nat} {B E : List Int} {l : List Nat} (h : ∀ r ∈ l, r < n) : sumM ((List.range n).map fun i => B.getD i 0 - E.getD i 0) l = sumM B l - sumM E l := by
  unfold sumM
  induction l with
  | nil => rfl
  | cons r l ih =>
    have hr := h r (List.mem_cons_self)
    rw [List.map_cons, List.map_cons, List.map_cons, List.sum_cons, List.sum_cons, List.sum_cons, ih fun x hx => h x (List.mem_cons_of_mem _ hx)]
    have : ((List.range n).map fun i => B.getD i 0 - E.getD i 0).getD r 0 = B.getD r 0 - E.getD r 0 := by
      rw [List.getD_eq_getElem?_getD, List.getElem?_map, List.getElem?_range hr]; rfl
    rw [this]; omega
/-- a lot that differs by more than leaves it: there is one just where some sum is below 0 -/
theorem some_lot {n : Nat} {z : List Dc} {B E : List Int} (hz : ∀ x ∈ z, x.1.1 < n ∧ x.1.2 < n) (hB : B.length = n) (hE : E.length = n) (hs : B.sum = E.sum) {l : List Nat} (hl : l ∈ lotsN n) :
    (if sumM B l - sumM E l < 0 then -(sumM B l - sumM E l) else sumM B l - sumM E l) > leaveM z l → ∃ s ∈ sumsL n z ((List.range n).map fun i => B.getD i 0 - E.getD i 0), s < 0 := by
  intro h
  obtain ⟨p, rfl⟩ := lots_filt hl
  have hr : ∀ q : Nat → Bool, ∀ r ∈ (List.range n).filter q, r < n := fun q r hr => List.mem_range.mp (List.mem_filter.mp hr).1
  by_cases c : sumM B ((List.range n).filter p) - sumM E ((List.range n).filter p) < 0
  · rw [if_pos c] at h
    exact ⟨_, List.mem_map.mpr ⟨_, hl, rfl⟩, by rw [sumM_sub (hr p)]; omega⟩
  · rw [if_neg c] at h
    refine ⟨_, List.mem_map.mpr ⟨_, filt_mem (fun r => !p r) n, rfl⟩, ?_⟩
    rw [sumM_sub (hr _), leave_compl hz]
    have s1 := sum_split (fun r => B.getD r 0) p (List.range n)
    have s2 := sum_split (fun r => E.getD r 0) p (List.range n)
    rw [sum_all hB] at s1
    rw [sum_all hE] at s2
    unfold sumM at h c ⊢
    omega
theorem lot_below {n : Nat} {z : List Dc} {B E : List Int} {l : List Nat} (hl : l ∈ lotsN n) (h : sumM ((List.range n).map fun i => B.getD i 0 - E.getD i 0) l + leaveM z l < 0) :
    (if sumM B l - sumM E l < 0 then -(sumM B l - sumM E l) else sumM B l - sumM E l) > leaveM z l := by
  rw [sumM_sub (lotsN_mem hl).1] at h
  split <;> omega
/-- nobody in a part: by its sum, or by each of its rooms -/
theorem none_there {B : List Int} (hB : ∀ x ∈ B, 0 ≤ x) : ∀ l : List Nat, (!((l.map fun r => B.getD r 0).any fun i => i != 0)) = decide (sumM B l = 0)
  | [] => rfl
  | r :: l => by
    have p0 : ∀ r : Nat, 0 ≤ B.getD r 0 := fun r => by
      rw [List.getD_eq_getElem?_getD]
      cases c : B[r]? with
      | none => exact Int.le_refl _
      | some x => exact hB x (List.mem_of_getElem? c)
    have s0 : ∀ l : List Nat, 0 ≤ sumM B l := fun l => by
      induction l with
      | nil => exact Int.le_refl _
      | cons r l ih => unfold sumM at ih ⊢; rw [List.map_cons, List.sum_cons]; have := p0 r; omega
    have ih := none_there hB l
    have e : sumM B (r :: l) = B.getD r 0 + sumM B l := by unfold sumM; rw [List.map_cons, List.sum_cons]
    rw [e, List.map_cons, List.any_cons, Bool.not_or, ih]
    have h1 := p0 r
    have h2 := s0 l
    by_cases c : B.getD r 0 = 0
    · rw [c, Int.zero_add]; simp
    · have e2 : decide (B.getD r 0 + sumM B l = 0) = false := decide_eq_false (by omega)
      rw [e2, show (B.getD r 0 != 0) = true from bne_iff_ne.mpr c]; rfl
end Bd
namespace Bd
open PySem PySem.Spec PyProof.Rows L2 HT
section
variable {K : PySem.W.Frag} {W : Wd} {ρ : List Sl} {ν : Nat} {ta tb : TE} {kb : Nat → Bool → Prop}
theorem dB_isB (h : DeB K W ρ ν ta fun ν1 a => DeB K W ρ ν1 tb fun ν2 b => kb ν2 (decide (a = b))) : DeB K W ρ ν (tOp (fun x y H Q => ∃ a b, x = V.bl a ∧ y = V.bl b ∧ Q (.bl (decide (a = b))) H) ta tb) kb := fun S B σ H Q st q => by
  refine h S B σ H _ st fun _ v H1 x k1 i1 d1 ⟨i, ex, h1⟩ => ?_
  refine h1 S B σ H1 _ (st.keep k1 i1) fun _ w H2 y k2 i2 d2 ⟨j, ey, hΦ⟩ => ?_
  subst ex ey; cases d1; cases d2
  exact ⟨i, j, rfl, rfl, q _ _ _ _ (k1.trans k2) i2 (.bl _) ⟨_, rfl, hΦ⟩⟩
end
theorem zipD_map {α β : Type} (f : α → PyData) (g : β → PyData) : ∀ (xs : List α) (ys : List β), zipD (xs.map f) (ys.map g) = (xs.zip ys).map fun p => .tuple [f p.1, g p.2]
  | [], _ => by simp [zipD]
  | _ :: _, [] => by simp [zipD]
  | x :: xs, y :: ys => by
    have := zipD_map f g xs ys
    unfold zipD at this ⊢
    simp only [List.map_cons, List.zipWith_cons_cons, List.zip_cons_cons, this]
theorem zip_get {α β : Type} {xs : List α} {ys : List β} {i : Nat} {p : α × β} (h : (xs.zip ys)[i]? = some p) : xs[i]? = some p.1 ∧ ys[i]? = some p.2 := by
  obtain ⟨a, b⟩ := p
  exact List.getElem?_zip_eq_some.mp h
/-- these are numbers, so many and so great at most -/
def Nm (M : Int) (n : Nat) (xs : List PyData) : Prop := ∃ L : List Int, xs = L.map .int ∧ L.length ≤ n ∧ ∀ x ∈ L, -M ≤ x ∧ x ≤ M
section
variable {xs ys : List PyData} {n m : Nat} {M M' : Int}
theorem Nm.app (h : Nm M n xs) (g : Nm M m ys) : Nm M (n + m) (xs ++ ys) := by
  obtain ⟨A, rfl, ha, pa⟩ := h
  obtain ⟨B, rfl, hb, pb⟩ := g
  refine ⟨A ++ B, by rw [List.map_append], by rw [List.length_append]; omega, fun x hx => ?_⟩
  rcases List.mem_append.mp hx with h | h
  · exact pa x h
  · exact pb x h
theorem Nm.cut (h : Nm M n xs) (lo hi : Option Int) : Nm M n (cutD xs lo hi) := by
  obtain ⟨A, rfl, ha, pa⟩ := h
  refine ⟨(A.drop (HT.sIx (A.map PyData.int).length 0 lo)).take (HT.sIx (A.map PyData.int).length (A.map PyData.int).length hi - HT.sIx (A.map PyData.int).length 0 lo), ?_, ?_, fun x hx => pa x (List.mem_of_mem_drop (List.mem_of_mem_take hx))⟩
  · unfold cutD
    rw [List.map_take, List.map_drop]
  · rw [List.length_take, List.length_drop]; omega
theorem Nm.rev (h : Nm M n xs) : Nm M n xs.reverse := by
  obtain ⟨A, rfl, ha, pa⟩ := h
  exact ⟨A.reverse, by rw [List.map_reverse], by rw [List.length_reverse]; exact ha, fun x hx => pa x (List.mem_reverse.mp hx)⟩
theorem Nm.one {x : Int} (h0 : -M ≤ x) (h1 : x ≤ M) : Nm M 1 [.int x] := ⟨[x], rfl, Nat.le_refl _, fun y hy => by rw [List.mem_singleton] at hy; subst hy; exact ⟨h0, h1⟩⟩
theorem Nm.of {L : List Int} (h : ∀ x ∈ L, -M ≤ x ∧ x ≤ M) : Nm M L.length (L.map .int) := ⟨L, rfl, Nat.le_refl _, h⟩
theorem Nm.len (h : Nm M n xs) : xs.length ≤ n := by obtain ⟨A, rfl, ha, _⟩ := h; rw [List.length_map]; exact ha
theorem Nm.two (h : Nm M n xs) (g : Nm M m ys) (hn : n + m ≤ 1000000) : xs.length + ys.length ≤ PySem.sizeLine := by
  have := h.len; have := g.len; unfold PySem.sizeLine; omega
theorem Nm.up (h : Nm M n xs) (hm : n ≤ m) (hM : M ≤ M') : Nm M' m xs := by
  obtain ⟨A, e, ha, pa⟩ := h
  exact ⟨A, e, Nat.le_trans ha hm, fun x hx => ⟨by have := (pa x hx).1; omega, by have := (pa x hx).2; omega⟩⟩
end
end Bd
namespace Bd
open PySem PySem.Spec PyProof.Rows L2 HT
theorem wipeR_len {ρ : List Sl} : ∀ {vs : List Nat}, (wipeR ρ vs).length = ρ.length
  | [] => rfl
  | v :: vs => by
    show ((wipeR ρ vs).set v .un).length = _
    rw [List.length_set, wipeR_len]
theorem wipeR_in {ρ : List Sl} {i : Nat} : ∀ {vs : List Nat}, i ∈ vs → i < ρ.length → (wipeR ρ vs)[i]? = some .un
  | [], h, _ => by cases h
  | v :: vs, h, hl => by
    show ((wipeR ρ vs).set v .un)[i]? = _
    by_cases e : v = i
    · subst e
      rw [List.getElem?_set_self (by rw [wipeR_len]; exact hl)]
    · rw [List.getElem?_set_ne e]
      rcases List.mem_cons.mp h with h | h
      · exact absurd h.symm e
      · exact wipeR_in h hl
/-- some slots forgotten, more of them -/
theorem wipe_on {ρ r : List Sl} {vs : List Nat} (us : List Nat) (hv : (vs.all fun v => nOwn ρ v) = true) (e : wipeR ρ vs = r) (hs : (vs.all fun v => us.contains v) = true) (hn : (us.all fun v => nOwn r v) = true) : (us.all fun v => nOwn ρ v) = true ∧ wipeR ρ us = wipeR r us := by
  refine ⟨List.all_eq_true.mpr fun u hu => ?_, ?_⟩
  · by_cases h : u ∈ vs
    · exact List.all_eq_true.mp hv u h
    · have := List.all_eq_true.mp hn u hu
      rw [← e] at this
      exact nOwn_wipe h this
  · apply List.ext_getElem?
    intro i
    subst e
    by_cases h : i ∈ us
    · by_cases hl : i < ρ.length
      · rw [wipeR_in h hl, wipeR_in h (by rw [wipeR_len]; exact hl)]
      · rw [List.getElem?_eq_none (by rw [wipeR_len]; omega), List.getElem?_eq_none (by rw [wipeR_len, wipeR_len]; omega)]
    · have hv' : i ∉ vs := fun z => h (by simpa using List.all_eq_true.mp hs i z)
      rw [wipeR_at h, wipeR_at h, wipeR_at hv']
end Bd
namespace Bd
open PySem PySem.Spec PyProof.Rows L2 HT
/-! ## words -/
theorem any_invS (i : Str) (ns : List Str) : inV (.str i) (ns.map V.str) = decide (i ∈ ns) := by
  unfold inV
  rw [List.any_map]
  induction ns with
  | nil => rfl
  | cons x xs ih =>
    rw [List.any_cons, ih]
    show ((x : Str) == i || decide (i ∈ xs)) = decide (i ∈ x :: xs)
    by_cases h : i = x
    · subst h; simp
    · have h' : (x == i) = false := by simpa using fun z => h z.symm
      rw [h', Bool.false_or]
      simp [h]
theorem flat_strs (ns : List Str) : (ns.map V.str).all flatV = true := by
  rw [List.all_map, List.all_eq_true]
  intro x _
  rfl
section
variable {K : PySem.W.Frag} {H : Hp}
theorem Dds.strs_eq : ∀ {bs : List Str} {vs : List V}, Dds K H vs (bs.map PyData.str) → vs = bs.map V.str
  | [], _, h => by cases h; rfl
  | b :: bs, _, h => by
    cases h with
    | cons h1 h2 => cases h1; rw [Dds.strs_eq h2]; rfl
end
section
variable {K : PySem.W.Frag} {W : Wd} {ρ : List Sl} {ν : Nat} {ta tb te : TE} {tr : TA} {kb : Nat → Bool → Prop} {Φ : Nat → PyData → Prop}
theorem dB_inS {neg : Bool} (h : De K W ρ ν ta fun ν1 x => De K W ρ ν1 tb fun ν2 y => ∃ (i : Str) (ns : List Str), x = .str i ∧ y = .tuple (ns.map .str) ∧ kb ν2 (if neg then !decide (i ∈ ns) else decide (i ∈ ns))) : DeB K W ρ ν (tOp (rIn K neg) ta tb) kb := fun S B σ H Q st q => by
  refine h S B σ H _ st fun _ v H1 x k1 i1 d1 h1 => ?_
  refine h1 S B σ H1 _ (st.keep k1 i1) fun _ w H2 y k2 i2 d2 ⟨i, ns, ex, ey, hΦ⟩ => ?_
  subst ex; cases d1
  subst ey
  cases d2 with
  | tup e d =>
    refine ⟨_, _, rfl, .inr (same_tup hid_same e), rfl, by rw [d.strs_eq]; exact flat_strs ns, ?_⟩
    rw [d.strs_eq, any_invS]
    exact q _ _ _ _ (k1.trans k2) i2 (.bl _) ⟨_, rfl, hΦ⟩
theorem dB_eqS (h : De K W ρ ν ta fun ν1 x => De K W ρ ν1 tb fun ν2 y => ∃ i j, x = .str i ∧ y = .str j ∧ kb ν2 (decide (i = j))) : DeB K W ρ ν (tOp rEq ta tb) kb := de_eqS (De.imp h fun _ x p => De.imp p fun _ y ⟨i, j, e1, e2, p'⟩ => ⟨i, j, e1, e2, _, rfl, p'⟩)
end
/-! ## sorted, of what rises already -/
def rSortedD (K : PySem.W.Frag) : List V → Hp → VK → Prop := fun vs H Q => ∃ (a : Addr) (xs : List V) (ds : List PyData), vs = [V.ref a] ∧ SqL K H a xs ∧ DpAll K H xs ds ∧ PySem.W.AllAlike ds ∧ PySem.W.Sortable ds ∧ ds.Pairwise (fun a b => PySem.W.dataLe false id a b = true) ∧ (∀ d ∈ ds, d.depth ≤ 10) ∧
  ∀ p, H p = none → Q (.ref p) (upd H p (.lst xs))
theorem each_of {X : Cx} {pins : List (Addr × Obj)} {σ : L2.St} {H : Hp} {s : Shared} (I : L2.Inv X pins σ H s) : ∀ {xs : List V} {us : List Value} {ds : List PyData}, Vals xs us → DpAll X.K H xs ds → PySem.W.EachIs (fun (u : Value) (b : V × PyData) => RelV b.1 u) us (xs.zip ds) ∧ PySem.W.EachIs (fun (u : Value) (b : V × PyData) => ∃ as, Reads s.heap u b.2 as) us (xs.zip ds) ∧ (xs.zip ds).map (·.2) = ds
  | _, _, _, .nil, h => by cases h; exact ⟨.nil, .nil, rfl⟩
  | _, _, _, .cons r t, h => by
    cases h with
    | cons h1 h2 =>
      obtain ⟨e1, e2, e3⟩ := each_of I t h2
      exact ⟨.cons r e1, .cons (Dp.reads I _ _ _ h1 r) e2, by rw [List.zip_cons_cons, List.map_cons, e3]⟩
theorem vals_of_each : ∀ {xs : List V} {ds : List PyData} {us : List Value}, xs.length = ds.length → PySem.W.EachIs (fun (u : Value) (b : V × PyData) => RelV b.1 u) us (xs.zip ds) → Vals xs us
  | [], [], us, _, h => by cases h; exact .nil
  | x :: xs, d :: ds, us, hl, h => by
    rw [List.zip_cons_cons] at h
    cases h with
    | cons h1 h2 => exact .cons h1 (vals_of_each (by simpa using hl) h2)
theorem cr_sortedD {X : Cx} (hu : X.A.units + 64 < cLine) : CallR X (.builtin "sorted") (rSortedD X.K) := by
  intro pins s σ H vs us Q I r h
  obtain ⟨a, xs, ds, rfl, hs, hd, hal, hk, hp, hdep, q⟩ := h
  obtain ⟨its, rv, hl, hz⟩ := I.list hs
  rw [Vals.ref1 r]
  have hlen : xs.length = ds.length := dps_len hd
  obtain ⟨e1, e2, e3⟩ := each_of I rv hd
  have hb : ∀ b ∈ xs.zip ds, b.2 ∈ ds := fun b hb => by
    obtain ⟨x, y⟩ := b
    exact (List.of_mem_zip hb).2
  refine PySem.W.sorted_data hl.isList e1 e2 (by rw [e3]; exact hal) (by rw [e3]; exact hk) (by rw [List.length_zip, ← hlen, Nat.min_self]; exact hz) (fun b hm => ?_) fun out ho eo => ?_
  · have := hdep _ (hb b hm)
    omega
  · have hs : (xs.zip ds).mergeSort (PySem.W.dataLe false fun b : V × PyData => b.2) = xs.zip ds := List.mergeSort_of_pairwise (by
      have : ((xs.zip ds).map (·.2)).Pairwise (fun a b => PySem.W.dataLe false id a b = true) := by rw [e3]; exact hp
      exact List.pairwise_map.mp this)
    rw [hs] at eo
    obtain ⟨ep, he'⟩ := PyProof.Rows.sortedAll_at s.heap its (List.toArray out)
    exact ⟨.ref _, upd H (s.heap.objs.size + 1) (.lst xs), I.laid (t' := s.toks) (fun _ _ => PyProof.Rows.sortedAll_old) (Nat.le_succ _) ⟨hz, out, ep, vals_of_each hlen eo, he'⟩, rfl, q _ (I.hok.fresh (Nat.le_succ _))⟩
theorem do_sortedD {K : PySem.W.Frag} {W : Wd} {ρ : List Sl} {ν : Nat} {te : TE} {Ψ : Nat → List PyData → Prop} (h : DeL K W ρ ν te fun ν1 xs => PySem.W.AllAlike xs ∧ PySem.W.Sortable xs ∧ xs.Pairwise (fun a b => PySem.W.dataLe false id a b = true) ∧ (∀ d ∈ xs, d.depth ≤ 10) ∧ Ψ ν1 xs) : Do K W ρ ν (tCB (rSortedD K) (tCons te tNil)) Ψ := fun S B σ H Q st q => by
  refine h S B σ H _ st fun _ v H1 x k1 i1 d1 ⟨xs, ex, h1, h2, h3, h4, hΨ⟩ => ?_
  subst ex
  have st1 := st.keep k1 i1
  cases d1 with
  | lst e ds =>
    refine ⟨_, _, xs, rfl, .inl (.inl (of_hid e).1), (ds.same hid_same).dp, h1, h2, h3, h4, fun p np => ?_⟩
    have f := st1.fresh np
    exact q _ _ _ _ _ (k1.trans (st1.new np).1) (st1.new np).2 (k1.none f.2.2 np) upd_same (ds.same (hid_new np)) hΨ
/-! ## a def that is handed in -/
structure HeldG (P : Program) (w : World) (K : PySem.W.Frag) (mg : Str → Option Value) (base : Heap) (k : Nat) (f : Addr) (sp : Sp) : Prop where
  ex : ∃ (fd : FuncData) (ps : List Str), FnG P w K mg base k f fd ps sp ∧ PySem.W.keepIn K (.ref f) = true ∧ Binds K fd ps []
def tCallG (i : Nat) (S : Addr → Option Sp) (t : TA) : TE := fun σ H Q => ∃ f sp, σ[i]? = some (some (.ref f)) ∧ S f = some sp ∧ tCall sp [] E0 t σ H Q
section
variable {X : Cx} {k j i : Nat} {x : Str} {S : Addr → Option Sp} {p pos : Pos} {e : Expr} {es : List Expr} {t : TA}
theorem pe_gA (A : ∀ f sp, S f = some sp → HeldG X.prog X.w X.K X.mg X.base k f sp) (hG : X.A.guards = some []) (hr : Room j X.A) (hkj : k ≤ j) (hN : X.N[i]? = some x) (hv : Vis X.env.scope x) (ha : PA X (e :: es) t)
    (hdb : (x == ("__debug__" : Str)) = false := by decide) (hcd : (x == ("__classdict__" : Str)) = false := by decide)
    (he : starEach (e :: es) X.env = (false, eval e X.env) :: starEach es X.env := by rfl) (hpl : (backTo pos (starEach es X.env)).any (·.1) = false := by rfl) : PE X (.Call (.Name x p) (e :: es) [] pos) (tCallG i S t) := by
  refine ⟨fun pins s σ H Q I h => ?_⟩
  obtain ⟨f, sp, hs, hS, ht⟩ := h
  obtain ⟨fd, ps, F, hk, hb⟩ := (A f sp hS).ex
  refine wpAny_Call_Name_kw (thn ((pe_var (pos := p) hN hv hdb hcd).run pins s σ H (fun v H1 => v = .ref f ∧ H1 = H) I ⟨.ref f, hs, rfl, rfl⟩) fun u s1 ⟨v, H1, I1, r1, q1⟩ => ?_)
  obtain ⟨rfl, rfl⟩ := q1
  cases r1
  refine PySem.W.callWith_K (h₀ := X.base) I.ok.mod.kin hk (thn (ha.run pos pins s1 σ _ _ I1 ht) fun us s2 ⟨vs, H2, I2, r, q⟩ => ⟨I2.kIn, ?_⟩) he hpl
  have q : sp (vs ++ []) H2 Q E0 := q
  rw [List.append_nil] at q
  exact run_fnG F hG (hr.mono hkj) hb I2 r q
end
section
variable {K : PySem.W.Frag} {W : Wd} {ρ : List Sl} {ν : Nat} {tr : TA} {Φ : Nat → PyData → Prop}
theorem de_callA {i : Nat} {S0 : Addr → Option Sp} {f : Addr} {sp : Sp} (hj : ρ[i]? = some (.at (.ref f))) (hS : S0 f = some sp) (h : De K W ρ ν (tCall sp [] E0 tr) Φ) : De K W ρ ν (tCallG i S0 tr) Φ := fun S B σ H Q st q => by
  obtain ⟨u, eu, e1⟩ := st.sl i _ hj
  subst e1
  exact ⟨f, sp, eu, hS, h S B σ H Q st q⟩
end
/-- a def that is handed data, and defs behind them -/
def spT {ι : Type} (K : PySem.W.Frag) (arg : ι → List PyData) (fs : ι → List V) (pre : ι → Prop) (post : ι → Sl → Prop) : Sp := fun vs H Q _ => ∃ (i : ι) (S : List Addr) (us : List V), vs = us ++ fs i ∧ (∀ a ∈ S, ∃ o, H a = some o) ∧
  Dds K (hid S H) us (arg i) ∧ pre i ∧ ∀ ν' s v H', post i s → RetOk K Wn S (hid [] H) s v H' ν' → Q v H'
section
variable {ι : Type} {K : PySem.W.Frag} {arg : ι → List PyData} {fs : ι → List V} {pre : ι → Prop} {post : ι → Sl → Prop}
theorem spT_len {n : Nat} {vs : List V} {H : Hp} {Q : VK} {E : XK} (h : spT K arg fs pre post vs H Q E) (hl : ∀ i, (arg i).length + (fs i).length = n) : vs.length = n := by
  obtain ⟨i, S, us, rfl, _, d, _⟩ := h
  rw [List.length_append, d.len, hl i]
theorem ownA_T (xs : List PyData) (js : List V) (n : Nat) : ownA (xs.map .d ++ (js.map .at ++ List.replicate n .un)) = [] := by
  apply List.eq_nil_iff_forall_not_mem.mpr
  intro a h
  obtain ⟨i, ys, e⟩ := mem_ownA.mp h
  have m := List.mem_of_getElem? e
  simp [List.mem_append, List.mem_map, List.mem_replicate] at m
theorem fn_dsT {N : List Str} {vs : List V} {H : Hp} {Q : VK} {E : XK} {t : TS} (ρ0 : ι → List Sl) (h : spT K arg fs pre post vs H Q E)
    (hρ : ∀ i, (arg i).map .d ++ ((fs i).map .at ++ List.replicate (N.length - ((arg i).length + (fs i).length)) .un) = ρ0 i)
    (hd : ∀ i, pre i → Ds K Wn (ρ0 i) 0 t ⟨fun _ _ => post i (.d .none), fun _ s => post i s, fun _ _ => False, fun _ _ => False⟩) :
    t { nx := fun _ H' => Q .non H', rt := Q } (L2.start N vs) H := by
  obtain ⟨i, S, us, rfl, hal, hD, hp, q⟩ := h
  have hl := hD.len
  have e1 : L2.start N (us ++ fs i) = us.map some ++ ((fs i).map some ++ List.replicate (N.length - ((arg i).length + (fs i).length)) none) := by
    unfold L2.start
    rw [List.map_append, List.append_assoc, List.length_append, hl]
  rw [e1]
  have eo := ownA_T (arg i) (fs i) (N.length - ((arg i).length + (fs i).length))
  have al := (AllSl.ds (H := H) hD).app ((AllSl.jss (K := K) (Hh := hid S H) (H := H) (fs i)).app (AllSl.un (N.length - ((arg i).length + (fs i).length))))
  have hd := hd i hp
  rw [← hρ] at hd
  refine hd S (hid [] H) _ H _ ⟨al.1, fun j s e => ?_, fun j k a xs ys e => ?_, fun a ha => ?_, fun a ha => (nomatch ha), ?_, trivial, fun a ha => ?_, fun _ _ h => (nomatch h)⟩ ⟨fun ν' ρ σ H' st h => q ν' _ _ _ h (st.ret .non), fun ν' s v H' r h => q ν' _ _ _ h r, fun _ _ _ _ _ h => h.elim, fun _ _ _ _ _ h => h.elim⟩
  · rw [eo, List.append_nil]; exact al.2 j s e
  · have : a ∈ ownA ((arg i).map .d ++ ((fs i).map .at ++ List.replicate (N.length - ((arg i).length + (fs i).length)) .un)) := mem_ownA.mpr ⟨_, _, e⟩
    rw [eo] at this; cases this
  · rw [eo] at ha; cases ha
  · rw [eo, List.append_nil]; exact fun _ _ h => h
  · obtain ⟨o, e⟩ := hal a ha
    exact .inr ⟨o, hid_of e (by simp)⟩
variable {W : Wd} {ρ : List Sl} {ν : Nat} {Φ : Nat → PyData → Prop}
/-- .. called with four names and two defs -/
theorem de_callT {i1 i2 i3 i4 : Nat} {x1 x2 x3 x4 : PyData} {f1 f2 : V} (e1 : ρ[i1]? = some (.d x1)) (e2 : ρ[i2]? = some (.d x2)) (e3 : ρ[i3]? = some (.d x3)) (e4 : ρ[i4]? = some (.d x4))
    (h : ∃ i, [x1, x2, x3, x4] = arg i ∧ [f1, f2] = fs i ∧ pre i ∧ ∀ s, post i s → ∃ y, s = .d y ∧ Φ ν y) : De K W ρ ν (tCall (spT K arg fs pre post) [] E0 (tCons (tVar i1) (tCons (tVar i2) (tCons (tVar i3) (tCons (tVar i4) (tCons (tC f1) (tCons (tC f2) tNil))))))) Φ := fun S B σ H Q st q => by
  obtain ⟨i, ea, ef, hp, hq⟩ := h
  obtain ⟨v1, g1, d1⟩ := st.slot e1
  obtain ⟨v2, g2, d2⟩ := st.slot e2
  obtain ⟨v3, g3, d3⟩ := st.slot e3
  obtain ⟨v4, g4, d4⟩ := st.slot e4
  refine ⟨v1, g1, v2, g2, v3, g3, v4, g4, ?_⟩
  refine ⟨i, S ++ ownA ρ, [v1, v2, v3, v4], by rw [← ef]; rfl, st.alive, by rw [← ea]; exact .cons d1 (.cons d2 (.cons d3 (.cons d4 .nil))), hp, fun ν' s v H' hs r => ?_⟩
  obtain ⟨y, rfl, hΦ⟩ := hq s hs
  obtain ⟨k2, i2⟩ := kp_of0 st r.1
  exact q ν v H' y k2 i2 r.2.2 hΦ
end
end Bd
namespace Bd
open PySem PySem.Spec PyProof.Rows L2 HT
/-! ## a chain of three -/
def tChain3 (r r' r'' : R2) (ta tb tc td : TE) : TE := fun σ H Q => ta σ H fun x H1 => tb σ H1 fun y H2 => r x y H2 fun z H3 => ∃ k, z = .bl k ∧
  (if k = true then tc σ H3 fun w H4 => r' y w H4 fun z' H5 => ∃ k', z' = .bl k' ∧ (if k' = true then td σ H5 fun u H6 => r'' w u H6 Q else Q (.bl false) H5) else Q (.bl false) H3)
section
variable {X : Cx} {a b c d : Expr} {pos : Pos} {ta tb tc td : TE}
theorem pt_chain3 {op op' op'' : CmpOp} {r r' r'' : R2} (ho : OpR X (compareOp op) r) (ho' : OpR X (compareOp op') r') (ho'' : OpR X (compareOp op'') r'') (ha : PE X a ta) (hb : PE X b tb) (hc : PE X c tc) (hd : PE X d td)
    (hm : lastMarks [op, op', op''] [b, c, d] = false := by with_unfolding_all rfl) : PT X (.Compare a [op, op', op''] [b, c, d] pos) (tTest (tChain3 r r' r'' ta tb tc td)) := by
  refine ⟨fun pins s σ H Q I h => ?_⟩
  refine isTrue_chain (thn (ha.run pins s σ H _ I h) fun v s1 ⟨x, H1, I1, r1, q1⟩ => test_link (thn (hb.run pins s1 σ H1 _ I1 q1) fun u s2 ⟨y, H2, I2, r2, q2⟩ =>
    thn (ho pins s2 σ H2 x y v u _ I2 r1 r2 q2) fun d s3 ⟨z, H3, I3, r3, k, e, q3⟩ => ?_)) hm
  subst e
  cases r3
  refine wpAny_truthy_bool ?_
  cases k with
  | false =>
    obtain ⟨k', e', q'⟩ := q3
    cases e'
    exact ite_ff ⟨H3, I3, q'⟩
  | true =>
    refine ite_tt (test_link (thn (hc.run pins s3 σ H3 _ I3 q3) fun w' s4 ⟨z', H4, I4, r4, q4⟩ => thn (ho' pins s4 σ H4 y z' u w' _ I4 r2 r4 q4) fun d' s5 ⟨z2, H5, I5, r5, k2, e2, q5⟩ => ?_))
    subst e2
    cases r5
    refine wpAny_truthy_bool ?_
    cases k2 with
    | false =>
      obtain ⟨k', e', q'⟩ := q5
      cases e'
      exact ite_ff ⟨H5, I5, q'⟩
    | true =>
      refine ite_tt (test_last (thn (hd.run pins s5 σ H5 _ I5 q5) fun w2 s6 ⟨z6, H6, I6, r6, q6⟩ => thn (ho'' pins s6 σ H6 z' z6 w' w2 _ I6 r4 r6 q6) fun d7 s7 ⟨z7, H7, I7, r7, k7, e7, q7⟩ => ?_))
      subst e7
      cases r7
      exact wpAny_truthy_bool ⟨H7, I7, q7⟩
end
section
variable {K : PySem.W.Frag} {W : Wd} {ρ : List Sl} {ν : Nat} {ta tb tc td : TE} {kb : Nat → Bool → Prop}
theorem dB_chain3 {g g' g'' : Int → Int → Bool}
    (h : DeI K W ρ ν ta fun ν1 i => DeI K W ρ ν1 tb fun ν2 j => (g i j = true → DeI K W ρ ν2 tc fun ν3 l => (g' j l = true → DeI K W ρ ν3 td fun ν4 m => kb ν4 (g'' l m)) ∧ (g' j l = false → kb ν3 false)) ∧ (g i j = false → kb ν2 false)) :
    DeB K W ρ ν (tChain3 (rI0 fun i j => .bl (g i j)) (rI0 fun i j => .bl (g' i j)) (rI0 fun i j => .bl (g'' i j)) ta tb tc td) kb := fun S B σ H Q st q => by
  refine h S B σ H _ st fun _ v H1 x k1 i1 d1 ⟨i, ex, h1⟩ => ?_
  refine h1 S B σ H1 _ (st.keep k1 i1) fun _ w H2 y k2 i2 d2 ⟨j, ey, ht, hf⟩ => ?_
  subst ex ey; cases d1; cases d2
  refine ⟨i, j, rfl, rfl, g i j, rfl, ?_⟩
  have k12 := k1.trans k2
  cases e : g i j with
  | true =>
    refine ht e S B σ H2 _ (st.keep k12 i2) fun _ u H3 z k3 i3 d3 ⟨l, ez, ht', hf'⟩ => ?_
    subst ez; cases d3
    refine ⟨j, l, rfl, rfl, g' j l, rfl, ?_⟩
    have k123 := k12.trans k3
    cases e' : g' j l with
    | true =>
      refine ht' e' S B σ H3 _ (st.keep k123 i3) fun _ u' H4 z' k4 i4 d4 ⟨m, em, hk⟩ => ?_
      subst em; cases d4
      exact ⟨l, m, rfl, rfl, q _ _ _ _ (k123.trans k4) i4 (.bl _) ⟨_, rfl, hk⟩⟩
    | false => exact q _ _ _ _ k123 i3 (.bl _) ⟨_, rfl, hf' e'⟩
  | false => exact q _ _ _ _ k12 i2 (.bl _) ⟨_, rfl, hf e⟩
end
end Bd
namespace Bd
open PySem PySem.Spec PyProof.Rows L2 HT
/-! ## lists of numbers that a def changes and that others see: they stand in the world -/
/-- the world has a list at a, of r numbers of which each is so -/
structure Lst (W : Wd) (a : Addr) (r : Nat) (p : Nat → Int → Prop) : Prop where
  mem : a ∈ W.J
  up : ∀ {ν ν' : Nat} {c : Int}, ν ≤ ν' → p ν c → p ν' c
  get : ∀ {ν : Nat} {H : Hp}, W.I ν H → ∃ ns : List Int, H a = some (.lst (ns.map V.int)) ∧ ns.length = r ∧ ∀ x ∈ ns, p ν x
  put : ∀ {ν ν' : Nat} {H : Hp} {ns : List Int}, W.I ν H → ν ≤ ν' → ns.length = r → (∀ x ∈ ns, p ν' x) → W.I ν' (upd H a (.lst (ns.map V.int)))
def LsI (r : Nat) (p : Nat → Int → Prop) (ν : Nat) (ns : List Int) : Prop := ns.length = r ∧ ∀ x ∈ ns, p ν x
/-- from 0 on, to ν at most -/
def Pos (ν : Nat) (x : Int) : Prop := 0 ≤ x ∧ x ≤ ν
/-- ν at most either way -/
def Any (ν : Nat) (x : Int) : Prop := -(ν : Int) ≤ x ∧ x ≤ ν
theorem Pos.up {ν ν' : Nat} {c : Int} (h : ν ≤ ν') (p : Pos ν c) : Pos ν' c := ⟨p.1, by have := p.2; omega⟩
theorem Any.up {ν ν' : Nat} {c : Int} (h : ν ≤ ν') (p : Any ν c) : Any ν' c := ⟨by have := p.1; omega, by have := p.2; omega⟩
theorem Lst.top {W : Wd} {a : Addr} {r : Nat} {p : Nat → Int → Prop} (hup : ∀ {ν ν' : Nat} {c : Int}, ν ≤ ν' → p ν c → p ν' c) (ha : a ∉ W.J) (hW : ∀ {ν ν' : Nat} {H : Hp}, ν ≤ ν' → W.I ν H → W.I ν' H) : Lst (W.add a (LsI r p)) a r p where
  mem := List.mem_cons_self
  up := hup
  get := fun {ν H} i => by obtain ⟨_, ns, e, h⟩ := i; exact ⟨ns, e, h.1, h.2⟩
  put := fun {ν ν' H ns} i hν hl hp => ⟨W.hI (fun b hb => upd_ne fun e => ha (e ▸ hb)) (hW hν i.1), ns, upd_same, hl, hp⟩
theorem Lst.under {W : Wd} {a b : Addr} {r r2 : Nat} {p q : Nat → Int → Prop} (h : Lst W a r p) (hne : b ≠ a) (hq : ∀ {ν ν' : Nat} {c : Int}, ν ≤ ν' → q ν c → q ν' c) : Lst (W.add b (LsI r2 q)) a r p where
  mem := List.mem_cons_of_mem _ h.mem
  up := h.up
  get := fun {ν H} i => h.get i.1
  put := fun {ν ν' H ns} i hν hl hp => by
    obtain ⟨i1, ms, e, l1, l2⟩ := i
    exact ⟨h.put i1 hν hl hp, ms, by rw [upd_ne hne]; exact e, l1, fun x hx => hq hν (l2 x hx)⟩
section
variable {K : PySem.W.Frag} {W : Wd} {ρ : List Sl} {ν : Nat} {te tb : TE} {k : Nat → Int → Prop} {P : Po} {a : Addr} {r : Nat} {p : Nat → Int → Prop} {n : Nat}
/-- an item of it -/
theorem dI_ixW (L : Lst W a r p) (hj : ρ[n]? = some (.at (.ref a))) (h : DeI K W ρ ν tb fun ν1 i => ∃ j : Nat, i = (j : Int) ∧ j < r ∧ ∀ c, p ν1 c → k ν1 c) : DeI K W ρ ν (tOp (rIxL K) (tVar n) tb) k := fun S B σ H Q st q => by
  obtain ⟨u, eu, e1⟩ := st.sl n _ hj
  subst e1
  refine ⟨_, eu, h S B σ H _ st fun ν1 v H1 x k1 i1 d1 ⟨i, ex, j, ej, hjr, hk⟩ => ?_⟩
  subst ex; cases d1; subst ej
  obtain ⟨ns, e2, hl, hp⟩ := L.get i1
  have hj' : j < ns.length := by rw [hl]; exact hjr
  have eg : (ns.map V.int)[j]? = some (.int (ns.getD j 0)) := by
    rw [List.getElem?_map, List.getD_eq_getElem?_getD, List.getElem?_eq_getElem hj']; rfl
  refine ⟨a, _, (j : Int), _, rfl, rfl, .inl (.inl e2), atI_nat eg, q ν1 _ H1 _ k1 i1 (.int _) ⟨_, rfl, hk _ (hp _ ?_)⟩⟩
  rw [List.getD_eq_getElem?_getD, List.getElem?_eq_getElem hj']
  exact List.getElem_mem _
/-- .. changed -/
theorem ds_subW (L : Lst W a r p) (hj : ρ[n]? = some (.at (.ref a))) (h : De K W ρ ν te fun ν1 x => DeI K W ρ ν1 tb fun ν2 i => ∃ (c : Int) (j ν3 : Nat), x = .int c ∧ i = (j : Int) ∧ j < r ∧ ν2 ≤ ν3 ∧ p ν3 c ∧ P.nx ν3 ρ) : Ds K W ρ ν (tAsg te (gSub (tVar n) tb rSetL)) P := fun S B σ H D st e => by
  refine h S B σ H _ st fun ν1 v H1 x k1 i1 d1 h1 => ?_
  have st1 := st.keep k1 i1
  obtain ⟨w, ew, e1⟩ := st1.sl n _ hj
  subst e1
  refine ⟨_, ew, h1 S B σ H1 _ st1 fun ν2 y H2 z k2 i2 d2 ⟨i, ez, c, j, ν3, ex, ei, hjr, hν, hc, hP⟩ => ?_⟩
  subst ez ex ei; cases d2; cases d1
  have st2 := st1.keep k2 i2
  obtain ⟨ns, e2, hl, hp⟩ := L.get i2
  refine ⟨a, _, (j : Int), j, rfl, rfl, e2, by rw [List.length_map, hl]; exact ixN_nat hjr, ?_⟩
  rw [show (ns.map V.int).set j (.int c) = (ns.set j c).map V.int from (List.map_set ..).symm]
  have i3 : W.I ν3 (upd H2 a (.lst ((ns.set j c).map V.int))) := L.put i2 hν (by rw [List.length_set]; exact hl) (set_all (fun x hx => L.up hν (hp x hx)) hc)
  have k3 : Kp W.J H2 (upd H2 a (.lst ((ns.set j c).map V.int))) := Kp.refl.wr L.mem
  exact e.nx _ _ _ _ (st2.keep k3 i3) hP
/-- list(..) of it: a new one -/
theorem do_listW {Ψ : Nat → List PyData → Prop} (L : Lst W a r p) (hj : ρ[n]? = some (.at (.ref a))) (h : ∀ ns : List Int, ns.length = r → (∀ x ∈ ns, p ν x) → Ψ ν (ns.map .int)) : Do K W ρ ν (tCB (fun xs H Q => ∃ p ys, xs = [.ref p] ∧ (SqL K H p ys ∨ SqT K H p ys) ∧ ∀ l, H l = none → Q (.ref l) (upd H l (.lst ys))) (tCons (tVar n) tNil)) Ψ := fun S B σ H Q st q => by
  obtain ⟨u, eu, e1⟩ := st.sl n _ hj
  subst e1
  obtain ⟨ns, e2, hl, hp⟩ := L.get st.inv
  refine ⟨_, eu, a, _, rfl, .inl (.inl (.inl e2)), fun l nl => ?_⟩
  have f := st.fresh nl
  exact q _ _ _ _ _ (st.new nl).1 (st.new nl).2 nl upd_same (.ints ns) (h ns hl hp)
end
/-! ## a def's start, its lists in the world -/
theorem Sta.init {K : PySem.W.Frag} {W : Wd} {S : List Addr} {ρ : List Sl} {σ : L2.St} {H : Hp} {ν : Nat} (ho : ownA ρ = []) (al : AllSl K (hid S H) H ρ σ) (hJS : ∀ a ∈ W.J, a ∈ S) (hal : ∀ a ∈ S, ∃ o, H a = some o) (hI : W.I ν H) (hG : Same W.G (hid W.J H)) : Sta K W S (hid W.J H) ρ σ H ν := by
  refine ⟨al.1, fun j s e => ?_, fun j k a xs ys e => ?_, fun a ha => ?_, hJS, ?_, hI, fun a ha => ?_, hG⟩
  · rw [ho, List.append_nil]; exact al.2 j s e
  · have : a ∈ ownA ρ := mem_ownA.mpr ⟨_, _, e⟩
    rw [ho] at this; cases this
  · rw [ho] at ha; cases ha
  · rw [ho, List.append_nil]; exact fun _ _ h => h
  · by_cases hj : a ∈ W.J
    · exact .inl hj
    · obtain ⟨o, e⟩ := hal a ha
      exact .inr ⟨o, hid_of e hj⟩
/-- one slot more -/
theorem AllSl.cons {K : PySem.W.Frag} {Hh H : Hp} {s : Sl} {u : Option V} {ρ : List Sl} {σ : L2.St} (h : SlOk K Hh H s u) (al : AllSl K Hh H ρ σ) : AllSl K Hh H (s :: ρ) (u :: σ) := by
  refine ⟨by rw [List.length_cons, List.length_cons, al.1], fun i s' e => ?_⟩
  cases i with
  | zero => cases e; exact ⟨u, rfl, h⟩
  | succ i =>
    obtain ⟨u', e1, ok⟩ := al.2 i s' (by simpa using e)
    exact ⟨u', by simpa using e1, ok⟩
/-! ## a def that reads a list of numbers (its second argument of three) and tells a new list -/
def spV3 {ι : Type} (K : PySem.W.Frag) (a1 a3 : ι → PyData) (Fs : ι → List Int) (pre : ι → Prop) (post : ι → List PyData → Prop) : Sp := fun vs H Q _ => ∃ (i : ι) (a : Addr) (S : List Addr) (v1 v3 : V), vs = [v1, .ref a, v3] ∧ a ∉ S ∧ (∀ b ∈ S, ∃ o, H b = some o) ∧
  H a = some (.lst ((Fs i).map V.int)) ∧ Dd K (hid (a :: S) H) v1 (a1 i) ∧ Dd K (hid (a :: S) H) v3 (a3 i) ∧ pre i ∧
  ∀ H' p ws ys, Same H H' → H p = none → H' p = some (.lst ws) → Dds K (hid (p :: a :: S) H') ws ys → post i ys → Q (.ref p) H'
section
variable {ι : Type} {K : PySem.W.Frag} {a1 a3 : ι → PyData} {Fs : ι → List Int} {pre : ι → Prop} {post : ι → List PyData → Prop}
theorem spV3_len {vs : List V} {H : Hp} {Q : VK} {E : XK} (h : spV3 K a1 a3 Fs pre post vs H Q E) : vs.length = 3 := by
  obtain ⟨i, a, S, v1, v3, rfl, _⟩ := h; rfl
theorem fn_dsV3 {N : List Str} {vs : List V} {H : Hp} {Q : VK} {E : XK} {t : TS} (h : spV3 K a1 a3 Fs pre post vs H Q E)
    (hd : ∀ i a, pre i → Ds K (Wv a (Fs i)) (.d (a1 i) :: .at (.ref a) :: .d (a3 i) :: List.replicate (N.length - 3) .un) 0 t ⟨fun _ _ => False, fun _ s => ∃ p ys, s = .own p ys ∧ post i ys, fun _ _ => False, fun _ _ => False⟩) :
    t { nx := fun _ H' => Q .non H', rt := Q } (L2.start N vs) H := by
  obtain ⟨i, a, S, v1, v3, rfl, oa, al, ha, d1, d3, hp, q⟩ := h
  have e1 : L2.start N [v1, .ref a, v3] = some v1 :: some (.ref a) :: some v3 :: List.replicate (N.length - 3) none := rfl
  rw [e1]
  have eo : ownA (.d (a1 i) :: .at (.ref a) :: .d (a3 i) :: List.replicate (N.length - 3) .un) = [] := by
    show ownA (List.replicate (N.length - 3) .un) = []
    exact ownA_start [] [] (N.length - 3)
  have all : AllSl K (hid (a :: S) H) H (.d (a1 i) :: .at (.ref a) :: .d (a3 i) :: List.replicate (N.length - 3) .un) (some v1 :: some (.ref a) :: some v3 :: List.replicate (N.length - 3) none) :=
    .cons ⟨v1, rfl, d1⟩ (.cons rfl (.cons ⟨v3, rfl, d3⟩ (AllSl.un _)))
  have st := Sta.init (W := Wv a (Fs i)) (ν := 0) eo all (fun b hb => by
    have : b ∈ [a] := hb
    rw [List.mem_singleton] at this
    rw [this]; exact List.mem_cons_self) (fun b hb => by
    rcases List.mem_cons.mp hb with rfl | hb'
    · exact ⟨_, ha⟩
    · exact al b hb') ⟨trivial, Fs i, ha, rfl⟩ (fun _ _ h => (nomatch h))
  refine hd i a hp _ _ _ _ _ st ⟨fun _ _ _ _ _ h => h.elim, fun _ s v H' r ⟨p, ys, es, hy⟩ => ?_, fun _ _ _ _ _ h => h.elim, fun _ _ _ _ _ h => h.elim⟩
  subst es
  obtain ⟨r1, r2, rfl, r4, r5, ws, r6, r7⟩ := r
  obtain ⟨_, ns, e2, en⟩ := r2
  subst en
  have hide : ∀ b, b ∈ (Wv a (Fs i)).J ↔ b = a := fun b => by
    show b ∈ [a] ↔ _
    rw [List.mem_singleton]
  have sm : Same H H' := fun b o eb => by
    by_cases z : b = a
    · subst z; rw [ha] at eb; cases eb; exact e2
    · exact (of_hid (r1 b o (hid_of eb (by rw [hide]; exact z)))).1
  have np : H p = none := by
    cases c : H p with
    | none => rfl
    | some o => rw [hid_of c (by rw [hide]; rintro rfl; exact r4 List.mem_cons_self)] at r5; cases r5
  exact q H' p ws ys sm np r6 r7 hy
variable {W : Wd} {ρ : List Sl} {ν : Nat} {Ψ : Nat → List PyData → Prop} {k : Nat → Int → Prop} {tr : TA}
/-- a pure call that tells a number, of the list that is read -/
theorem dI_callW {κ : Type} {arg : κ → List PyData} {pr : κ → Nat → Prop} {po : κ → Nat → Nat → Sl → Prop} {a : Addr} {F : List Int} {n : Nat} (hj : ρ[n]? = some (.at (.ref a))) (h : Da K (Wv a F) ρ ν tr fun ν1 xs => ∃ i, intsD F :: xs = arg i ∧ pr i 0 ∧ ∀ ν2 s, po i 0 ν2 s → ∃ c, s = .d (.int c) ∧ k ν1 c) : DeI K (Wv a F) ρ ν (tCall (spD K Wn [] arg pr po) [] E0 (tCons (tVar n) tr)) k := fun S B σ H Q st q => by
  obtain ⟨u, eu, e1⟩ := st.sl n _ hj
  subst e1
  refine ⟨_, eu, h S B σ H _ st fun ν1 vs H1 xs k1 i1 d1 ⟨i, ex, hp, hq⟩ => ?_⟩
  have st1 := st.keep k1 i1
  have i1' : True ∧ ∃ ns : List Int, H1 a = some (.lst (ns.map V.int)) ∧ ns = F := i1
  obtain ⟨_, ns, e2, rfl⟩ := i1'
  show spD K Wn [] arg pr po ((V.ref a :: vs) ++ []) H1 Q E0
  rw [List.append_nil]
  let S' := (S ++ ownA ρ).filter (fun b => b ≠ a)
  have sub : ∀ b, b ∈ S' → b ∈ S ++ ownA ρ := fun b hb => (List.mem_filter.mp hb).1
  have hid1 : Same (hid (S ++ ownA ρ) H1) (hid S' H1) := hid_sub sub
  have da : Dd K (hid S' H1) (.ref a) (intsD ns) := .lst (hid_of e2 (fun z => by
    have := (List.mem_filter.mp z).2
    simp at this)) (Dds.ints ns)
  refine ⟨i, 0, S', _, rfl, fun b hb => (nomatch hb), fun b hb => st1.alive b (sub b hb), trivial, fun _ _ h => (nomatch h), by rw [← ex]; exact .cons da (d1.same hid1), hp, fun ν' s v H' hs r => ?_⟩
  obtain ⟨c, rfl, hk⟩ := hq ν' s hs
  obtain ⟨k2, i2⟩ := kp_of0 st1 r.1
  have d : Dd K (hid S' H') v (.int c) := r.2.2
  cases d
  exact q ν1 _ H' _ (k1.trans k2) i2 (.int c) ⟨c, rfl, hk⟩
/-- .. called with a list of the world -/
theorem do_callV3 {ta tc : Nat} {x y : PyData} {n : Nat} {a : Addr} {r : Nat} {p : Nat → Int → Prop} (L : Lst W a r p) (h1 : ρ[ta]? = some (.d x)) (hj : ρ[n]? = some (.at (.ref a))) (h3 : ρ[tc]? = some (.d y))
    (h : ∀ ns : List Int, ns.length = r → (∀ c ∈ ns, p ν c) → ∃ i, x = a1 i ∧ y = a3 i ∧ ns = Fs i ∧ pre i ∧ ∀ ys, post i ys → Ψ ν ys) :
    Do K W ρ ν (tCall (spV3 K a1 a3 Fs pre post) [] E0 (tCons (tVar ta) (tCons (tVar n) (tCons (tVar tc) tNil)))) Ψ := fun S B σ H Q st q => by
  obtain ⟨v1, g1, d1⟩ := st.slot h1
  obtain ⟨v3, g3, d3⟩ := st.slot h3
  obtain ⟨u, eu, e1⟩ := st.sl n _ hj
  subst e1
  obtain ⟨ns, e2, hl, hp⟩ := L.get st.inv
  obtain ⟨i, ex, ey, ens, hpre, hq⟩ := h ns hl hp
  subst ex ey ens
  refine ⟨v1, g1, _, eu, v3, g3, ?_⟩
  have ma : a ∈ S := st.js a L.mem
  let S' := (S ++ ownA ρ).filter (fun b => b ≠ a)
  have mS : ∀ b, b ∈ a :: S' ↔ b ∈ S ++ ownA ρ := fun b => by
    show b ∈ a :: (S ++ ownA ρ).filter _ ↔ _
    rw [List.mem_cons, List.mem_filter]
    constructor
    · rintro (rfl | ⟨h, _⟩)
      · exact List.mem_append_left _ ma
      · exact h
    · intro h
      by_cases e : b = a
      · exact .inl e
      · exact .inr ⟨h, by simpa using e⟩
  have eh : ∀ H, hid (a :: S') H = hid (S ++ ownA ρ) H := fun H => hid_congr mS
  have eh2 : ∀ p H, hid (p :: a :: S') H = hid (p :: (S ++ ownA ρ)) H := fun p H => hid_congr fun b => by
    rw [List.mem_cons, List.mem_cons (l := S ++ ownA ρ), mS]
  refine ⟨i, a, S', v1, v3, rfl, ?_, fun b hb => st.alive b ((mS b).mp (List.mem_cons_of_mem _ hb)), e2, by rw [eh]; exact d1, by rw [eh]; exact d3, hpre, fun H' p' ws ys sm np ep dy hy => ?_⟩
  · show a ∉ (S ++ ownA ρ).filter _
    rw [List.mem_filter]
    rintro ⟨_, z⟩
    simp at z
  · rw [eh2] at dy
    have f := st.fresh np
    exact q ν p' H' ws ys (Kp.same sm) (W.hI (fun b hb => by obtain ⟨o, eo⟩ := W.hJ st.inv b hb; rw [eo, sm _ _ eo]) st.inv) np ep dy (hq ys hy)
end
end Bd
namespace Bd
open PySem PySem.Spec PyProof.Rows L2 HT
/-! ## sorted, of data that can be compared: the same things, in some order -/
def rSortedM (K : PySem.W.Frag) : List V → Hp → VK → Prop := fun vs H Q => ∃ (a : Addr) (xs : List V) (ds : List PyData), vs = [V.ref a] ∧ SqL K H a xs ∧ DpAll K H xs ds ∧ PySem.W.AllAlike ds ∧ PySem.W.Sortable ds ∧ (∀ d ∈ ds, d.depth ≤ 10) ∧
  ∀ (p : Addr) (bs : List (V × PyData)), bs.Perm (xs.zip ds) → H p = none → Q (.ref p) (upd H p (.lst (bs.map (·.1))))
theorem vals_of_pairs : ∀ {bs : List (V × PyData)} {us : List Value}, PySem.W.EachIs (fun (u : Value) (b : V × PyData) => RelV b.1 u) us bs → Vals (bs.map (·.1)) us
  | [], us, h => by cases h; exact .nil
  | b :: bs, us, h => by
    cases h with
    | cons h1 h2 => exact .cons h1 (vals_of_pairs h2)
theorem cr_sortedM {X : Cx} (hu : X.A.units + 64 < cLine) : CallR X (.builtin "sorted") (rSortedM X.K) := by
  intro pins s σ H vs us Q I r h
  obtain ⟨a, xs, ds, rfl, hs, hd, hal, hk, hdep, q⟩ := h
  obtain ⟨its, rv, hl, hz⟩ := I.list hs
  rw [Vals.ref1 r]
  have hlen : xs.length = ds.length := dps_len hd
  obtain ⟨e1, e2, e3⟩ := each_of I rv hd
  have hb : ∀ b ∈ xs.zip ds, b.2 ∈ ds := fun b hb => by
    obtain ⟨x, y⟩ := b
    exact (List.of_mem_zip hb).2
  have hzl : (xs.zip ds).length = xs.length := by rw [List.length_zip, ← hlen, Nat.min_self]
  refine PySem.W.sorted_data hl.isList e1 e2 (by rw [e3]; exact hal) (by rw [e3]; exact hk) (by rw [hzl]; exact hz) (fun b hm => ?_) fun out ho eo => ?_
  · have := hdep _ (hb b hm)
    omega
  · have hp := List.mergeSort_perm (xs.zip ds) (PySem.W.dataLe false fun b : V × PyData => b.2)
    generalize (xs.zip ds).mergeSort (PySem.W.dataLe false fun b : V × PyData => b.2) = bs at eo hp
    obtain ⟨ep, he'⟩ := PyProof.Rows.sortedAll_at s.heap its (List.toArray out)
    exact ⟨.ref _, upd H (s.heap.objs.size + 1) (.lst (bs.map (·.1))), I.laid (t' := s.toks) (fun _ _ => PyProof.Rows.sortedAll_old) (Nat.le_succ _) ⟨by rw [List.length_map, hp.length_eq, hzl]; exact hz, out, ep, vals_of_pairs eo, he'⟩, rfl, q _ bs hp (I.hok.fresh (Nat.le_succ _))⟩
theorem Dds.zip_mem {K : PySem.W.Frag} {H : Hp} : ∀ {vs : List V} {ds : List PyData} {b : V × PyData}, Dds K H vs ds → b ∈ vs.zip ds → Dd K H b.1 b.2
  | [], _, b, _, h => by simp at h
  | _ :: _, [], b, _, h => by simp at h
  | v :: vs, d :: ds, b, hd, h => by
    cases hd with
    | cons h1 h2 =>
      rw [List.zip_cons_cons] at h
      rcases List.mem_cons.mp h with rfl | h
      · exact h1
      · exact Dds.zip_mem h2 h
theorem Dds.of_pairs {K : PySem.W.Frag} {H : Hp} : ∀ {bs : List (V × PyData)}, (∀ b ∈ bs, Dd K H b.1 b.2) → Dds K H (bs.map (·.1)) (bs.map (·.2))
  | [], _ => .nil
  | b :: bs, h => .cons (h b List.mem_cons_self) (Dds.of_pairs fun c hc => h c (List.mem_cons_of_mem _ hc))
theorem do_sortedM {K : PySem.W.Frag} {W : Wd} {ρ : List Sl} {ν : Nat} {te : TE} {Ψ : Nat → List PyData → Prop} (h : DeL K W ρ ν te fun ν1 xs => PySem.W.AllAlike xs ∧ PySem.W.Sortable xs ∧ (∀ d ∈ xs, d.depth ≤ 10) ∧ ∀ ys : List PyData, ys.Perm xs → Ψ ν1 ys) : Do K W ρ ν (tCB (rSortedM K) (tCons te tNil)) Ψ := fun S B σ H Q st q => by
  refine h S B σ H _ st fun _ v H1 x k1 i1 d1 ⟨xs, ex, h1, h2, h4, hΨ⟩ => ?_
  subst ex
  have st1 := st.keep k1 i1
  cases d1 with
  | lst e ds =>
    refine ⟨_, _, xs, rfl, .inl (.inl (of_hid e).1), (ds.same hid_same).dp, h1, h2, h4, fun p bs hb np => ?_⟩
    have f := st1.fresh np
    have hl := ds.len
    refine q _ _ _ _ (bs.map (·.2)) (k1.trans (st1.new np).1) (st1.new np).2 (k1.none f.2.2 np) upd_same ((Dds.of_pairs fun b hm => ds.zip_mem (hb.mem_iff.mp hm)).same (hid_new np)) (hΨ _ ?_)
    have := hb.map (·.2)
    rwa [List.map_snd_zip (by omega)] at this
theorem alike_ints : ∀ (xs ys : List Int), PySem.W.alikeAll (xs.map .int) (ys.map .int) = true
  | [], _ => by cases ‹List Int› <;> rfl
  | _ :: _, [] => rfl
  | x :: xs, y :: ys => by
    show (PySem.W.alike (.int x) (.int y) && PySem.W.alikeAll (xs.map .int) (ys.map .int)) = true
    rw [alike_ints xs ys]; rfl
/-- where not all rooms are in a lot, some is beside it -/
theorem some_beside : ∀ (n : Nat) (l : List Nat), l.length < n → ∃ r, r < n ∧ r ∉ l
  | 0, l, h => by omega
  | n + 1, l, h => by
    by_cases hn : n ∈ l
    · obtain ⟨r, hr, hl⟩ := some_beside n (l.erase n) (by have := List.length_pos_of_mem hn; rw [List.length_erase_of_mem hn]; omega)
      refine ⟨r, by omega, fun z => hl ((List.mem_erase_of_ne (show r ≠ n by omega)).mpr z)⟩
    · exact ⟨n, by omega, hn⟩
theorem sum_nn : ∀ {ns : List Int}, (∀ x ∈ ns, 0 ≤ x) → 0 ≤ ns.sum
  | [], _ => Int.le_refl 0
  | n :: ns, h => by
    rw [List.sum_cons]
    have := h n List.mem_cons_self
    have := sum_nn fun x hx => h x (List.mem_cons_of_mem _ hx)
    omega
theorem leave_nn {z : List Dc} {lot : List Nat} (h : ∀ x ∈ z, 0 ≤ x.2) : 0 ≤ leaveM z lot := sum_nn fun x hx => by
  obtain ⟨y, hy, rfl⟩ := List.mem_map.mp hx
  exact h y (List.mem_filter.mp hy).1
end Bd
namespace Bd
open PySem PySem.Spec PyProof.Rows L2 HT
theorem lcN {K : PySem.W.Frag} {W : Wd} {ρ : List Sl} {ν : Nat} {Ψ : Nat → List PyData → Prop} {α : Type} {g : TG} {te : TE} {vs : List Nat} {xs : List PyData} (enc : α → PyData) (L : List α) (Pr : α → PyData → Prop) (hl : L.length < sizeLine) (hx : xs = L.map enc)
    (hb : ∀ a ∈ L, ∀ ν1, Dg K W (wipeR ρ vs) ν1 (· ∈ vs) g (enc a) fun ρ2 => De K W ρ2 ν1 te fun _ y => Pr a y)
    (h : ∀ ν2 ys, ys.length = L.length → (∀ (k : Nat) (a : α) (y : PyData), L[k]? = some a → ys[k]? = some y → Pr a y) → Ψ ν2 ys) : LcK K W ρ ν vs g tYes te Ψ xs := by
  subst hx
  refine ⟨fun k _ ys => ys.length = k ∧ ∀ (m : Nat) (a : α) (y : PyData), L[m]? = some a → ys[m]? = some y → Pr a y, ⟨rfl, fun m a y _ e => by simp at e⟩, fun k x ν2 ys hx hI => ?_, fun ν2 ys hI => ?_⟩
  · rw [List.getElem?_map] at hx
    cases cc : L[k]? with
    | none => rw [cc] at hx; cases hx
    | some a =>
      rw [cc] at hx
      cases hx
      have hm := List.mem_of_getElem? cc
      have hk := lt_of_at cc
      refine (hb a hm ν2).imp fun ρ2 hD => dt_yes ⟨fun _ => De.imp hD fun n y py => ⟨by omega, by simp [hI.1], fun m a' y' e1 e2 => ?_⟩, fun z => nomatch z⟩
      by_cases em : m < k
      · rw [List.getElem?_append_left (by omega)] at e2
        exact hI.2 m a' y' e1 e2
      · have hlt := lt_of_at e2
        rw [List.length_append, List.length_singleton, hI.1] at hlt
        have : m = k := by omega
        subst this
        rw [List.getElem?_append_right (by omega), hI.1, Nat.sub_self] at e2
        rw [cc] at e1
        cases e1
        cases e2
        exact py
  · rw [List.length_map] at hI
    exact h ν2 ys hI.1 hI.2
/-- list(range(a, b)) -/
theorem do_lstRg2 {K : PySem.W.Frag} {W : Wd} {ρ : List Sl} {ν : Nat} {ta tb : TE} {Ψ : Nat → List PyData → Prop} (h : DeI K W ρ ν ta fun ν1 i => DeI K W ρ ν1 tb fun ν2 j => RgOk i j ∧ Ψ ν2 (rngD i (j - i).toNat)) : Do K W ρ ν (tLstRg (tRg2 ta tb)) Ψ := fun S B σ H Q st q => by
  refine h S B σ H _ st fun ν1 v H1 x k1 i1 d1 ⟨i, ex, h1⟩ => ?_
  subst ex; cases d1
  have st1 := st.keep k1 i1
  refine h1 S B σ H1 _ st1 fun ν2 w H2 y k2 i2 d2 ⟨j, ey, hr, hΨ⟩ => ?_
  subst ey; cases d2
  have st2 := st1.keep k2 i2
  refine ⟨i, j, rfl, rfl, hr, fun l nl => ?_⟩
  have f := st2.fresh nl
  have e : rgV i j = ((List.range (j - i).toNat).map fun (n : Nat) => i + (n : Int)).map V.int := by
    unfold L2.rgV
    rw [List.map_map]; rfl
  have e2 : rngD i (j - i).toNat = ((List.range (j - i).toNat).map fun (n : Nat) => i + (n : Int)).map PyData.int := by
    unfold rngD
    rw [List.map_map]; rfl
  rw [e]
  rw [e2] at hΨ
  exact q _ _ _ _ _ ((k1.trans k2).trans (st2.new nl).1) (st2.new nl).2 ((k1.trans k2).none f.2.2 nl) upd_same (.ints _) hΨ
end Bd
namespace Bd
open PySem PySem.Spec PyProof.Rows L2 HT
section
variable {X : Cx}
theorem call_strD (hg : X.A.guards = some []) (hu : X.A.units + 64 < cLine) : CallR X (.type "str") (fun xs H Q => ∃ (a : Addr) (d : PyData) (n W : Nat), xs = [.ref a] ∧ Dp X.K H (.ref a) d ∧ Rp d n W ∧ n ≤ 50 ∧ W ≤ 100000 ∧ Q (.str d.shown) H) := by
  intro pins s σ H xs us Q I r h
  obtain ⟨a, d, n, W, rfl, hd, hr, hn, hW, q⟩ := h
  obtain ⟨u, rfl, rx⟩ := vals1 r
  cases (show u = Value.ref a from rx)
  obtain ⟨as, rd⟩ := Dp.reads I d (.ref a) (.ref a) hd rfl
  refine str_of_reads rd hr.sho (PyData.noDict_hsm (PyData.hasDict_of_canLay d hr.lay)) hg (by have := hr.dep; omega) (fun b o e => e) (fun h' u tk hk => ?_) (hr.fits hW)
  exact ⟨.str d.shown, H, I.kept hk, ⟨u, rfl⟩, q⟩
end
section
variable {K : PySem.W.Frag} {W : Wd} {ρ : List Sl} {ν : Nat} {ta tb te : TE} {kb : Nat → Bool → Prop} {Φ : Nat → PyData → Prop}
theorem dB_isN (h : De K W ρ ν te fun ν1 x => kb ν1 (isNoD x)) : DeB K W ρ ν (tOp (fun x y H Q => y = .non ∧ Q (.bl (decide (x = .non))) H) te (tC .non)) kb := de_isN (De.imp h fun _ x p => ⟨_, rfl, p⟩)
theorem de_strD (h : De K W ρ ν te fun ν1 x => ∃ n w, (∃ xs, x = .list xs ∨ x = .tuple xs) ∧ Rp x n w ∧ n ≤ 50 ∧ w ≤ 100000 ∧ Φ ν1 (.str x.shown)) : De K W ρ ν (tCB (fun xs H Q => ∃ (a : Addr) (d : PyData) (n W : Nat), xs = [.ref a] ∧ Dp K H (.ref a) d ∧ Rp d n W ∧ n ≤ 50 ∧ W ≤ 100000 ∧ Q (.str d.shown) H) (tCons te tNil)) Φ := de_repr h
theorem de_neS (h : De K W ρ ν ta fun ν1 x => De K W ρ ν1 tb fun ν2 y => ∃ i j, x = .str i ∧ y = .str j ∧ Φ ν2 (.bool (!decide (i = j)))) : De K W ρ ν (tOp rNe ta tb) Φ := fun S B σ H Q st q => by
  refine h S B σ H _ st fun _ v H1 x k1 i1 d1 h1 => ?_
  refine h1 S B σ H1 _ (st.keep k1 i1) fun _ w H2 y k2 i2 d2 ⟨i, j, ex, ey, hΦ⟩ => ?_
  subst ex ey; cases d1; cases d2
  refine ⟨rfl, ?_⟩
  rw [dec_vs]
  exact q _ _ _ _ (k1.trans k2) i2 (.bl _) hΦ
theorem dB_neS (h : De K W ρ ν ta fun ν1 x => De K W ρ ν1 tb fun ν2 y => ∃ i j, x = .str i ∧ y = .str j ∧ kb ν2 (!decide (i = j))) : DeB K W ρ ν (tOp rNe ta tb) kb := de_neS (De.imp h fun _ x p => De.imp p fun _ y ⟨i, j, e1, e2, p'⟩ => ⟨i, j, e1, e2, _, rfl, p'⟩)
theorem de_slTA {tl th : TO} (h : De K W ρ ν te fun ν1 x => Dp0 K W ρ ν1 tl fun ν2 lo => Dp0 K W ρ ν2 th fun ν3 hi => ∃ xs, x = .tuple xs ∧ Φ ν3 (.tuple (cutD xs lo hi))) : De K W ρ ν (tSl (rSlA K) te tl th) Φ := fun S B σ H Q st q => by
  refine h S B σ H _ st fun _ v H1 x k1 i1 d1 h1 => ?_
  refine h1 S B σ H1 _ (st.keep k1 i1) fun _ lo H2 k2 i2 h2 => ?_
  refine h2 S B σ H2 _ (st.keep (k1.trans k2) i2) fun _ hi H3 k3 i3 ⟨xs, ex, hΦ⟩ => ?_
  subst ex
  have k := (k1.trans k2).trans k3
  have st3 := st.keep k i3
  have d3 := d1.same ((st.keep k1 i1).kpS (k2.trans k3))
  cases d3 with
  | tup e ds =>
    rename_i a vs
    refine ⟨_, _, rfl, same_tup hid_same e, fun hw => ?_, fun hn l nl => ?_⟩
    · refine q _ _ _ _ k i3 (.tup e ds) ?_
      rw [ds.len] at hw
      have : cutD xs lo hi = xs := by
        unfold cutD
        rw [hw.1, hw.2]
        simp
      rwa [this] at hΦ
    · have f := st3.fresh nl
      exact q _ _ _ _ (k.trans (st3.new nl).1) (st3.new nl).2 (.tup (.inl (.inl (hid_of upd_same (by simp [f.1, f.2.1])))) (ds.cut.same (hid_new' nl))) hΦ
theorem dB_inD (h : De K W ρ ν ta fun ν1 x => De K W ρ ν1 tb fun ν2 y => ∃ ys, y = .list ys ∧ SeqAt.shaped x = true ∧ SeqAt.shaped (.list ys) = true ∧ kb ν2 (ys.any fun z => PyData.eqv z x)) : DeB K W ρ ν (tOp (rInD K) ta tb) kb := fun S B σ H Q st q => by
  refine h S B σ H _ st fun _ v H1 x k1 i1 d1 h1 => ?_
  refine h1 S B σ H1 _ (st.keep k1 i1) fun _ w H2 y k2 i2 d2 ⟨ys, ey, s1, s2, hΦ⟩ => ?_
  subst ey
  exact ⟨x, ys, ((d1.same ((st.keep k1 i1).kpS k2)).same hid_same).dp, (d2.same hid_same).dp, s1, s2, q _ _ _ _ (k1.trans k2) i2 (.bl _) ⟨_, rfl, hΦ⟩⟩
end
end Bd
namespace Bd
open PySem PySem.Spec PyProof.Rows L2 HT
theorem nOwn_none {ρ : List Sl} (h : ownA ρ = []) (i : Nat) : nOwn ρ i = true := by
  unfold nOwn
  cases c : ρ[i]? with
  | none => rfl
  | some s =>
    cases s with
    | own a xs =>
      have : a ∈ ownA ρ := mem_ownA.mpr ⟨i, xs, c⟩
      rw [h] at this; cases this
    | un => rfl
    | d x => rfl
    | «at» v => rfl
theorem own_setO {ρ : List Sl} (h : ownA ρ = []) {i : Nat} {a : Addr} {xs : List PyData} {j : Nat} {c : Addr} {ys : List PyData} (e : (ρ.set i (.own a xs))[j]? = some (.own c ys)) : i = j ∧ c = a ∧ ys = xs := by
  rcases get_set e with ⟨z1, z⟩ | ⟨_, e⟩
  · cases z; exact ⟨z1, rfl, rfl⟩
  · have : c ∈ ownA ρ := mem_ownA.mpr ⟨_, _, e⟩
    rw [h] at this; cases this
/-- four slots set at once: data, a new list, data, a new list -/
theorem Sta.two {K : PySem.W.Frag} {W : Wd} {S : List Addr} {B0 : Hp} {ρ : List Sl} {σ : L2.St} {H H' : Hp} {ν ν' : Nat} (st : Sta K W S B0 ρ σ H ν) (ho : ownA ρ = []) (hl : 6 < ρ.length) {r a b : Addr} {v1 v2 : V} {x1 x2 : PyData} {B E : List Int}
    (k : Kp W.J H H') (inv : W.I ν' H') (na : H a = none) (nb : H b = none) (ab : a ≠ b) (ea : H' a = some (.lst (B.map V.int))) (eb : H' b = some (.lst (E.map V.int)))
    (d1 : Dd K (hid (r :: a :: b :: (S ++ ownA ρ)) H') v1 x1) (d2 : Dd K (hid (r :: a :: b :: (S ++ ownA ρ)) H') v2 x2) :
    Sta K W S B0 ((((ρ.set 3 (.d x1)).set 4 (.own a (B.map .int))).set 5 (.d x2)).set 6 (.own b (E.map .int))) ((((σ.set 3 (some v1)).set 4 (some (.ref a))).set 5 (some v2)).set 6 (some (.ref b))) H' ν' := by
  have fa := st.fresh na
  have fb := st.fresh nb
  have noB : ∀ {c}, H c = none → c ∉ W.J → B0 c = none := fun {c} n hj => by
    cases e : B0 c with
    | none => rfl
    | some o =>
      have := (of_hid (st.fr c o e)).1
      rw [n] at this; cases this
  have G : ∀ (T : List Addr), (∀ c ∈ T, H c = none) → ∀ (j : Nat) (x : PyData) (v : V), ρ[j]? = some (.d x) → σ[j]? = some (some v) → Dd K (hid (T ++ S) H') v x := fun T hT j x v ej ev => by
    obtain ⟨u, eu, v', e1, d⟩ := st.sl j _ ej
    subst e1
    rw [ev] at eu
    have eu := Option.some.inj (Option.some.inj eu)
    subst eu
    refine d.same fun c o ec => ?_
    obtain ⟨q1, q2⟩ := of_hid ec
    rw [ho, List.append_nil] at q2
    refine hid_of (k.at q1 fun z => q2 (st.js c z)) fun z => ?_
    rcases List.mem_append.mp z with h | h
    · rw [hT c h] at q1; cases q1
    · exact q2 h
  rw [ho, List.append_nil] at d1 d2
  have sub : ∀ {T : List Addr} {v : V} {x : PyData}, Dd K (hid (r :: a :: b :: S) H') v x → (∀ c ∈ T, c ∈ r :: a :: b :: S) → Dd K (hid T H') v x := fun {T v x} d h => d.same (hid_sub h)
  have st1 := st.keep k inv
  have ow2 : ownA (ρ.set 3 (.d x1)) = [] := by rw [ownA_set (nOwn_none ho 3) rfl]; exact ho
  have st2 := st1.setD (i := 3) (nOwn_none ho 3) (sub d1 (T := S ++ ownA ρ) (by rw [ho, List.append_nil]; intro c hc; simp [hc]))
  have lt : ∀ {i : Nat}, i ≤ 6 → i < σ.length := fun h => by rw [st.len]; omega
  have st3 := st2.setO (i := 4) (a := a) (vs := B.map V.int) (xs := B.map .int) (nOwn_none ow2 4) (by rw [List.length_set]; omega) fa.1 (by rw [ow2]; simp) (noB na fa.2.2) ea (Dds.ints _) (fun j x e ne v ev => by
    rw [ow2, List.append_nil]
    rcases get_set e with ⟨z1, z2⟩ | ⟨z1, e⟩
    · subst z1
      cases z2
      rw [List.getElem?_set_self (lt (by omega))] at ev
      cases ev
      exact sub d1 fun c hc => by
        rcases List.mem_cons.mp hc with h | h <;> simp [h]
    · rw [List.getElem?_set_ne z1] at ev
      exact G [a] (fun c hc => by rw [List.mem_singleton] at hc; rw [hc]; exact na) j x v e ev) (fun j c ys e => by
    have : c ∈ ownA (ρ.set 3 (.d x1)) := mem_ownA.mpr ⟨_, _, e⟩
    rw [ow2] at this; cases this)
  have ow3 : ∀ c ∈ ownA ((ρ.set 3 (.d x1)).set 4 (.own a (B.map .int))), c = a := fun c hc => by
    obtain ⟨j, ys, e⟩ := mem_ownA.mp hc
    exact (own_setO ow2 e).2.1
  have n5 : nOwn ((ρ.set 3 (.d x1)).set 4 (.own a (B.map .int))) 5 = true := by
    unfold nOwn
    rw [List.getElem?_set_ne (by decide)]
    exact nOwn_none ow2 5
  have st4 := st3.setD (i := 5) n5 (sub d2 (T := S ++ ownA ((ρ.set 3 (.d x1)).set 4 (.own a (B.map .int)))) fun c hc => by
    rcases List.mem_append.mp hc with h | h
    · simp [h]
    · simp [ow3 c h])
  have eo4 : ownA (((ρ.set 3 (.d x1)).set 4 (.own a (B.map .int))).set 5 (.d x2)) = ownA ((ρ.set 3 (.d x1)).set 4 (.own a (B.map .int))) := ownA_set n5 rfl
  have n6 : nOwn (((ρ.set 3 (.d x1)).set 4 (.own a (B.map .int))).set 5 (.d x2)) 6 = true := by
    unfold nOwn
    rw [List.getElem?_set_ne (by decide), List.getElem?_set_ne (by decide)]
    exact nOwn_none ow2 6
  refine st4.setO (i := 6) (a := b) (vs := E.map V.int) (xs := E.map .int) n6 (by rw [List.length_set, List.length_set, List.length_set]; omega) fb.1 (fun z => ?_) (noB nb fb.2.2) eb (Dds.ints _) (fun j x e ne v ev => ?_) (fun j c ys e us eus => ?_)
  · rw [eo4] at z
    exact ab (ow3 b z).symm
  · have sm : ∀ c ∈ b :: (S ++ ownA (((ρ.set 3 (.d x1)).set 4 (.own a (B.map .int))).set 5 (.d x2))), c = b ∨ c = a ∨ c ∈ S := fun c hc => by
      rcases List.mem_cons.mp hc with h | h
      · exact .inl h
      · rcases List.mem_append.mp h with h | h
        · exact .inr (.inr h)
        · rw [eo4] at h
          exact .inr (.inl (ow3 c h))
    rcases get_set e with ⟨z1, z2⟩ | ⟨z1, e⟩
    · subst z1
      cases z2
      rw [List.getElem?_set_self (by rw [List.length_set, List.length_set]; exact lt (by omega))] at ev
      cases ev
      exact sub d2 fun c hc => by rcases sm c hc with h | h | h <;> simp [h]
    rw [List.getElem?_set_ne z1] at ev
    rcases get_set e with ⟨_, z2⟩ | ⟨z2, e⟩
    · cases z2
    rw [List.getElem?_set_ne z2] at ev
    rcases get_set e with ⟨z3, z4⟩ | ⟨z3, e⟩
    · subst z3
      cases z4
      rw [List.getElem?_set_self (lt (by omega))] at ev
      cases ev
      exact sub d1 fun c hc => by rcases sm c hc with h | h | h <;> simp [h]
    rw [List.getElem?_set_ne z3] at ev
    exact (G [b, a] (fun c hc => by
      simp only [List.mem_cons, List.not_mem_nil, or_false] at hc
      rcases hc with rfl | rfl
      · exact nb
      · exact na) j x v e ev).same (hid_sub fun c hc => by rcases sm c hc with h | h | h <;> simp [h])
  · rcases get_set e with ⟨_, z⟩ | ⟨_, e⟩
    · cases z
    obtain ⟨_, rfl, rfl⟩ := own_setO ow2 e
    rw [ea] at eus
    cases eus
    exact Dds.ints _
end Bd
namespace Bd
open PySem PySem.Spec PyProof.Rows L2 HT
/-- four slots set at once: data, a new list, data, a new list -/
theorem Sta.twoAt {K : PySem.W.Frag} {W : Wd} {S : List Addr} {B0 : Hp} {ρ : List Sl} {σ : L2.St} {H H' : Hp} {ν ν' : Nat} (st : Sta K W S B0 ρ σ H ν) (ho : ownA ρ = []) (i : Nat) (hl : i + 3 < ρ.length) {r a b : Addr} {v1 v2 : V} {x1 x2 : PyData} {B E : List Int}
    (k : Kp W.J H H') (inv : W.I ν' H') (na : H a = none) (nb : H b = none) (ab : a ≠ b) (ea : H' a = some (.lst (B.map V.int))) (eb : H' b = some (.lst (E.map V.int)))
    (d1 : Dd K (hid (r :: a :: b :: (S ++ ownA ρ)) H') v1 x1) (d2 : Dd K (hid (r :: a :: b :: (S ++ ownA ρ)) H') v2 x2) :
    Sta K W S B0 ((((ρ.set i (.d x1)).set (i + 1) (.own a (B.map .int))).set (i + 2) (.d x2)).set (i + 3) (.own b (E.map .int))) ((((σ.set i (some v1)).set (i + 1) (some (.ref a))).set (i + 2) (some v2)).set (i + 3) (some (.ref b))) H' ν' := by
  have fa := st.fresh na
  have fb := st.fresh nb
  have noB : ∀ {c}, H c = none → c ∉ W.J → B0 c = none := fun {c} n hj => by
    cases e : B0 c with
    | none => rfl
    | some o =>
      have := (of_hid (st.fr c o e)).1
      rw [n] at this; cases this
  have G : ∀ (T : List Addr), (∀ c ∈ T, H c = none) → ∀ (j : Nat) (x : PyData) (v : V), ρ[j]? = some (.d x) → σ[j]? = some (some v) → Dd K (hid (T ++ S) H') v x := fun T hT j x v ej ev => by
    obtain ⟨u, eu, v', e1, d⟩ := st.sl j _ ej
    subst e1
    rw [ev] at eu
    have eu := Option.some.inj (Option.some.inj eu)
    subst eu
    refine d.same fun c o ec => ?_
    obtain ⟨q1, q2⟩ := of_hid ec
    rw [ho, List.append_nil] at q2
    refine hid_of (k.at q1 fun z => q2 (st.js c z)) fun z => ?_
    rcases List.mem_append.mp z with h | h
    · rw [hT c h] at q1; cases q1
    · exact q2 h
  rw [ho, List.append_nil] at d1 d2
  have sub : ∀ {T : List Addr} {v : V} {x : PyData}, Dd K (hid (r :: a :: b :: S) H') v x → (∀ c ∈ T, c ∈ r :: a :: b :: S) → Dd K (hid T H') v x := fun {T v x} d h => d.same (hid_sub h)
  have st1 := st.keep k inv
  have ow2 : ownA (ρ.set i (.d x1)) = [] := by rw [ownA_set (nOwn_none ho i) rfl]; exact ho
  have st2 := st1.setD (i := i) (nOwn_none ho i) (sub d1 (T := S ++ ownA ρ) (by rw [ho, List.append_nil]; intro c hc; simp [hc]))
  have lt : ∀ {j : Nat}, j ≤ i + 3 → j < σ.length := fun h => by rw [st.len]; omega
  have st3 := st2.setO (i := i + 1) (a := a) (vs := B.map V.int) (xs := B.map .int) (nOwn_none ow2 (i + 1)) (by rw [List.length_set]; omega) fa.1 (by rw [ow2]; simp) (noB na fa.2.2) ea (Dds.ints _) (fun j x e ne v ev => by
    rw [ow2, List.append_nil]
    rcases get_set e with ⟨z1, z2⟩ | ⟨z1, e⟩
    · subst z1
      cases z2
      rw [List.getElem?_set_self (lt (by omega))] at ev
      cases ev
      exact sub d1 fun c hc => by
        rcases List.mem_cons.mp hc with h | h <;> simp [h]
    · rw [List.getElem?_set_ne z1] at ev
      exact G [a] (fun c hc => by rw [List.mem_singleton] at hc; rw [hc]; exact na) j x v e ev) (fun j c ys e => by
    have : c ∈ ownA (ρ.set i (.d x1)) := mem_ownA.mpr ⟨_, _, e⟩
    rw [ow2] at this; cases this)
  have ow3 : ∀ c ∈ ownA ((ρ.set i (.d x1)).set (i + 1) (.own a (B.map .int))), c = a := fun c hc => by
    obtain ⟨j, ys, e⟩ := mem_ownA.mp hc
    exact (own_setO ow2 e).2.1
  have n5 : nOwn ((ρ.set i (.d x1)).set (i + 1) (.own a (B.map .int))) (i + 2) = true := by
    unfold nOwn
    rw [List.getElem?_set_ne (by omega)]
    exact nOwn_none ow2 (i + 2)
  have st4 := st3.setD (i := i + 2) n5 (sub d2 (T := S ++ ownA ((ρ.set i (.d x1)).set (i + 1) (.own a (B.map .int)))) fun c hc => by
    rcases List.mem_append.mp hc with h | h
    · simp [h]
    · simp [ow3 c h])
  have eo4 : ownA (((ρ.set i (.d x1)).set (i + 1) (.own a (B.map .int))).set (i + 2) (.d x2)) = ownA ((ρ.set i (.d x1)).set (i + 1) (.own a (B.map .int))) := ownA_set n5 rfl
  have n6 : nOwn (((ρ.set i (.d x1)).set (i + 1) (.own a (B.map .int))).set (i + 2) (.d x2)) (i + 3) = true := by
    unfold nOwn
    rw [List.getElem?_set_ne (by omega), List.getElem?_set_ne (by omega)]
    exact nOwn_none ow2 (i + 3)
  refine st4.setO (i := i + 3) (a := b) (vs := E.map V.int) (xs := E.map .int) n6 (by rw [List.length_set, List.length_set, List.length_set]; omega) fb.1 (fun z => ?_) (noB nb fb.2.2) eb (Dds.ints _) (fun j x e ne v ev => ?_) (fun j c ys e us eus => ?_)
  · rw [eo4] at z
    exact ab (ow3 b z).symm
  · have sm : ∀ c ∈ b :: (S ++ ownA (((ρ.set i (.d x1)).set (i + 1) (.own a (B.map .int))).set (i + 2) (.d x2))), c = b ∨ c = a ∨ c ∈ S := fun c hc => by
      rcases List.mem_cons.mp hc with h | h
      · exact .inl h
      · rcases List.mem_append.mp h with h | h
        · exact .inr (.inr h)
        · rw [eo4] at h
          exact .inr (.inl (ow3 c h))
    rcases get_set e with ⟨z1, z2⟩ | ⟨z1, e⟩
    · subst z1
      cases z2
      rw [List.getElem?_set_self (by rw [List.length_set, List.length_set]; exact lt (by omega))] at ev
      cases ev
      exact sub d2 fun c hc => by rcases sm c hc with h | h | h <;> simp [h]
    rw [List.getElem?_set_ne z1] at ev
    rcases get_set e with ⟨_, z2⟩ | ⟨z2, e⟩
    · cases z2
    rw [List.getElem?_set_ne z2] at ev
    rcases get_set e with ⟨z3, z4⟩ | ⟨z3, e⟩
    · subst z3
      cases z4
      rw [List.getElem?_set_self (lt (by omega))] at ev
      cases ev
      exact sub d1 fun c hc => by rcases sm c hc with h | h | h <;> simp [h]
    rw [List.getElem?_set_ne z3] at ev
    exact (G [b, a] (fun c hc => by
      simp only [List.mem_cons, List.not_mem_nil, or_false] at hc
      rcases hc with rfl | rfl
      · exact nb
      · exact na) j x v e ev).same (hid_sub fun c hc => by rcases sm c hc with h | h | h <;> simp [h])
  · rcases get_set e with ⟨_, z⟩ | ⟨_, e⟩
    · cases z
    obtain ⟨_, rfl, rfl⟩ := own_setO ow2 e
    rw [ea] at eus
    cases eus
    exact Dds.ints _

theorem Dds.erase {K : PySem.W.Frag} {H : Hp} {vs : List V} {ds : List PyData} (h : Dds K H vs ds) (k : Nat) : Dds K H (vs.eraseIdx k) (ds.eraseIdx k) := by
  rw [List.eraseIdx_eq_take_drop_succ, List.eraseIdx_eq_take_drop_succ]
  exact (h.take k).app (h.drop (k + 1))
section
variable {K : PySem.W.Frag} {W : Wd} {ρ : List Sl} {ν : Nat} {ta tb te : TE} {P : Po} {kb : Nat → Bool → Prop}
theorem ds_popI {i : Nat} {a : Addr} {xs : List PyData} (ho : ρ[i]? = some (.own a xs)) (h : DeI K W ρ ν te fun ν1 c => ∃ k : Nat, c = (k : Int) ∧ k < xs.length ∧ k < 2 ^ 62 ∧ P.nx ν1 (ρ.set i (.own a (xs.eraseIdx k)))) : Ds K W ρ ν (tDrop (tBM K "list" rPopAt (tVar i) (tCons te tNil))) P := fun S B σ H D st e => by
  obtain ⟨w, ew, e1, vs, e2, d⟩ := st.sl i _ ho
  subst e1
  refine ⟨_, ew, .inl ⟨rfl, _, .inl (.inl e2)⟩, h S B σ H _ st fun ν1 v H1 x k1 i1 d1 ⟨c, ex, k, ec, hk, hk2, hP⟩ => ?_⟩
  subst ex; cases d1; subst ec
  have st1 := st.keep k1 i1
  have hv : k < vs.length := by rw [d.len]; exact hk
  refine ⟨a, vs, (k : Int), k, vs[k], rfl, rfl, k1.at e2 (st.ownJ (mem_ownA.mpr ⟨_, _, ho⟩)), by omega, by omega, ?_, List.getElem?_eq_getElem hv, e.nx _ _ _ _ (st1.wrO ho ((d.same (st.kpS k1)).erase k)) hP⟩
  have := seqIndex_at (i := (k : Int)) (n := vs.length) (by omega) (by omega)
  rwa [Int.toNat_natCast] at this
theorem dB_allL (h : DeL K W ρ ν te fun ν1 xs => ∃ bs : List Bool, xs = bs.map .bool ∧ kb ν1 (bs.all id)) : DeB K W ρ ν (tCB (rAll K) (tCons te tNil)) kb := de_all (De.imp h fun _ x ⟨xs, e, bs, e2, p⟩ => ⟨bs, by rw [e, e2], _, rfl, p⟩)
theorem dB_neBB (h : DeB K W ρ ν ta fun ν1 a => DeB K W ρ ν1 tb fun ν2 b => kb ν2 (!decide (a = b))) : DeB K W ρ ν (tOp rNe ta tb) kb := fun S B σ H Q st q => by
  refine h S B σ H _ st fun _ v H1 x k1 i1 d1 ⟨i, ex, h1⟩ => ?_
  refine h1 S B σ H1 _ (st.keep k1 i1) fun _ w H2 y k2 i2 d2 ⟨j, ey, hΦ⟩ => ?_
  subst ex ey; cases d1; cases d2
  refine ⟨rfl, ?_⟩
  have : decide (V.bl i = V.bl j) = decide (i = j) := by
    by_cases c : i = j
    · subst c; simp
    · rw [decide_eq_false c, decide_eq_false]
      intro z; exact c (V.bl.inj z)
  rw [this]
  exact q _ _ _ _ (k1.trans k2) i2 (.bl _) ⟨_, rfl, hΦ⟩
/-- a comprehension of which nothing is told but what each thing is -/
theorem lcQ {Ψ : Nat → List PyData → Prop} {α : Type} {g : TG} {tt : TT} {te : TE} {vs : List Nat} {xs : List PyData} (enc : α → PyData) (L : List α) (Pr : PyData → Prop) (hl : L.length < sizeLine) (hx : xs = L.map enc)
    (hb : ∀ a ∈ L, ∀ ν1, Dg K W (wipeR ρ vs) ν1 (· ∈ vs) g (enc a) fun ρ2 => Dt K W ρ2 ν1 tt fun ν2 b => b = true → De K W ρ2 ν2 te fun _ y => Pr y)
    (h : ∀ ν2 ys, ys.length ≤ L.length → (∀ y ∈ ys, Pr y) → Ψ ν2 ys) : LcK K W ρ ν vs g tt te Ψ xs := by
  subst hx
  refine ⟨fun k _ ys => ys.length ≤ k ∧ ∀ y ∈ ys, Pr y, ⟨Nat.le_refl _, fun y hy => by cases hy⟩, fun k x ν2 ys hx hI => ?_, fun ν2 ys hI => ?_⟩
  · rw [List.getElem?_map] at hx
    cases cc : L[k]? with
    | none => rw [cc] at hx; cases hx
    | some a =>
      rw [cc] at hx
      cases hx
      have hm := List.mem_of_getElem? cc
      have hk := lt_of_at cc
      refine (hb a hm ν2).imp fun ρ2 hD => Dt.imp hD fun ν3 b hy => ⟨fun e => De.imp (hy e) fun n y py => ⟨by have := hI.1; omega, by rw [List.length_append, List.length_singleton]; have := hI.1; omega, fun z hz => ?_⟩, fun e => ⟨by have := hI.1; omega, hI.2⟩⟩
      rcases List.mem_append.mp hz with h | h
      · exact hI.2 z h
      · rw [List.mem_singleton] at h
        rw [h]; exact py
  · rw [List.length_map] at hI
    exact h ν2 ys hI.1 hI.2
end
end Bd
namespace Bd
open PySem PySem.Spec PyProof.Rows L2 HT
section
variable {K : PySem.W.Frag} {W : Wd} {S : List Addr} {B B' : Hp} {ρ : List Sl} {σ : L2.St} {H H' : Hp} {ν ν' : Nat} {D : Addr}
/-- a hidden list is written -/
theorem Sta.wrD (a1 : Sta K W (D :: S) B ρ σ H ν) (nJ : D ∉ W.J) (no : D ∉ ownA ρ) (gD : W.G D = none) (u : HO) : Sta K W (D :: S) (hid (W.J ++ ownA ρ) (upd H D u)) ρ σ (upd H D u) ν := by
  refine ⟨a1.len, fun n s e => ?_, a1.nd, a1.out, a1.js, fun _ _ z => z, W.hI (fun a ha => upd_ne fun (z : a = D) => nJ (by rw [← z]; exact ha)) a1.inv, fun a ha => ?_, fun b o eb => ?_⟩
  · obtain ⟨w, ew, h⟩ := a1.sl n s e
    refine ⟨w, ew, ?_⟩
    have sm : Same (hid (D :: S ++ ownA ρ) H) (hid (D :: S ++ ownA ρ) (upd H D u)) := fun b o eb => by
      obtain ⟨e1, e2⟩ := of_hid eb
      exact hid_of (by rw [upd_ne (fun (z : b = D) => e2 (by simp [z]))]; exact e1) e2
    cases s with
    | un => trivial
    | d x => obtain ⟨v, e1, d⟩ := h; exact ⟨v, e1, d.same sm⟩
    | own b ys =>
      obtain ⟨e1, us, e2, d⟩ := h
      exact ⟨e1, us, by rw [upd_ne (fun (z : b = D) => no (by rw [← z]; exact mem_ownA.mpr ⟨_, _, e⟩))]; exact e2, d.same sm⟩
    | «at» v => exact h
  · by_cases eD : a = D
    · subst eD
      refine .inr ⟨_, hid_of upd_same fun z => ?_⟩
      rcases List.mem_append.mp z with z | z
      · exact nJ z
      · exact no z
    · rcases a1.al a ha with z | ⟨o, z⟩
      · exact .inl z
      · obtain ⟨e1, e2⟩ := of_hid (a1.fr a o z)
        exact .inr ⟨o, hid_of (by rw [upd_ne eD]; exact e1) e2⟩
  · have h1 := a1.fr b o (a1.gb b o eb)
    obtain ⟨e1, e2⟩ := of_hid h1
    exact hid_of (by rw [upd_ne (fun (z : b = D) => by rw [z, gD] at eb; cases eb)]; exact e1) e2
end
section
variable {K : PySem.W.Frag} {W : Wd} {ρ : List Sl} {ν : Nat} {Ψ : Nat → List PyData → Prop}
theorem yes_go {σ : L2.St} {H : Hp} {Q : Bool → Hp → Prop} (h : Q true H) : tYes σ H Q := h
/-- two clauses, no tests -/
theorem do_lc2 {wi wi1 : TI} {g g1 : TG} {te : TE} {vs vs1 : List Nat} (hv : ∀ v ∈ vs, nOwn ρ v = true)
    (h : Di K W ρ ν wi fun ν1 xs => ∃ Iv : Nat → List PyData → Prop, Iv 0 [] ∧ (∀ k x ν2 ys, xs[k]? = some x → Iv k ys → Dg K W (wipeR ρ vs) ν2 (· ∈ vs) g x fun ρ2 => (∀ v ∈ vs1, nOwn ρ2 v = true) ∧ Di K W ρ2 ν2 wi1 fun ν3 xs1 => ∃ Jv : Nat → List PyData → Prop, Jv 0 ys ∧
      (∀ j x1 ν4 zs, xs1[j]? = some x1 → Jv j zs → Dg K W (wipeR ρ2 vs1) ν4 (· ∈ vs1) g1 x1 fun ρ3 => De K W ρ3 ν4 te fun _ y => zs.length < sizeLine ∧ Jv (j + 1) (zs ++ [y])) ∧ ∀ zs, Jv xs1.length zs → Iv (k + 1) zs) ∧ ∀ ν2 ys, Iv xs.length ys → Ψ ν2 ys) :
    Do K W ρ ν (tLc2 wi g tYes wi1 g1 tYes te vs vs1) Ψ := fun S B σ H Q st q => by
  refine h S B σ H _ st fun νa J H1 xs k1 i1 it ⟨Iv, h0, hs, hd⟩ D nD => ?_
  have st1 := st.keep k1 i1
  have fD := st1.fresh nD
  have gD : W.G D = none := by
    cases c : W.G D with
    | none => rfl
    | some o =>
      have := (of_hid (st1.fr D o (st1.gb D o c))).1
      rw [nD] at this; cases this
  let Pv : Nat → Hp → Prop := fun i H' => ∃ ν' acc ys, Sta K W (D :: S) (hid (W.J ++ ownA ρ) H') ρ σ H' ν' ∧ H' D = some (.lst acc) ∧ Dds K (hid (D :: (S ++ ownA ρ)) H') acc ys ∧ Iv i ys ∧ Kp W.J H1 H'
  have st0 : Sta K W (D :: S) (hid (W.J ++ ownA ρ) (upd H1 D (.lst []))) ρ σ (upd H1 D (.lst [])) νa := by
    obtain ⟨kn, inn⟩ := st1.new (o := .lst []) nD
    have s2 := st1.keep kn inn
    refine ⟨s2.len, fun n s e => ?_, s2.nd, fun a ha z => ?_, fun a ha => List.mem_cons_of_mem _ (s2.js a ha), fun _ _ z => z, s2.inv, fun a ha => ?_, s2.gb.trans s2.fr⟩
    · obtain ⟨u, eu, h⟩ := st1.sl n s e
      refine ⟨u, eu, ?_⟩
      cases s with
      | un => trivial
      | d x => obtain ⟨v, e1, d⟩ := h; exact ⟨v, e1, d.same (hid_new nD)⟩
      | own b ys =>
        obtain ⟨e1, us, e2, d⟩ := h
        exact ⟨e1, us, by rw [upd_ne (fun z => by rw [z, nD] at e2; cases e2)]; exact e2, d.same (hid_new nD)⟩
      | «at» v => exact h
    · rcases List.mem_cons.mp z with rfl | z
      · exact fD.2.1 ha
      · exact st1.out a ha z
    · rcases List.mem_cons.mp ha with rfl | ha
      · exact .inr ⟨_, hid_of upd_same (by simp [fD.2.2, fD.2.1])⟩
      · rcases s2.al a ha with z | ⟨o, z⟩
        · exact .inl z
        · exact .inr ⟨o, s2.fr a o z⟩
  refine ⟨fun i m H' => m = xs.length - i ∧ i ≤ xs.length ∧ Pv i H', ⟨xs.length, by simp, Nat.zero_le _, _, [], [], st0, upd_same, .nil, h0, (st1.new nD).1⟩, ?_⟩
  rintro i m H2 ⟨rfl, hi, ν2, acc, ys, st2, eD, dA, hI, k2⟩
  have bb : Same (hid (S ++ ownA ρ) H1) (hid (D :: (S ++ ownA ρ)) H2) := fun b o eb => by
    obtain ⟨e1, e2⟩ := of_hid (st1.kpS k2 b o eb)
    refine hid_of e1 ?_
    rw [List.mem_cons]
    rintro (rfl | z)
    · have := (of_hid eb).1; rw [nD] at this; cases this
    · exact e2 z
  have ik := it i H2 (bb.trans hid_same)
  by_cases hlt : i < xs.length
  · right
    obtain ⟨g1', g2⟩ := ik.2 _ (List.getElem?_eq_getElem hlt)
    refine ⟨g1', Pv (i + 1), fun H' p' => ⟨xs.length - (i + 1), by omega, rfl, hlt, p'⟩, fun x H3 y => ?_⟩
    obtain ⟨s3, g3⟩ := g2 x H3 y
    have i3 : W.I ν2 H3 := W.hI (fun a ha => by obtain ⟨o, eo⟩ := W.hJ st2.inv a ha; rw [eo, s3 _ _ eo]) st2.inv
    have st3 := st2.keep (Kp.same s3) i3
    have dx := g3 (D :: (S ++ ownA ρ)) bb st2.alive
    have hw := wipeR_own (ρ := ρ) hv
    refine hs i _ ν2 ys (List.getElem?_eq_getElem hlt) hI (D :: S) _ _ H3 x _ (st3.wipe hv) (by rw [hw.1]; exact dx) fun ρ4 σ4 st4 eo4 e4 h4 => ?_
    refine ⟨wipe_eq (by rw [e4.1, wipe_length]) fun n hn => e4.2 n hn, ?_⟩
    refine yes_go ?_
    refine ifT rfl ?_
    obtain ⟨hv1, h4⟩ := h4
    have eo : ownA ρ4 = ownA ρ := eo4.trans hw.1
    refine h4 (D :: S) _ σ4 H3 _ st4 fun ν5 J1 H5 xs1 k5 i5 it1 ⟨Jv, j0, js, jd⟩ => ?_
    have stI0 := st4.keep k5 i5
    have stO0 := st3.keep k5 i5
    have eD5 : H5 D = some (.lst acc) := k5.at (s3 _ _ eD) fD.2.2
    have dA5 : Dds K (hid (D :: (S ++ ownA ρ)) H5) acc ys := by
      have z := st3.kpS (T := ownA ρ) k5
      have z2 : Same (hid (D :: (S ++ ownA ρ)) H2) (hid (D :: (S ++ ownA ρ)) H3) := Kp.same s3
      exact dA.same (z2.trans z)
    have k15 : Kp W.J H1 H5 := (k2.trans (Kp.same s3)).trans k5
    let Pj : Nat → Hp → Prop := fun j H' => ∃ ν' acc zs, Sta K W (D :: S) (hid (W.J ++ ownA ρ) H') ρ σ H' ν' ∧ Sta K W (D :: S) (hid (W.J ++ ownA ρ4) H') ρ4 σ4 H' ν' ∧ H' D = some (.lst acc) ∧ Dds K (hid (D :: (S ++ ownA ρ)) H') acc zs ∧ Jv j zs ∧ Kp W.J H1 H' ∧ Same (hid (D :: S ++ ownA ρ4) H5) (hid (D :: (S ++ ownA ρ)) H')
    refine ⟨fun j m H' => m = xs1.length - j ∧ j ≤ xs1.length ∧ Pj j H', ⟨xs1.length, by simp, Nat.zero_le _, ν5, acc, ys, stO0.rebase, stI0.rebase, eD5, dA5, j0, k15, by rw [eo]; exact fun _ _ z => z⟩, ?_⟩
    rintro j m H6 ⟨rfl, hj, ν6, acc6, zs, sO, sI, eD6, dA6, hJ, k16, bb6⟩
    have jk := it1 j H6 (bb6.trans hid_same)
    by_cases hlt1 : j < xs1.length
    · right
      obtain ⟨f1, f2⟩ := jk.2 _ (List.getElem?_eq_getElem hlt1)
      refine ⟨f1, Pj (j + 1), fun H' p' => ⟨xs1.length - (j + 1), by omega, rfl, hlt1, p'⟩, fun x1 H7 y1 => ?_⟩
      obtain ⟨s7, g7⟩ := f2 x1 H7 y1
      have i7 : W.I ν6 H7 := W.hI (fun a ha => by obtain ⟨o, eo⟩ := W.hJ sI.inv a ha; rw [eo, s7 _ _ eo]) sI.inv
      have sI7 := sI.keep (Kp.same s7) i7
      have sO7 := sO.keep (Kp.same s7) i7
      have dx1 := g7 (D :: S ++ ownA ρ4) (by rw [eo]; rw [eo] at bb6; exact bb6) sI.alive
      have hw1 := wipeR_own (ρ := ρ4) hv1
      refine js j _ ν6 zs (List.getElem?_eq_getElem hlt1) hJ (D :: S) _ _ H7 x1 _ (sI7.wipe hv1) (by rw [hw1.1]; exact dx1) fun ρ8 σ8 st8 eo8 e8 h8 => ?_
      refine ⟨wipe_eq (by rw [e8.1, wipe_length]) fun n hn => e8.2 n hn, ?_⟩
      refine yes_go ?_
      refine ifT rfl ?_
      refine h8 (D :: S) _ σ8 H7 _ st8 fun ν9 v H9 z k9 i9 d9 ⟨hl, hJ'⟩ => ?_
      have sO9 := sO7.keep k9 i9
      have sI9 := sI7.keep k9 i9
      have eD9 : H9 D = some (.lst acc6) := k9.at (s7 _ _ eD6) fD.2.2
      have nO4 : D ∉ ownA ρ4 := by rw [eo]; exact fD.2.1
      have e8' : ownA ρ8 = ownA ρ := (eo8.trans hw1.1).trans eo
      rw [e8'] at d9
      have z67 : Same (hid (D :: (S ++ ownA ρ)) H6) (hid (D :: (S ++ ownA ρ)) H9) := (show Same (hid (D :: (S ++ ownA ρ)) H6) (hid (D :: (S ++ ownA ρ)) H7) from Kp.same s7).trans (sO7.kpS (T := ownA ρ) k9)
      have smD : ∀ {u : HO}, Same (hid (D :: (S ++ ownA ρ)) H9) (hid (D :: (S ++ ownA ρ)) (upd H9 D u)) := fun b o eb => by
        obtain ⟨e1, e2⟩ := of_hid eb
        exact hid_of (by rw [upd_ne (fun (z : b = D) => e2 (by simp [z]))]; exact e1) e2
      refine ⟨acc6, eD9, by rw [(dA6).len]; exact hl, ν9, acc6 ++ [v], zs ++ [z], sO9.wrD fD.2.2 fD.2.1 gD _, sI9.wrD fD.2.2 nO4 gD _, upd_same, ((dA6.same z67).snoc d9).same smD, hJ', fun b o eb => ?_, (bb6.trans z67).trans smD⟩
      have h1 := ((k16.trans (Kp.same s7)).trans k9) b o eb
      obtain ⟨e1, e2⟩ := of_hid h1
      have hb1 := (of_hid eb).1
      exact hid_of (by rw [upd_ne (fun (z : b = D) => by rw [z, nD] at hb1; cases hb1)]; exact e1) e2
    · left
      have ej : j = xs1.length := by omega
      subst ej
      exact ⟨jk.1 (Nat.le_refl _), ν6, acc6, zs, sO, eD6, dA6, jd zs hJ, k16⟩
  · left
    have ei : i = xs.length := by omega
    subst ei
    refine ⟨ik.1 (Nat.le_refl _), q ν2 D H2 acc ys (k1.trans k2) st2.inv ?_ eD ?_ (hd ν2 ys hI)⟩
    · exact (k1.none fD.2.2 nD)
    · exact dA
end
end Bd
namespace Bd
open PySem PySem.Spec PyProof.Rows L2 HT
theorem enum_map (f : Nat → PyData) (n : Nat) : enumD ((List.range n).map f) = (List.range n).map fun (k : Nat) => .tuple [.int (k : Int), f k] := by
  apply List.ext_getElem?
  intro i
  by_cases h : i < n
  · rw [enumD_at (x := f i) (by rw [List.getElem?_map, List.getElem?_range h]; rfl), List.getElem?_map, List.getElem?_range h]; rfl
  · rw [List.getElem?_eq_none (by rw [enumD_len, List.length_map, List.length_range]; omega), List.getElem?_eq_none (by rw [List.length_map, List.length_range]; omega)]
def rngC (lo c : Int) (n : Nat) : List PyData := (List.range n).map fun (i : Nat) => .int (lo + (i : Int) * c)
section
variable {K : PySem.W.Frag} {W : Wd} {ρ : List Sl} {ν : Nat} {ta tb tc : TE} {tr : TA} {Ψ : Nat → List PyData → Prop}
theorem itok_rngC {Hb : Hp} {lo c : Int} {n : Nat} : ItOk K Hb (Itc lo c n) (rngC lo c n) := fun k H s => by
  refine ⟨fun hk => by unfold rngC at hk; rw [List.length_map, List.length_range] at hk; exact hk, fun x hx => ?_⟩
  unfold rngC at hx
  have hk := lt_of_at hx
  rw [List.length_map, List.length_range] at hk
  refine ⟨hk, ?_⟩
  rintro u H' ⟨rfl, rfl⟩
  refine ⟨fun _ _ z => z, fun T sT _ => ?_⟩
  rw [List.getElem?_map, List.getElem?_range hk] at hx
  cases hx
  exact .int _
theorem di_rng3 (h : DeI K W ρ ν ta fun ν1 i => DeI K W ρ ν1 tb fun ν2 j => DeI K W ρ ν2 tc fun ν3 c => ∃ n : Nat, RgC i j c n ∧ Ψ ν3 (rngC i c n)) : Di K W ρ ν (iRng3 (tCons ta (tCons tb (tCons tc tNil)))) Ψ := fun S B σ H R st q => by
  refine h S B σ H _ st fun ν1 v H1 x k1 i1 d1 ⟨i, ex, h1⟩ => ?_
  have st1 := st.keep k1 i1
  refine h1 S B σ H1 _ st1 fun ν2 w H2 y k2 i2 d2 ⟨j, ey, h2⟩ => ?_
  have st2 := st1.keep k2 i2
  refine h2 S B σ H2 _ st2 fun ν3 u H3 z k3 i3 d3 ⟨c, ez, n, hr, hΨ⟩ => ?_
  subst ex ey ez
  cases d1; cases d2; cases d3
  exact ⟨i, j, c, n, rfl, hr, q _ _ H3 _ ((k1.trans k2).trans k3) i3 itok_rngC hΨ⟩
end
/-- every second number -/
theorem rgc_two {i j : Int} (h0 : -(2 ^ 60) ≤ i) (h1 : i < 2 ^ 60) (h2 : -(2 ^ 60) ≤ j) (h3 : j < 2 ^ 60) : RgC i j 2 ((j - i + 1) / 2).toNat := by
  have hs : Builtin.Range.rangeSize i j 2 = if i < j then (j - i - 1) / 2 + 1 else 0 := by
    unfold Builtin.Range.rangeSize
    simp only [show ((2 : Int) > 0) by decide, if_true]
  refine ⟨by decide, by decide, ?_, ?_⟩
  · unfold Builtin.Range.small
    rw [hs]
    simp only [Builtin.Range.rangeFitsLong, Bool.and_eq_true, Bool.or_eq_true, decide_eq_true_eq, beq_iff_eq, show ((2 : Int) > 0) by decide, if_true]
    split <;> omega
  · rw [hs]
    split <;> omega
end Bd
namespace L2
open PySem PySem.Spec PyProof.Rows
/-! list(range(a, b, c)) -/
def rgCV (a c : Int) (n : Nat) : List V := (List.range n).map fun (i : Nat) => V.int (a + (i : Int) * c)
theorem rgCV_length (a c : Int) (n : Nat) : (rgCV a c n).length = n := by unfold rgCV; rw [List.length_map, List.length_range]
theorem vals_rgC {a c : Int} {n : Nat} {acc : Array Value} (h : ItemsOf (fun i v => ∃ t, v = .int (a + i * c) t) acc n) : Vals (rgCV a c n) acc.toList := by
  have e : acc.toList.length = n := by rw [Array.length_toList]; exact h.1
  unfold rgCV
  rw [← e]
  refine vals_of_get acc.toList _ fun j u hj => ?_
  obtain ⟨t, rfl⟩ := h.2 j u (by rw [← hj, Array.getElem?_toList])
  exact ⟨t, rfl⟩
def tLst3 (ta : TA) : TE := fun σ H Q => ta σ H fun vs H1 => ∃ (i j c : Int) (n : Nat), vs = [.int i, .int j, .int c] ∧ RgC i j c n ∧ n ≤ 1000000 ∧ ∀ q, H1 q = none → Q (.ref q) (upd H1 q (.lst (rgCV i c n)))
section
variable {X : Cx}
theorem prg_c {a b c : Expr} {ta : TA} {p pos : Pos} {pins : List (Addr × Obj)} {s : Shared} {σ : St} {H : Hp} {Q : List V → Hp → Prop} (hg : Gl X "range") (hm : X.mg "range" = none) (ha : PA X [a, b, c] ta)
    (I : Inv X pins σ H s) (h : ta σ H Q) (hQ : ∀ vs H1, Q vs H1 → ∃ (i j c : Int) (n : Nat), vs = [.int i, .int j, .int c] ∧ RgC i j c n)
    (hs : starEach [a, b, c] X.env = (false, eval a X.env) :: starEach [b, c] X.env := by rfl) (hpl : (backTo pos (starEach [b, c] X.env)).any (·.1) = false := by rfl) :
    wpAny (model X.prog X.w) X.A (eval (.Call (.Name "range" p) [a, b, c] [] pos) X.env) (fun x s' => ∃ r i j c t u v H', x = .ref r ∧ IsRange s'.heap r i j c t u v ∧ Inv X pins σ H' s' ∧ Q [.int i, .int j, .int c] H') X.xe s := by
  refine Call_ (ld_blt I hg hm boot_range (PyProof.Rows.callWith_type1 (thn (ha.run pos pins s σ H _ I h) fun us s1 ⟨vs, H1, I1, r1, q1⟩ => ?_) hs hpl))
  obtain ⟨i, j, k, n, e, ⟨c0, c1, c2, c3⟩⟩ := hQ _ _ q1
  subst e
  cases r1 with
  | cons r rr =>
    cases rr with
    | cons r' rr =>
      cases rr with
      | cons r'' rr =>
        cases rr
        obtain ⟨t, rfl⟩ := r
        obtain ⟨t', rfl⟩ := r'
        obtain ⟨t'', rfl⟩ := r''
        refine call_range_3 c0 ?_ (.inl (PyProof.noPylong_small c1))
        exact ⟨_, i, j, k, _, _, _, H1, rfl, IsRange.new _ _ _ _ _ _ _, I1.kept fun b u e => Heap.get?_push_of_some _ e, q1⟩
theorem pe_listRg3 {a b c : Expr} {ta : TA} {p p' pos pos' : Pos} (hc : X.calm = true) (hg : Gl X "list") (hm : X.mg "list" = none) (hg' : Gl X "range") (hm' : X.mg "range" = none) (ha : PA X [a, b, c] ta)
    (hs : starEach [a, b, c] X.env = (false, eval a X.env) :: starEach [b, c] X.env := by rfl) (hpl : (backTo pos' (starEach [b, c] X.env)).any (·.1) = false := by rfl)
    (na : starEach [.Call (.Name "range" p') [a, b, c] [] pos'] X.env = (false, eval (.Call (.Name "range" p') [a, b, c] [] pos') X.env) :: starEach [] X.env := by rfl) :
    PE X (.Call (.Name "list" p) [.Call (.Name "range" p') [a, b, c] [] pos'] [] pos) (tLst3 ta) := by
  refine ⟨fun pins s σ H Q I h => ?_⟩
  refine Call_ (ld_blt I hg hm boot_list (PyProof.Rows.callWith_type1 (args_cons (thn (prg_c hg' hm' ha I h (fun vs H1 ⟨i, j, c, n, e, r, _⟩ => ⟨i, j, c, n, e, r⟩) hs hpl) fun x s1 ⟨r, i, j, k, t, u, v, H1, ex, hr, I1, q⟩ => args_nil ?_) na) na))
  subst ex
  obtain ⟨i', j', k', n, e, ⟨c0, c1, c2, c3⟩, l, q⟩ := q
  injection e with e1 e; injection e with e2 e; injection e with e3 e
  injection e1 with e1; injection e2 with e2; injection e3 with e3
  subst e1 e2 e3
  refine call_list_range (n := n) (I1.ok.hd hc) hr c2 c3 (by omega) fun h' tk acc c' hk e' hi => ?_
  refine ⟨.ref s1.heap.objs.size, upd H1 s1.heap.objs.size (.lst (rgCV i k n)), I1.laid hk (Nat.le_refl _) (show ObjOk X.prog X.w _ _ _ (.lst (rgCV i k n)) from ⟨?_, acc.toList, c', vals_rgC hi, ?_⟩), rfl, q _ (I1.hok.fresh (Nat.le_refl _))⟩
  · rw [rgCV_length, sizeLine_eq]; omega
  · rw [Array.toArray_toList]; exact e'
/-- sorted(set), told by how many things it has -/
def rSortedSetC (w : World) : List V → Hp → VK → Prop := fun vs H Q => ∃ (a : Addr) (S : Int → Bool) (n : Nat), vs = [V.ref a] ∧ H a = some (SetO w a S n) ∧ (∀ ks : List Int, ks.Nodup → (∀ k, S k = true ↔ k ∈ ks) → ks.length < 64) ∧
  ∀ (ns : List Int) (p : Addr), ns.Pairwise (· < ·) → (∀ k : Int, k ∈ ns ↔ S k = true) → H p = none → Q (.ref p) (upd H p (.lst (ns.map V.int)))
theorem cr_sortedSetC (hc : X.calm = true) : CallR X (.builtin "sorted") (rSortedSetC X.w) := by
  intro pins s σ H vs us Q I r h
  obtain ⟨a, S, n, rfl, ha, h64, q⟩ := h
  have R := setO_get I ha
  obtain ⟨o, es, ep, t, _, _, _, _, nd, mem, _, _, en, _, _⟩ := R
  have hl := h64 _ nd mem
  rw [List.length_map, Array.length_toList, en] at hl
  exact cr_sortedSet hc pins s σ H _ us Q I r ⟨a, S, n, rfl, ha, hl, fun ns p h1 h2 _ h4 => q ns p h1 h2 h4⟩
end
end L2
namespace Bd
open PySem PySem.Spec PyProof.Rows L2 HT
section
variable {K : PySem.W.Frag} {W : Wd} {ρ : List Sl} {ν : Nat} {te ta tb tc : TE}
theorem do_lst3 {Ψ : Nat → List PyData → Prop} (h : DeI K W ρ ν ta fun ν1 i => DeI K W ρ ν1 tb fun ν2 j => DeI K W ρ ν2 tc fun ν3 c => ∃ n : Nat, RgC i j c n ∧ n ≤ 1000000 ∧ Ψ ν3 (rngC i c n)) : Do K W ρ ν (tLst3 (tCons ta (tCons tb (tCons tc tNil)))) Ψ := fun S B σ H Q st q => by
  refine h S B σ H _ st fun ν1 v H1 x k1 i1 d1 ⟨i, ex, h1⟩ => ?_
  have st1 := st.keep k1 i1
  refine h1 S B σ H1 _ st1 fun ν2 w H2 y k2 i2 d2 ⟨j, ey, h2⟩ => ?_
  have st2 := st1.keep k2 i2
  refine h2 S B σ H2 _ st2 fun ν3 u H3 z k3 i3 d3 ⟨c, ez, n, hr, hn, hΨ⟩ => ?_
  have st3 := st2.keep k3 i3
  subst ex ey ez
  cases d1; cases d2; cases d3
  refine ⟨i, j, c, n, rfl, hr, hn, fun p np => ?_⟩
  have f := st3.fresh np
  have k := (k1.trans k2).trans k3
  have e : rgCV i c n = ((List.range n).map fun (k : Nat) => i + (k : Int) * c).map V.int := by unfold rgCV; rw [List.map_map]; rfl
  have e' : rngC i c n = ((List.range n).map fun (k : Nat) => i + (k : Int) * c).map PyData.int := by unfold rngC; rw [List.map_map]; rfl
  rw [e'] at hΨ
  rw [e]
  exact q _ _ _ _ _ (k.trans (st3.new np).1) (st3.new np).2 (k.none f.2.2 np) upd_same (.ints _) hΨ
theorem do_ssetC {w : World} {Ψ : Nat → List PyData → Prop} (h : DeL K W ρ ν te fun ν1 xs => ∃ ns : List Int, xs = ns.map .int ∧ ns.length ≤ 1000 ∧ (∀ ks : List Int, ks.Nodup → (∀ k, k ∈ ns ↔ k ∈ ks) → ks.length < 64) ∧ ∀ zs : List Int, zs.Pairwise (· < ·) → (∀ k : Int, k ∈ zs ↔ k ∈ ns) → Ψ ν1 (zs.map .int)) : Do K W ρ ν (tCB (rSortedSetC w) (tCons (tCB (rSetOfL K w) (tCons te tNil)) tNil)) Ψ := fun S B σ H Q st q => by
  refine h S B σ H _ st fun _ v H1 x k1 i1 d1 ⟨xs, ex, ns, exs, hl, h64, hΨ⟩ => ?_
  subst ex exs
  have st1 := st.keep k1 i1
  cases d1 with
  | lst e ds =>
    cases ds.ints_eq
    refine ⟨_, ns, rfl, .inl (.inl (of_hid e).1), by omega, fun p1 c np hc => ?_⟩
    have f1 := st1.fresh np
    have n1 := st1.new (o := SetO w p1 (fun j => decide (j ∈ ns)) c) np
    have k2 := k1.trans n1.1
    have st2 := st.keep k2 n1.2
    refine ⟨p1, _, c, rfl, upd_same, fun ks nd mem => h64 ks nd fun k => by rw [← mem k]; exact decide_eq_true_iff.symm, fun zs p rise mem np2 => ?_⟩
    have f := st2.fresh np2
    exact q _ _ _ _ _ (k2.trans (st2.new np2).1) (st2.new np2).2 (k2.none f.2.2 np2) upd_same (.ints zs) (hΨ zs rise fun k => by rw [mem k]; exact decide_eq_true_iff)
end
end Bd
namespace L2
open PySem PySem.Spec PyProof.Rows
/-! dict(ps), ps a list of pairs whose keys are tuples -/
section
variable {prog : Program} {w : World} {A : Around} {E : Value → Shared → Prop}
abbrev tk2 (prog : Program) (w : World) : HeapKind prog w (List Key) := tupleKind (mixKind prog w)
theorem isKey_move {h h' : Heap} {k : List Key} {a I : Addr} (x : (tk2 prog w).is h k a) (ha : a ≠ I) (e : ∀ b o, b ≠ I → h.get? b = some o → h'.get? b = some o) : (tk2 prog w).is h' k a := by
  obtain ⟨o, its, n, h1, h2, h3, h4⟩ := x
  exact ⟨o, its, n, e a o ha h1, h2, h3, h4⟩
theorem dictH_move {h h' : Heap} {S I : Addr} {xs : List (List Key × Addr × Value)} (x : h.DictOfH (tk2 prog w) S xs) (hS : S ≠ I) (hx : ∀ y ∈ xs, y.2.1 ≠ I) (e : ∀ b o, b ≠ I → h.get? b = some o → h'.get? b = some o) : h'.DictOfH (tk2 prog w) S xs := by
  obtain ⟨o, es, ep, h1, h2, h3, h4, h5, h6⟩ := x
  exact ⟨o, es, ep, e S o hS h1, h2, h3, h4, fun y hy => isKey_move (h5 y hy) (hx y hy) e, h6⟩
theorem mem_storedH {xs : List (List Key × Addr × Value)} {k : List Key} {a : Addr} {v : Value} {y : List Key × Addr × Value} (h : y ∈ storedH xs k a v) : y.2.1 = a ∨ ∃ z ∈ xs, z.2.1 = y.2.1 := by
  unfold storedH at h
  split at h
  · obtain ⟨z, hz, rfl⟩ := List.mem_map.mp h
    right
    refine ⟨z, hz, ?_⟩
    unfold putAt
    split <;> rfl
  · rcases List.mem_append.mp h with h | h
    · exact .inr ⟨y, h, rfl⟩
    · rw [List.mem_singleton] at h
      subst h
      exact .inl rfl
theorem len_storedH (xs : List (List Key × Addr × Value)) (k : List Key) (a : Addr) (v : Value) : (storedH xs k a v).length ≤ xs.length + 1 := by
  unfold storedH
  split
  · rw [List.length_map]; omega
  · rw [List.length_append]; exact Nat.le_refl _
def mergeH (acc rest : List (List Key × Addr × Value)) : List (List Key × Addr × Value) := rest.foldl (fun acc q => storedH acc q.1 q.2.1 q.2.2) acc
theorem upd_loopT {R : Result → Shared → Prop} {S I l : Addr} {items : Array Value} {res : Value} (hh : A.handled = none) (hu : A.units + 1 < cLine) (hlI : l ≠ I) (hSI : S ≠ I) (hSl : S ≠ l) :
    ∀ (rest : List (List Key × Addr × Value)) (i : Nat) (acc : List (List Key × Addr × Value)) (ix : Int) (t : Tok) (s : Shared), items.size = i + rest.length → acc.length + rest.length ≤ sizeLine →
      (∀ (j : Nat) (q : List Key × Addr × Value), rest[j]? = some q → ∃ b : Addr, items[i + j]? = some (.ref b) ∧ b ≠ S ∧ b ≠ I ∧ IsTup s.heap b #[.ref q.2.1, q.2.2] ∧ q.2.1 ≠ S ∧ q.2.1 ≠ I ∧ (tk2 prog w).is s.heap q.1 q.2.1) →
      s.heap.IsListIter I l i → s.heap.IsList l items → s.heap.DictOfH (tk2 prog w) S acc → (∀ x ∈ acc, x.2.1 ≠ S ∧ x.2.1 ≠ I) →
      (∀ h' tk, h'.DictOfH (tk2 prog w) S (mergeH acc rest) → (∀ b o, b ≠ S → b ≠ I → s.heap.get? b = some o → h'.get? b = some o) → R (.ok (.ret res)) { s with heap := h', toks := tk }) →
      codeAny (model prog w) A (.builtin "dict.update.loop" ⟨[.ref S, .ref I, .int ix t, res], []⟩) R s
  | [], i, acc, ix, t, s, hsz, hln, ht, hit, hl, hm, hx, hR => by
    refine codeAny_builtin ud_entry ?_
    rw [Around.under_plainId ud_plain _]
    show wpAny _ A.in1 (pyNext (.ref I) >>= _) _ _ s
    refine wpAny_bind (wpAny_pyNext_list_end (A := A.in1) hh hit hl (by first | exact Array.getElem?_eq_none (Nat.le_of_eq hsz) | (simp at hsz; simp; omega)) fun h' he => ?_)
    show wpAny _ A.in1 (Builtin.Dict.addKeywords S [] >>= _) _ _ _
    refine wpAny_bind (wpAny_pure (wpAny_pure ?_))
    exact hR h' s.toks (dictH_move hm hSI (fun y hy => (hx y hy).2) fun b o hb e => he b o hb e) fun b o _ hb e => he b o hb e
  | q :: rest, i, acc, ix, t, s, hsz, hln, ht, hit, hl, hm, hx, hR => by
    obtain ⟨b, hb, hbS, hbI, htup, hkS, hkI, hk⟩ := ht 0 q rfl
    rw [List.length_cons] at hsz hln
    refine codeAny_builtin ud_entry ?_
    rw [Around.under_plainId ud_plain _]
    show wpAny _ A.in1 (pyNext (.ref I) >>= _) _ _ s
    refine wpAny_bind (wpAny_pyNext_list_item (x := .ref b) hit hl (by simpa using hb) fun h1 hit1 hs1 => ?_)
    have ht1 : IsTup h1 b #[.ref q.2.1, q.2.2] := htup.extBut hs1.extBut hbI
    have hl1 : h1.IsList l items := hl.extBut hs1.extBut hlI
    have hm1 : h1.DictOfH (tk2 prog w) S acc := dictH_move hm hSI (fun y hy => (hx y hy).2) hs1.extBut
    have hk1 : (tk2 prog w).is h1 q.1 q.2.1 := isKey_move hk hkI hs1.extBut
    obtain ⟨o, ho, hc, n, hd⟩ := id ht1
    show wpAny _ A.in1 (holding [Value.ref b] _ >>= _) _ _ _
    refine wpAny_bind (wpAny_holding ?_)
    refine wpAny_bind (wpAny_tryCatch ?_)
    unfold Builtin.Dict.pairItems
    refine wpAny_bind (wpAny_typeOf (T := "tuple") ⟨o, ho, hc⟩ ?_)
    rw [if_pos (by first | decide | rfl | simp)]
    refine wpAny_bind (wpAny_seqItems ho hd (wpAny_pure ?_))
    show wpAny _ A.in1 (holding [.ref q.2.1, q.2.2] (dictSet S (.ref q.2.1) q.2.2)) _ _ _
    refine wpAny_holding (wpAny_dictSet_heap (knd := tk2 prog w) (k := q.1) hu hk1 hm1 (fun h2 hm2 hs2 => ?_) (by omega))
    refine wpAny_pure ⟨plainId_quiet ud_plain _, upd_loopT (items := items) hh hu hlI hSI hSl rest (i + 1) (storedH acc q.1 q.2.1 q.2.2) (ix + 1) 0 _ (show items.size = i + 1 + rest.length by omega) ?_ (fun j q' e => ?_) ?_ ?_ hm2 (fun y hy => ?_) fun h' tk hd' k => ?_⟩
    · have z := len_storedH acc q.1 q.2.1 q.2.2
      omega
    · obtain ⟨b', hb', hbS', hbI', htup', hkS', hkI', hk'⟩ := ht (j + 1) q' (by simpa using e)
      refine ⟨b', ?_, hbS', hbI', (htup'.extBut hs1.extBut hbI').extBut hs2.extBut hbS', hkS', hkI', isKey_move (isKey_move hk' hkI' hs1.extBut) hkS' hs2.extBut⟩
      rw [show i + 1 + j = i + (j + 1) by omega]
      exact hb'
    · exact hit1.at fun o' e => hs2.extBut I o' (Ne.symm hSI) e
    · exact hl1.extBut hs2.extBut (Ne.symm hSl)
    · rcases mem_storedH hy with e | ⟨z, hz, e⟩
      · rw [e]; exact ⟨hkS, hkI⟩
      · rw [← e]; exact hx z hz
    · exact hR h' tk hd' fun c oc h3 h4 e => k c oc h3 h4 (hs2.extBut c oc h3 (hs1.extBut c oc h4 e))
theorem call_dict_pairsT {s : Shared} {l : Addr} {ol : Obj} {items : Array Value} {n : Nat} {prs : List (List Key × Addr × Value)} {Q : Value → Shared → Prop} (hh : A.handled = none) (hu : A.units + 3 < cLine) (hl : s.heap.get? l = some ol) (hc : ol.cls = .type "list") (hd : ol.dict = none)
    (hdat : ol.data = .seq items n) (hsz : items.size = prs.length) (hln : prs.length ≤ sizeLine)
    (ht : ∀ (j : Nat) (q : List Key × Addr × Value), prs[j]? = some q → ∃ b : Addr, items[j]? = some (.ref b) ∧ IsTup s.heap b #[.ref q.2.1, q.2.2] ∧ (tk2 prog w).is s.heap q.1 q.2.1)
    (h : ∀ h' tk, h'.DictOfH (tk2 prog w) s.heap.objs.size (mergeH [] prs) → (∀ b o, s.heap.get? b = some o → h'.get? b = some o) → Q (.ref s.heap.objs.size) { s with heap := h', toks := tk }) :
    wpAny (model prog w) A (call (.type "dict") [.ref l]) Q E s := by
  refine callType_codes (Q₁ := fun obj s₁ => obj = .ref s.heap.objs.size ∧ s₁ = { s with heap := s.heap.push { cls := .type "dict", data := .dict #[] } }) PySem.F.kt_called_dict (PySem.F.kt_typeCall_dict_1 _) PySem.F.entry_dict_init (kt_code_dict_new _ ⟨rfl, rfl⟩) ?_
  rintro obj s₁ ⟨rfl, rfl⟩
  have hnew : (s.heap.push { cls := .type "dict", data := .dict #[] }).DictOfH (tk2 prog w) s.heap.objs.size [] := Heap.DictOfH.new s.heap
  have k0 : ∀ b o, s.heap.get? b = some o → (s.heap.push { cls := .type "dict", data := .dict #[] }).get? b = some o := fun b o e => Heap.get?_push_of_some _ e
  refine ⟨hnew.typeIs, PySem.F.args_dict_init_2 _ _, ?_⟩
  unfold Builtin.«dict.__init__»
  refine wpAny_bind ?_
  unfold Builtin.Dict.selfAndRest
  refine wpAny_bind (wpAny_notOrdered_dict hnew.typeIs ?_)
  show wpAny _ _ (pure (s.heap.objs.size, [Value.ref l])) _ _ _
  refine wpAny_pure ?_
  show wpAny _ _ (Builtin.Dict.updateFrom "dict.__init__" s.heap.objs.size (.ref l) [] .none) _ _ _
  unfold Builtin.Dict.updateFrom
  refine wpAny_bind (wpAny_typeOf (T := "list") ⟨ol, k0 _ _ hl, hc⟩ ?_)
  rw [if_pos (by first | decide | rfl | simp)]
  refine wpAny_bind (miss_list (k0 _ _ hl) hc hdat hd hh fun h1 tk1 hk1 => ?_)
  rw [if_pos (show (none : Option Value).isNone = true from rfl)]
  refine wpAny_bind (wpAny_rule ?_)
  have hl1 : h1.IsList l items := ⟨ol, hk1 _ _ (k0 _ _ hl), hc, n, hdat⟩
  have hS1 : s.heap.objs.size < h1.objs.size := by
    have e : (s.heap.push { cls := .type "dict", data := .dict #[] }).get? s.heap.objs.size = some { cls := .type "dict", data := .dict #[] } := Heap.get?_push_size _ rfl
    exact Heap.lt_size (hk1 _ _ e)
  refine wpAny_bind (wpAny_pyIter_list hl1 ?_)
  have k2 : ∀ b o, h1.get? b = some o → (h1.push { cls := .type "list_iterator", data := .fields #[.ref l, .int 0 0] }).get? b = some o := fun b o e => Heap.get?_push_of_some _ e
  have hlt : l < s.heap.objs.size := Heap.lt_size hl
  have kall : ∀ b o, s.heap.get? b = some o → (h1.push { cls := .type "list_iterator", data := .fields #[.ref l, .int 0 0] }).get? b = some o := fun b o e => k2 _ _ (hk1 _ _ (k0 _ _ e))
  have key := upd_loopT (prog := prog) (w := w) (A := A.in1) (R := wants (fun r s₂ => r = .none ∧ Q (.ref s.heap.objs.size) s₂) E) (S := s.heap.objs.size) (I := h1.objs.size) (l := l) (items := items) (res := Value.none) hh (by rw [Around.in1_units]; omega)
    (Nat.ne_of_lt (Nat.lt_trans hlt hS1)) (Nat.ne_of_lt hS1) (Nat.ne_of_gt hlt) prs 0 [] 0 0
    { s with heap := h1.push { cls := .type "list_iterator", data := .fields #[.ref l, .int 0 0] }, toks := tk1 } (by rw [hsz, Nat.zero_add]) (by rw [List.length_nil, Nat.zero_add]; exact hln)
    (fun j q e => by
      obtain ⟨b, e1, e2, e3⟩ := ht j q e
      have hb : b < s.heap.objs.size := e2.lt
      have hk : q.2.1 < s.heap.objs.size := by
        obtain ⟨ok, _, _, hok, _⟩ := e3
        exact Heap.lt_size hok
      exact ⟨b, by rw [Nat.zero_add]; exact e1, Nat.ne_of_lt hb, Nat.ne_of_lt (Nat.lt_trans hb hS1), e2.keeps fun c o z => kall _ _ z, Nat.ne_of_lt hk, Nat.ne_of_lt (Nat.lt_trans hk hS1), isKey_move e3 (Nat.ne_of_lt (Nat.lt_trans hk hS1)) fun b o _ z => kall b o z⟩)
    ⟨_, Heap.get?_push_size _ rfl, rfl, rfl⟩ (hl1.at fun o e => k2 _ _ e) (dictH_move (I := h1.objs.size) hnew (Nat.ne_of_lt hS1) (fun y hy => nomatch hy) fun b o _ e => k2 _ _ (hk1 _ _ e)) (fun y hy => nomatch hy)
    (fun h' tk hd' k => ⟨rfl, h h' tk hd' fun b o e => k b o (Nat.ne_of_lt (Heap.lt_size e)) (Nat.ne_of_lt (Nat.lt_trans (Heap.lt_size e) hS1)) (kall _ _ e)⟩)
  first
    | exact wpAny_pure ⟨plainId_quiet ud_plain _, key⟩
    | exact wpAny_bind (wpAny_pure (wpAny_pure ⟨plainId_quiet ud_plain _, key⟩))
end
def mergeT (kvs more : List (List Key × V)) : List (List Key × V) := more.foldl (fun acc kv => putK acc kv.1 kv.2) kvs
theorem KT.merge {H : Hp} : ∀ {more : List (List Key × V)} {rs : List (List Key × Addr × Value)} {kvs : List (List Key × V)} {vs : List (List Key × Addr × Value)}, KT H more rs → KT H kvs vs → KT H (mergeT kvs more) (mergeH vs rs) := by
  intro more rs kvs vs r
  induction r generalizing kvs vs with
  | nil => intro q; exact q
  | @cons p q ps qs h t ih =>
    intro r0
    have e : KT H (putK kvs p.1 p.2) (storedH vs q.1 q.2.1 q.2.2) := by
      have := r0.put p.1 h.2.1 h.2.2
      rw [← h.1]; exact this
    exact ih e
theorem length_mergeT : ∀ (more kvs : List (List Key × V)), (mergeT kvs more).length ≤ kvs.length + more.length
  | [], kvs => by show kvs.length ≤ kvs.length + 0; omega
  | p :: r, kvs => by
    have h1 := length_mergeT r (putK kvs p.1 p.2)
    have h2 := length_putK kvs p.1 p.2
    show (mergeT (putK kvs p.1 p.2) r).length ≤ _
    rw [List.length_cons]; omega
section
variable {X : Cx}
theorem pairs_ofT {pins : List (Addr × Obj)} {σ : St} {H : Hp} {s : Shared} (I : Inv X pins σ H s) : ∀ {ps : List Addr} {kvs : List (List Key × V)}, Paired (fun p kv => ∃ b, SqT X.K H p [.ref b, kv.2] ∧ H b = some (.tup (kv.1.map kV))) ps kvs →
    ∃ prs : List (List Key × Addr × Value), KT H kvs prs ∧ prs.length = ps.length ∧ ∀ (j : Nat) (q : List Key × Addr × Value), prs[j]? = some q → ∃ b : Addr, ps[j]? = some b ∧ IsTup s.heap b #[.ref q.2.1, q.2.2] ∧ (tk2 X.prog X.w).is s.heap q.1 q.2.1
  | _, _, .nil => ⟨[], .nil, rfl, fun j q e => by simp at e⟩
  | _, _, .cons (a := p) (b := kv) h t => by
    obtain ⟨prs, r, hl, hp⟩ := pairs_ofT I t
    obtain ⟨b, h1, h2⟩ := h
    obtain ⟨its, rv, ht, _⟩ := I.tuple h1
    obtain ⟨u, y, ei, ru, ry⟩ := vals2 rv
    subst ei
    cases ru
    refine ⟨(kv.1, b, y) :: prs, .cons ⟨rfl, h2, ry⟩ r, by rw [List.length_cons, List.length_cons, hl], fun j q e => ?_⟩
    cases j with
    | zero =>
      have e' : (kv.1, b, y) = q := Option.some.inj e
      subst e'
      exact ⟨p, rfl, ht, key_of I.hok h2⟩
    | succ j =>
      obtain ⟨b, e1, e2, e3⟩ := hp j q (by simpa using e)
      exact ⟨b, by simpa using e1, e2, e3⟩
def rDictT (K : PySem.W.Frag) : List V → Hp → VK → Prop := fun xs H Q => ∃ (a : Addr) (ps : List Addr) (kvs : List (List Key × V)), xs = [.ref a] ∧ SqL K H a (ps.map V.ref) ∧ Paired (fun p kv => ∃ b, SqT K H p [.ref b, kv.2] ∧ H b = some (.tup (kv.1.map kV))) ps kvs ∧
    ∀ p, H p = none → Q (.ref p) (upd H p (.dT (mergeT [] kvs)))
theorem call_dictT (hcalm : X.calm = true) (hu : X.A.units + 64 < cLine) : CallR X (.type "dict") (rDictT X.K) := by
  intro pins s σ H xs us Q I r q
  obtain ⟨a, ps, kvs, ex, hq, hp, q⟩ := q
  subst ex
  obtain ⟨u, eu, rx⟩ := vals1 r
  subst eu
  cases rx
  obtain ⟨its, rv, pl, hz⟩ := I.list hq
  have ei := refs_at rv
  subst ei
  rw [List.length_map] at hz
  obtain ⟨prs, rel, hl, hpr⟩ := pairs_ofT I hp
  obtain ⟨o, n, ho, hc, hd, hdat⟩ := pl
  refine call_dict_pairsT (prs := prs) (I.ok.hd hcalm) (by omega) ho hc hd hdat (by simp [hl]) (by rw [hl]; exact hz) (fun j q' e => ?_) fun h' tk hd' k => ?_
  · obtain ⟨b, e1, e2, e3⟩ := hpr j q' e
    exact ⟨b, by simp [e1], e2, e3⟩
  · have hm : (s.heap.objs.size == sysModules) = false := beq_eq_false_iff_ne.mpr (Nat.ne_of_gt I.big)
    have hlen : (mergeT [] kvs).length ≤ sizeLine := by
      refine Nat.le_trans (length_mergeT kvs []) ?_
      rw [List.length_nil, Nat.zero_add, rel.length, hl]
      exact hz
    have hn : H s.heap.objs.size = none := I.hok.fresh (Nat.le_refl _)
    refine ⟨.ref s.heap.objs.size, upd H s.heap.objs.size (.dT (mergeT [] kvs)), I.laid (t' := tk) k (Nat.le_refl _) (show ObjOk X.prog X.w _ _ _ (.dT (mergeT [] kvs)) from ⟨hlen, hm, mergeH [] prs, ?_, ?_⟩), rfl, q _ hn⟩
    · exact (KT.merge rel .nil).keeps fun b ys e => by
        unfold upd
        split
        · rename_i c
          rw [c, hn] at e; cases e
        · exact e
    · obtain ⟨o2, es, ep, g1, g2, g3, g4, g5, g6⟩ := hd'
      exact ⟨o2, es, ep, g1, g2, g3, g4, g6⟩
end
end L2
namespace L2
theorem pc_dinU {X : Cx} {i o : PySem.Expr} {ty td : TE} (hu : X.A.units + 64 < PySem.cLine) (hi : PE X i ty) (ho : PE X o td) : PC X .In i o (tDIn ty td) := pc_din (by omega) hi ho
theorem pc_dnotinU {X : Cx} {i o : PySem.Expr} {ty td : TE} (hu : X.A.units + 64 < PySem.cLine) (hi : PE X i ty) (ho : PE X o td) : PC X .NotIn i o (tDNotIn ty td) := pc_dnotin (by omega) hi ho
end L2
namespace Bd
open PySem PySem.Spec PyProof.Rows L2 HT
/-! a dict whose keys are given lists -/
def keyI (l : List Int) : List Key := l.map Sum.inl
theorem keyI_v (l : List Int) : (keyI l).map kV = l.map V.int := by unfold keyI; rw [List.map_map]; rfl
theorem keyI_inj : ∀ {l m : List Int}, keyI l = keyI m → l = m
  | [], [], _ => rfl
  | [], _ :: _, h => by cases h
  | _ :: _, [], h => by cases h
  | a :: l, b :: m, h => by
    unfold keyI at h
    rw [List.map_cons, List.map_cons] at h
    injection h with h1 h2
    injection h1 with h1
    rw [h1, keyI_inj h2]
def knowT (L : List (List Int)) : List (List Key × V) := mergeT [] (L.map fun l => (keyI l, V.bl true))
theorem valV_put {κ : Type} [DecidableEq κ] (kvs : List (κ × V)) (k j : κ) (v : V) : (valV (putK kvs k v) j).isSome = ((valV kvs j).isSome || decide (k = j)) := by
  rw [← valV_any, ← valV_any]
  unfold putK
  split
  · rename_i c
    rw [List.any_map]
    have e : (kvs.any fun kv => decide (kv.1 = j)) = kvs.any ((fun kv => decide (kv.1 = j)) ∘ fun kv => if kv.1 = k then (kv.1, v) else kv) := by
      congr 1
      funext kv
      show decide (kv.1 = j) = decide ((if kv.1 = k then (kv.1, v) else kv).1 = j)
      split <;> rfl
    rw [← e]
    by_cases d : k = j
    · subst d
      rw [c, Bool.true_or]
    · rw [decide_eq_false d, Bool.or_false]
  · rw [List.any_append, List.any_cons, List.any_nil, Bool.or_false]
theorem val_merge (j : List Key) : ∀ (L : List (List Int)) (acc : List (List Key × V)), (valV (mergeT acc (L.map fun l => (keyI l, V.bl true))) j).isSome = ((valV acc j).isSome || L.any fun l => decide (keyI l = j))
  | [], acc => by
    show (valV acc j).isSome = _
    rw [List.any_nil, Bool.or_false]
  | l :: L, acc => by
    have ih := val_merge j L (putK acc (keyI l) (V.bl true))
    show (valV (mergeT (putK acc (keyI l) (V.bl true)) (L.map _)) j).isSome = _
    rw [ih, valV_put, List.any_cons, Bool.or_assoc]
theorem know_has (L : List (List Int)) (l : List Int) : (valV (knowT L) (keyI l)).isSome = decide (l ∈ L) := by
  unfold knowT
  rw [val_merge]
  show (false || _) = _
  rw [Bool.false_or]
  by_cases c : l ∈ L
  · rw [decide_eq_true c]
    exact List.any_eq_true.mpr ⟨l, c, decide_eq_true rfl⟩
  · rw [decide_eq_false c]
    refine Bool.eq_false_iff.mpr fun z => ?_
    obtain ⟨m, hm, e⟩ := List.any_eq_true.mp z
    have := keyI_inj (of_decide_eq_true e)
    exact c (this ▸ hm)
/-- a world that knows one thing more for ever -/
def Wd.know (W : Wd) (p : Addr) (o : HO) : Wd := { W with G := fun b => if b = p then some o else W.G b }
abbrev Kl (H : Hp) (p : Addr) (l : List Int) : Prop := ∃ b, H p = some (.tup [.ref b, .bl true]) ∧ H b = some (.tup (l.map V.int))
def Sx (D : Addr) (H H' : Hp) : Prop := ∀ b o, b ≠ D → H b = some o → H' b = some o
theorem Kl.sx {D : Addr} {H H' : Hp} {p : Addr} {l : List Int} {xs : List V} (h : Kl H p l) (hD : H D = some (.lst xs)) (s : Sx D H H') : Kl H' p l := by
  obtain ⟨b, h1, h2⟩ := h
  refine ⟨b, s p _ (fun e => ?_) h1, s b _ (fun e => ?_) h2⟩
  · rw [e, hD] at h1; cases h1
  · rw [e, hD] at h2; cases h2
theorem upd_ne' {H : Hp} {a b : Addr} {o : HO} (h : b ≠ a) : upd H a o b = H b := by unfold upd; rw [if_neg h]
theorem upd_new {H : Hp} {a : Addr} {o : HO} (n : H a = none) : Same H (upd H a o) := fun b u e => by
  rw [upd_ne' fun z => by rw [z, n] at e; cases e]; exact e
theorem pair_keys {K : PySem.W.Frag} {H' : Hp} : ∀ {ps : List Addr} {L : List (List Int)}, Paired (Kl H') ps L → Paired (fun p (kv : List Key × V) => ∃ b, SqT K H' p [.ref b, kv.2] ∧ H' b = some (.tup (kv.1.map kV))) ps (L.map fun l => (keyI l, V.bl true))
  | _, _, .nil => .nil
  | _, _, .cons g t => by
    obtain ⟨b, g1, g2⟩ := g
    exact .cons ⟨b, .inl (.inl g1), by rw [keyI_v]; exact g2⟩ (pair_keys t)
theorem yes_if {σ : L2.St} {H : Hp} {A B : Hp → Prop} (h : A H) : tYes σ H (fun b H3 => if b = true then A H3 else B H3) := by
  show (if true = true then A H else B H)
  rw [if_pos rfl]; exact h
def tKnown (K : PySem.W.Frag) (j i4 : Nat) : TE := tCB (rDictT K) (tCons (tLc (iList K (tVar j)) (gName i4) tYes (tTup (tCons (tThen (tVar i4) (kTup K)) (tCons (tC (V.bl true)) tNil))) [i4]) tNil)
section
variable {K : PySem.W.Frag} {W : Wd} {S : List Addr} {B : Hp} {ρ : List Sl} {σ : L2.St} {H : Hp} {ν : Nat} {P : Po}
theorem known_run {a : Addr} {vs : List V} {L : List (List Int)} {σ : L2.St} {H : Hp} {Q : VK} {j i4 : Nat} (hj : σ[j]? = some (some (.ref a))) (hi : i4 < σ.length) (ha : H a = some (.lst vs)) (hl : L.length < sizeLine) (hv : vs.length = L.length)
    (hq : ∀ (k : Nat) (v : V) (l : List Int), vs[k]? = some v → L[k]? = some l → ∃ q, v = .ref q ∧ H q = some (.lst (l.map V.int)))
    (h : ∀ H' p, Same H H' → H' p = none → Q (.ref p) (upd H' p (.dT (knowT L)))) : tKnown K j i4 σ H Q := by
  refine ⟨_, hj, a, rfl, ⟨vs, .inl (.inl ha)⟩, fun D nD => ?_⟩
  have aD : a ≠ D := fun e => by rw [e, nD] at ha; cases ha
  refine lc_list (K := K) (xs := vs) (Pv := fun i H' => Sx D H H' ∧ ∃ ps : List Addr, ps.length = i ∧ H' D = some (.lst (ps.map V.ref)) ∧ Paired (Kl H') ps (L.take i)) ⟨fun b o n e => by rw [upd_ne' n]; exact e, [], rfl, upd_same, .nil⟩ (fun i H' _ ⟨s, _⟩ => .inl (.inl (s a _ aD ha))) (fun i x H' hx ⟨s, ps, pl, hD, pr⟩ => ?_) (fun H' ⟨s, ps, pl, hD, pr⟩ => ?_)
  · have hk := lt_of_at hx
    obtain ⟨l, hl'⟩ : ∃ l, L[i]? = some l := ⟨L[i]'(by omega), List.getElem?_eq_getElem (by omega)⟩
    obtain ⟨q, rfl, hqe⟩ := hq i x l hx hl'
    have qD : q ≠ D := fun e => by rw [e, nD] at hqe; cases hqe
    have hqe' := s q _ qD hqe
    show wipe ((wipe σ [i4]).set i4 (some (V.ref q))) [i4] = wipe σ [i4] ∧ tYes _ _ _
    refine ⟨?_, ?_⟩
    · show ((σ.set i4 none).set i4 (some (V.ref q))).set i4 none = σ.set i4 none
      rw [List.set_set, List.set_set]
    · refine yes_if ?_
      refine ⟨V.ref q, ?_, .inl ⟨q, _, rfl, .inl (.inl hqe'), fun b nb => ?_⟩⟩
      · show ((σ.set i4 none).set i4 (some (V.ref q)))[i4]? = _
        rw [List.getElem?_set_self (by rw [List.length_set]; exact hi)]
      · show tC (V.bl true) _ _ _
        refine ⟨szd rfl, fun p np => ?_⟩
        have s1 := upd_new (o := .tup (l.map V.int)) nb
        have s2 := upd_new (o := .tup [V.ref b, V.bl true]) np
        have hD2 := s2 D _ (s1 D _ hD)
        refine ⟨ps.map V.ref, hD2, by rw [List.length_map, pl]; omega, fun c o n e => by rw [upd_ne' n]; exact s2 c o (s1 c o (s c o n e)), ps ++ [p], by rw [List.length_append, pl]; rfl, by rw [upd_same, List.map_append]; rfl, ?_⟩
        rw [take_snoc hl']
        have sx : Sx D H' (upd (upd (upd H' b (.tup (l.map V.int))) p (.tup [V.ref b, V.bl true])) D (.lst (ps.map V.ref ++ [V.ref p]))) := fun c o n e => by rw [upd_ne' n]; exact s2 c o (s1 c o e)
        refine Paired.snoc (Paired.mapP pr fun _ _ z => Kl.sx z hD sx) ⟨b, ?_, ?_⟩
        · rw [upd_ne' fun e => by rw [e, s1 D _ hD] at np; cases np]; exact upd_same
        · have bD : b ≠ D := fun e => by rw [e, hD] at nb; cases nb
          rw [upd_ne' bD]
          exact s2 b _ upd_same
  · rw [hv, List.take_of_length_le (Nat.le_refl _)] at pr
    refine ⟨D, ps, L.map fun l => (keyI l, V.bl true), rfl, .inl (.inl hD), ?_, fun p np => ?_⟩
    · exact pair_keys pr
    · exact h H' p (fun b o e => s b o (fun z => by rw [z, nD] at e; cases e) e) np
theorem Sta.know (st : Sta K W S B ρ σ H ν) {p : Addr} {o : HO} (hp : H p = some o) (nJ : p ∉ W.J) (no : p ∉ ownA ρ) : Sta K (W.know p o) S (hid (W.J ++ ownA ρ) H) ρ σ H ν := by
  have s := st.rebase
  refine ⟨s.len, s.sl, s.nd, s.out, s.js, s.fr, s.inv, s.al, fun b u e => ?_⟩
  have e : (if b = p then some o else W.G b) = some u := e
  by_cases c : b = p
  · subst c
    rw [if_pos rfl] at e
    cases e
    exact hid_of hp (by simp [nJ, no])
  · rw [if_neg c] at e
    exact s.gb b u e
theorem Sta.unknow {p : Addr} {o : HO} {B' : Hp} (st : Sta K (W.know p o) S B' ρ σ H ν) (k : Same B B') (al : ∀ a ∈ S, a ∈ W.J ∨ ∃ o, B a = some o) (gb : Same W.G B) : Sta K W S B ρ σ H ν :=
  ⟨st.len, st.sl, st.nd, st.out, st.js, k.trans st.fr, st.inv, al, gb⟩
theorem RetOk.unknow {p : Addr} {o : HO} {B' : Hp} {s : Sl} {v : V} (r : RetOk K (W.know p o) S B' s v H ν) (k : Same B B') : RetOk K W S B s v H ν := by
  obtain ⟨r1, r2, r3⟩ := r
  refine ⟨k.trans r1, r2, ?_⟩
  cases s with
  | un => trivial
  | d x => exact r3
  | «at» w => exact r3
  | own b ys =>
    obtain ⟨q1, q2, q3, vs, q4, q5⟩ := r3
    refine ⟨q1, q2, ?_, vs, q4, q5⟩
    cases hb : B b with
    | none => rfl
    | some u => rw [k b u hb] at q3; cases q3
theorem ds_known {i j i4 : Nat} {L : List (List Int)} {t : TS} (hj : ρ[j]? = some (.d (.list (L.map intsD)))) (n : nOwn ρ i = true) (hi4 : i4 < ρ.length) (hl : L.length < sizeLine)
    (h : ∀ p, Ds K (W.know p (.dT (knowT L))) (ρ.set i (.at (.ref p))) ν t P) : Ds K W ρ ν (tSeq (tAsg (tKnown K j i4) (gName i)) t) P := fun S B σ H D st e => by
  obtain ⟨v, ev, d⟩ := st.slot hj
  cases d with
  | @lst a vs _ ea ds =>
    have ha := (of_hid ea).1
    refine known_run (L := L) ev (by rw [st.len]; exact hi4) ha hl (by rw [ds.len, List.length_map]) (fun k v l hk hl' => ?_) fun H' p s np => ?_
    · obtain ⟨v', e1, d1⟩ := ds.at (i := k) (d := intsD l) (by rw [List.getElem?_map, hl']; rfl)
      rw [hk] at e1
      cases e1
      cases d1 with
      | lst e2 d2 =>
        cases d2.ints_eq
        exact ⟨_, rfl, (of_hid e2).1⟩
    · show t D (σ.set i (some (V.ref p))) (upd H' p (.dT (knowT L)))
      have s2 : Same H (upd H' p (.dT (knowT L))) := s.trans (upd_new np)
      have nH : H p = none := by
        cases c : H p with
        | none => rfl
        | some u => rw [s p u c] at np; cases np
      have kp : Kp W.J H (upd H' p (.dT (knowT L))) := fun b o eb => by
        obtain ⟨e1, e2⟩ := of_hid eb
        exact hid_of (s2 b o e1) e2
      have inv : W.I ν (upd H' p (.dT (knowT L))) := W.hI (fun b hb => by
        obtain ⟨o, ho⟩ := W.hJ st.inv b hb
        rw [ho, s2 b o ho]) st.inv
      have f := st.fresh nH
      have st2 := (st.keep kp inv).setS (i := i) (s := .at (.ref p)) (u := some (V.ref p)) n rfl rfl
      have eo : ownA (ρ.set i (.at (.ref p))) = ownA ρ := ownA_set n rfl
      have st3 := st2.know (p := p) upd_same f.2.2 (by rw [eo]; exact f.2.1)
      have sB : Same B (hid (W.J ++ ownA (ρ.set i (.at (.ref p)))) (upd H' p (.dT (knowT L)))) := st2.fr
      exact h p S _ _ _ D st3 ⟨fun _ ρ' σ' H2 s2 h2 => e.nx _ ρ' σ' H2 (s2.unknow sB st.al st.gb) h2, fun _ s v H2 r h2 => e.rt _ s v H2 (r.unknow sB) h2, fun _ ρ' σ' H2 s2 h2 => e.bk _ ρ' σ' H2 (s2.unknow sB st.al st.gb) h2, fun _ ρ' σ' H2 s2 h2 => e.ct _ ρ' σ' H2 (s2.unknow sB st.al st.gb) h2⟩
/-- whether a list of the def's own is among the known ones -/
theorem known_at {p : Addr} {o : HO} {H : Hp} {σ : L2.St} {S : List Addr} {B : Hp} (st : Sta K W S B ρ σ H ν) (g : W.G p = some o) : H p = some o := (of_hid (st.fr p o (st.gb p o g))).1
theorem dt_notKnown {m n : Nat} {a p : Addr} {ns : List Int} {L : List (List Int)} {Χ : Nat → Bool → Prop} (hm : ρ[m]? = some (.own a (ns.map .int))) (hn : ρ[n]? = some (.at (.ref p))) (g : W.G p = some (.dT (knowT L)))
    (h : Χ ν (!decide (ns ∈ L))) : Dt K W ρ ν (tB (tDNotIn (tThen (tVar m) (kTup K)) (tVar n))) Χ := fun S B σ H Q st q => by
  obtain ⟨u, eu, e1, vs, e2, d⟩ := st.sl m _ hm
  subst e1
  cases d.ints_eq
  obtain ⟨u2, eu2, e3⟩ := st.sl n _ hn
  subst e3
  have hp := known_at st g
  refine ⟨_, eu, .inl ⟨a, _, rfl, .inl (.inl e2), fun b nb => ⟨_, eu2, p, _, rfl, DGet.t (k := keyI ns) (upd_new nb p _ hp) (by rw [keyI_v]; exact upd_same), ?_⟩⟩⟩
  rw [know_has]
  exact ⟨_, rfl, q _ _ _ (st.new nb).1 (st.new nb).2 h⟩
end
end Bd
namespace Bd
open PySem PySem.Spec PyProof.Rows L2 HT
/-! sorted, of data that can be compared: the same things, rising; and data compared by < -/
def rSortedW (K : PySem.W.Frag) : List V → Hp → VK → Prop := fun vs H Q => ∃ (a : Addr) (xs : List V) (ds : List PyData), vs = [V.ref a] ∧ SqL K H a xs ∧ DpAll K H xs ds ∧ PySem.W.AllAlike ds ∧ PySem.W.Sortable ds ∧ (∀ d ∈ ds, d.depth ≤ 10) ∧
  ∀ (p : Addr) (bs : List (V × PyData)), bs.Perm (xs.zip ds) → bs.Pairwise (fun a b => PySem.W.dataLt b.2 a.2 = false) → H p = none → Q (.ref p) (upd H p (.lst (bs.map (·.1))))
theorem cr_sortedW {X : Cx} (hu : X.A.units + 64 < cLine) : CallR X (.builtin "sorted") (rSortedW X.K) := by
  intro pins s σ H vs us Q I r h
  obtain ⟨a, xs, ds, rfl, hs, hd, hal, hk, hdep, q⟩ := h
  obtain ⟨its, rv, hl, hz⟩ := I.list hs
  rw [Vals.ref1 r]
  have hlen : xs.length = ds.length := dps_len hd
  obtain ⟨e1, e2, e3⟩ := each_of I rv hd
  have hb : ∀ b ∈ xs.zip ds, b.2 ∈ ds := fun b hb => by
    obtain ⟨x, y⟩ := b
    exact (List.of_mem_zip hb).2
  have hzl : (xs.zip ds).length = xs.length := by rw [List.length_zip, ← hlen, Nat.min_self]
  refine PySem.W.sorted_data hl.isList e1 e2 (by rw [e3]; exact hal) (by rw [e3]; exact hk) (by rw [hzl]; exact hz) (fun b hm => ?_) fun out ho eo => ?_
  · have := hdep _ (hb b hm)
    omega
  · have hp := List.mergeSort_perm (xs.zip ds) (PySem.W.dataLe false fun b : V × PyData => b.2)
    have hw := PySem.W.sort_pairwise (PySem.W.sortLe_total (listOrd itemOrd) false fun b : V × PyData => PySem.W.keyToks b.2) (xs.zip ds)
    have hw : ((xs.zip ds).mergeSort (PySem.W.dataLe false fun b : V × PyData => b.2)).Pairwise (fun a b => PySem.W.dataLe false (fun b : V × PyData => b.2) a b = true) := hw
    generalize (xs.zip ds).mergeSort (PySem.W.dataLe false fun b : V × PyData => b.2) = bs at eo hp hw
    obtain ⟨ep, he'⟩ := PyProof.Rows.sortedAll_at s.heap its (List.toArray out)
    have hw' : bs.Pairwise (fun a b => PySem.W.dataLt b.2 a.2 = false) := hw.imp fun {a b} hab => by
      have hab : (!PySem.W.dataLt b.2 a.2) = true := hab
      exact (Bool.not_eq_true' _).mp hab
    exact ⟨.ref _, upd H (s.heap.objs.size + 1) (.lst (bs.map (·.1))), I.laid (t' := s.toks) (fun _ _ => PyProof.Rows.sortedAll_old) (Nat.le_succ _) ⟨by rw [List.length_map, hp.length_eq, hzl]; exact hz, out, ep, vals_of_pairs eo, he'⟩, rfl, q _ bs hp hw' (I.hok.fresh (Nat.le_succ _))⟩
theorem do_sortedW {K : PySem.W.Frag} {W : Wd} {ρ : List Sl} {ν : Nat} {te : TE} {Ψ : Nat → List PyData → Prop} (h : DeL K W ρ ν te fun ν1 xs => PySem.W.AllAlike xs ∧ PySem.W.Sortable xs ∧ (∀ d ∈ xs, d.depth ≤ 10) ∧ ∀ ys : List PyData, ys.Perm xs → ys.Pairwise (fun a b => PySem.W.dataLt b a = false) → Ψ ν1 ys) : Do K W ρ ν (tCB (rSortedW K) (tCons te tNil)) Ψ := fun S B σ H Q st q => by
  refine h S B σ H _ st fun _ v H1 x k1 i1 d1 ⟨xs, ex, h1, h2, h4, hΨ⟩ => ?_
  subst ex
  have st1 := st.keep k1 i1
  cases d1 with
  | lst e ds =>
    refine ⟨_, _, xs, rfl, .inl (.inl (of_hid e).1), (ds.same hid_same).dp, h1, h2, h4, fun p bs hb hw np => ?_⟩
    have f := st1.fresh np
    have hl := ds.len
    refine q _ _ _ _ (bs.map (·.2)) (k1.trans (st1.new np).1) (st1.new np).2 (k1.none f.2.2 np) upd_same ((Dds.of_pairs fun b hm => ds.zip_mem (hb.mem_iff.mp hm)).same (hid_new np)) (hΨ _ ?_ (List.pairwise_map.mpr hw))
    have := hb.map (·.2)
    rwa [List.map_snd_zip (by omega)] at this
def rLtD (K : PySem.W.Frag) : R2 := fun x y H Q => ∃ d e, Dp K H x d ∧ Dp K H y e ∧ PySem.W.alike d e = true ∧ d ≠ .none ∧ d.depth ≤ 10 ∧ Q (.bl (PySem.W.dataLt d e)) H
theorem op_ltD {X : Cx} (hu : X.A.units + 64 < cLine) : OpR X (compareOp .Lt) (rLtD X.K) := by
  intro pins s σ H x y v u Q I rx ry h
  obtain ⟨d, e, hd, he, hal, hn, hdep, q⟩ := h
  obtain ⟨as, r1⟩ := Dp.reads I d x v hd rx
  obtain ⟨bs, r2⟩ := Dp.reads I e y u he ry
  exact PySem.W.rcLt_alike d e X.A s v u as bs r1 r2 hal hn (by have := Nat.min_le_left d.depth e.depth; omega) X.prog X.w _ _ ⟨.bl _, H, I, rfl, q⟩
theorem dB_ltD {K : PySem.W.Frag} {W : Wd} {ρ : List Sl} {ν : Nat} {ta tb : TE} {kb : Nat → Bool → Prop} (h : De K W ρ ν ta fun ν1 x => De K W ρ ν1 tb fun ν2 y => PySem.W.alike x y = true ∧ x ≠ .none ∧ x.depth ≤ 10 ∧ kb ν2 (PySem.W.dataLt x y)) : DeB K W ρ ν (tOp (rLtD K) ta tb) kb := fun S B σ H Q st q => by
  refine h S B σ H _ st fun ν1 v H1 x k1 i1 d1 h1 => ?_
  have st1 := st.keep k1 i1
  refine h1 S B σ H1 _ st1 fun ν2 w H2 y k2 i2 d2 ⟨a1, a2, a3, a4⟩ => ?_
  refine ⟨x, y, ((d1.same (st1.kpS k2)).same hid_same).dp, (d2.same hid_same).dp, a1, a2, a3, ?_⟩
  exact q _ _ _ _ (k1.trans k2) i2 (.bl _) ⟨_, rfl, a4⟩
theorem toks_inj : ∀ {l m : List Int}, PySem.W.keyToksAll (l.map .int) = PySem.W.keyToksAll (m.map .int) → l = m
  | [], [], _ => rfl
  | [], b :: m, h => by
    simp [PySem.W.keyToksAll] at h
  | a :: l, [], h => by
    simp [PySem.W.keyToksAll] at h
  | a :: l, b :: m, h => by
    simp [PySem.W.keyToksAll, PySem.W.keyToks] at h
    rw [h.1, toks_inj h.2]
/-- of two lists of ints one is the less -/
theorem lt_of_not {l m : List Int} (h : PySem.W.dataLt (intsD m) (intsD l) = false) (ne : l ≠ m) : PySem.W.dataLt (intsD l) (intsD m) = true := by
  cases c : PySem.W.dataLt (intsD l) (intsD m) with
  | true => rfl
  | false =>
    have e := (listOrd itemOrd).total (PySem.W.keyToks (intsD l)) (PySem.W.keyToks (intsD m)) c h
    have e : PySem.W.keyToksAll (l.map .int) = PySem.W.keyToksAll (m.map .int) := by
      have e1 : PySem.W.keyToks (intsD l) = PySem.W.keyToksAll (l.map .int) := by unfold intsD; simp [PySem.W.keyToks]
      have e2 : PySem.W.keyToks (intsD m) = PySem.W.keyToksAll (m.map .int) := by unfold intsD; simp [PySem.W.keyToks]
      rw [← e1, ← e2]; exact e
    exact absurd (toks_inj e) ne
end Bd
namespace L2
open PySem PySem.Spec PyProof.Rows
/-! zip of three lists -/
def Itz3 (K : PySem.W.Frag) (a b c : Addr) (N : Nat) : It :=
  ⟨fun i H => i < N ∧ ∃ (xs ys zs : List V) (x y z : V), SqL K H a xs ∧ SqL K H b ys ∧ SqL K H c zs ∧ xs[i]? = some x ∧ ys[i]? = some y ∧ zs[i]? = some z,
    fun i H v H' => ∃ T x y z, v = .ref T ∧ H T = none ∧ H' = upd H T (.tup [x, y, z]) ∧ (∀ xs, SqL K H a xs → xs[i]? = some x) ∧ (∀ ys, SqL K H b ys → ys[i]? = some y) ∧ ∀ zs, SqL K H c zs → zs[i]? = some z,
    fun i H => N ≤ i ∧ ∃ xs ys zs : List V, SqL K H a xs ∧ SqL K H b ys ∧ SqL K H c zs ∧ min (min xs.length ys.length) zs.length = N⟩
theorem turn_zip3 {P : Program} {w : World} {K : PySem.W.Frag} {elts : List Expr} {kk : Nat} {tpos : Pos} {a b c z TI TO i1 i2 i3 : Addr} {N : Nat} (D : ZipSep3 z TI TO i1 i2 i3 [i1, a] [i2, b] [i3, c]) (n1 : a ≠ i1) (n2 : b ≠ i2) (n3 : c ≠ i3) :
    Turn P w K (.Tuple elts kk tpos) (Itz3 K a b c N) [z, TI, TO, i1, i2, i3] z (fun i h => i ≤ N ∧ IsZip h z TI TO .none ∧ IsTupOf3 h TI (.ref i1) (.ref i2) (.ref i3) ∧ (∃ x y u, IsTupOf3 h TO x y u) ∧ h.IsListIter i1 a i ∧ h.IsListIter i2 b i ∧ h.IsListIter i3 c i) where
  mem := by simp
  obj := fun i h st q hq => by
    obtain ⟨_, hz, hTI, ⟨x, y, u, hTO⟩, ⟨o1, e1, _, d1⟩, ⟨o2, e2, _, d2⟩, ⟨o3, e3, _, d3⟩⟩ := st
    have e' : q = z ∨ q = TI ∨ q = TO ∨ q = i1 ∨ q = i2 ∨ q = i3 := by simpa using hq
    rcases e' with r | r | r | r | r | r
    · rw [r]; exact ⟨_, hz, fun v q => nomatch q⟩
    · rw [r]; exact ⟨_, hTI, fun v q => nomatch q⟩
    · rw [r]; exact ⟨_, hTO, fun v q => nomatch q⟩
    · rw [r]; exact ⟨o1, e1, fun v q => by rw [d1] at q; cases q⟩
    · rw [r]; exact ⟨o2, e2, fun v q => by rw [d2] at q; cases q⟩
    · rw [r]; exact ⟨o3, e3, fun v q => by rw [d3] at q; cases q⟩
  keep := fun i h h' st k => by
    obtain ⟨hi, hz, hTI, ⟨x, y, u, hTO⟩, h1, h2, h3⟩ := st
    exact ⟨hi, k z (by simp) _ hz, k TI (by simp) _ hTI, ⟨x, y, u, k TO (by simp) _ hTO⟩, h1.at fun o q => k i1 (by simp) o q, h2.at fun o q => k i2 (by simp) o q, h3.at fun o q => k i3 (by simp) o q⟩
  item := by
    intro X hP hw hK hc i pins s σ H E I hf st hg
    subst hP hw hK
    obtain ⟨hi, hz, hTI, hTO, h1, h2, h3⟩ := st
    obtain ⟨hiN, xs, ys, zs, x, y, u, hqx, hqy, hqz, hx, hy, hu⟩ := hg
    obtain ⟨its, rv, p, _⟩ := I.list hqx
    obtain ⟨its2, rv2, p2, _⟩ := I.list hqy
    obtain ⟨its3, rv3, p3, _⟩ := I.list hqz
    obtain ⟨u1, hu1, ru1⟩ := rv.get hx
    obtain ⟨u2, hu2, ru2⟩ := rv2.get hy
    obtain ⟨u3, hu3, ru3⟩ := rv3.get hu
    have hzl : z < s.heap.objs.size := Heap.lt_size hz
    have D1 := Draws.list (prog := X.prog) (w := X.w) (A := X.A.in1) (I.ok.hd hc) i1 a n1 its.toArray
    have D2 := Draws.list (prog := X.prog) (w := X.w) (A := X.A.in1) (I.ok.hd hc) i2 b n2 its2.toArray
    have D3 := Draws.list (prog := X.prog) (w := X.w) (A := X.A.in1) (I.ok.hd hc) i3 c n3 its3.toArray
    have G := GoesN.zip3 (elts := elts) (x1 := kk) (pos := tpos) D D1 D2 D3
    have l1 := (List.getElem?_eq_some_iff.mp hu1).1
    have l2 := (List.getElem?_eq_some_iff.mp hu2).1
    have l3 := (List.getElem?_eq_some_iff.mp hu3).1
    refine G.goes i s _ E (by rw [List.size_toArray, List.size_toArray, List.size_toArray]; omega) ⟨hz, hTI, hTO, ⟨h1, p.isList⟩, ⟨h2, p2.isList⟩, ⟨h3, p3.isList⟩⟩ fun v h' tk hY st' hk htk => ?_
    obtain ⟨T, v1, v2, v3, rfl, hT, w1, w2, w3, hI⟩ := hY
    have ev1 : v1 = u1 := by rw [List.getElem?_toArray, hu1] at w1; exact (Option.some.inj w1).symm
    have ev2 : v2 = u2 := by rw [List.getElem?_toArray, hu2] at w2; exact (Option.some.inj w2).symm
    have ev3 : v3 = u3 := by rw [List.getElem?_toArray, hu3] at w3; exact (Option.some.inj w3).symm
    subst ev1 ev2 ev3
    obtain ⟨z1, z2, z3, ⟨z4, _⟩, ⟨z5, _⟩, ⟨z6, _⟩⟩ := st'
    have new : ObjOk X.prog X.w (upd H T (.tup [x, y, u])) h' T (.tup [x, y, u]) := ⟨by show 3 ≤ sizeLine; decide, [v1, v2, v3], .cons ru1 (.cons ru2 (.cons ru3 .nil)), hI⟩
    have I1 : Inv X pins σ (upd H T (.tup [x, y, u])) { s with heap := h', toks := tk } :=
      I.turnedNew (t' := tk) (ch := [z, TI, TO, i1, i2, i3]) (fun q o hb e => hk q o (fun m => hb (by
        have : q = z ∨ q = TO ∨ q = i1 ∨ q = i2 ∨ q = i3 := by simpa using m
        rcases this with r | r | r | r | r <;> simp [r])) e) hf hT new
    refine ⟨.ref T, _, I1, rfl, ⟨T, x, y, u, rfl, I.hok.fresh hT, rfl, fun l hl => by rw [I.list_inj hl hqx]; exact hx, fun l hl => by rw [I.list_inj hl hqy]; exact hy, fun l hl => by rw [I.list_inj hl hqz]; exact hu⟩, ⟨by omega, z1, z2, z3, z4, z5, z6⟩, fun q hqm => ?_⟩
    have hlt : q < s.heap.objs.size := by
      obtain ⟨x0, y0, u0, hTO⟩ := hTO
      have e' : q = z ∨ q = TI ∨ q = TO ∨ q = i1 ∨ q = i2 ∨ q = i3 := by simpa using hqm
      rcases e' with r | r | r | r | r | r
      · rw [r]; exact hzl
      · rw [r]; exact Heap.lt_size hTI
      · rw [r]; exact Heap.lt_size hTO
      · rw [r]; obtain ⟨_, e1, _⟩ := h1; exact Heap.lt_size e1
      · rw [r]; obtain ⟨_, e2, _⟩ := h2; exact Heap.lt_size e2
      · rw [r]; obtain ⟨_, e3, _⟩ := h3; exact Heap.lt_size e3
    rw [upd_ne (Nat.ne_of_lt (Nat.lt_of_lt_of_le hlt hT))]
    exact (hf q hqm).1
  done := by
    intro X hP hw hK hc i pins s σ H E I hf st hg
    subst hP hw hK
    obtain ⟨hi, hz, hTI, hTO, h1, h2, h3⟩ := st
    obtain ⟨hN, xs, ys, zs, hqx, hqy, hqz, hmin⟩ := hg
    have eN : i = N := by omega
    subst eN
    obtain ⟨its, rv, p, _⟩ := I.list hqx
    obtain ⟨its2, rv2, p2, _⟩ := I.list hqy
    obtain ⟨its3, rv3, p3, _⟩ := I.list hqz
    have l1 := rv.length
    have l2 := rv2.length
    have l3 := rv3.length
    have D1 := Draws.list (prog := X.prog) (w := X.w) (A := X.A.in1) (I.ok.hd hc) i1 a n1 its.toArray
    have D2 := Draws.list (prog := X.prog) (w := X.w) (A := X.A.in1) (I.ok.hd hc) i2 b n2 its2.toArray
    have D3 := Draws.list (prog := X.prog) (w := X.w) (A := X.A.in1) (I.ok.hd hc) i3 c n3 its3.toArray
    have G := GoesN.zip3 (elts := elts) (x1 := kk) (pos := tpos) D D1 D2 D3
    have en : min (min its.toArray.size its2.toArray.size) its3.toArray.size = i := by rw [List.size_toArray, List.size_toArray, List.size_toArray, ← l1, ← l2, ← l3]; exact hmin
    rw [en] at G
    refine G.stops s _ E ⟨hz, hTI, hTO, ⟨h1, p.isList⟩, ⟨h2, p2.isList⟩, ⟨h3, p3.isList⟩⟩ fun h' tk hk htk => ?_
    exact I.turnedL (t' := tk) (ch := [z, TI, TO, i1, i2, i3]) (fun q o hb e => hk q o (fun m => hb (by
        have : q = z ∨ q = TO ∨ q = i1 ∨ q = i2 ∨ q = i3 := by simpa using m
        rcases this with r | r | r | r | r <;> simp [r])) e) hf
  self := fun A i s Q E st h => wpAny_pyIter_zip st.2.1 h
def iZip3 (K : PySem.W.Frag) (ta : TA) : TI := fun σ H R => ta σ H fun vs H1 => ∃ a b c xs ys zs, vs = [.ref a, .ref b, .ref c] ∧ SqL K H1 a xs ∧ SqL K H1 b ys ∧ SqL K H1 c zs ∧ R (Itz3 K a b c (min (min xs.length ys.length) zs.length)) H1
theorem pi_zip3 {X : Cx} {e e2 e3 : Expr} {ta : TA} {p pos tpos : Pos} {elts : List Expr} {kk : Nat} (hg : Gl X "zip") (hm : X.mg "zip" = none) (ha : PA X [e, e2, e3] ta)
    (hs : starEach [e, e2, e3] X.env = (false, eval e X.env) :: starEach [e2, e3] X.env := by rfl) (hpl : (backTo pos (starEach [e2, e3] X.env)).any (·.1) = false := by rfl) :
    PI X (.Tuple elts kk tpos) (.Call (.Name "zip" p) [e, e2, e3] [] pos) (iZip3 X.K ta) := by
  refine ⟨fun pins s σ H R I h => ?_⟩
  refine Call_ (ld_blt I hg hm PyProof.Rows.boot_zip (PyProof.Rows.callWith_type1 (thn (ha.run pos pins s σ H _ I h) fun us s1 ⟨vs, H1, I1, r1, q1⟩ => ?_) hs hpl))
  obtain ⟨a, b, c, xs, ys, zs, ex, hqx, hqy, hqz, q⟩ := q1
  subst ex
  cases r1 with
  | cons r rr =>
    cases rr with
    | cons r' rr =>
      cases rr with
      | cons r'' rr =>
        cases rr
        cases r
        cases r'
        cases r''
        obtain ⟨its, rv, p1, _⟩ := I1.list hqx
        obtain ⟨its2, rv2, p2, _⟩ := I1.list hqy
        obtain ⟨its3, rv3, p3, _⟩ := I1.list hqz
        have la : a < s1.heap.objs.size := p1.lt
        have lb : b < s1.heap.objs.size := p2.lt
        have lc : c < s1.heap.objs.size := p3.lt
        have S := zip_sep3 (N := s1.heap.objs.size) (fp1 := [a]) (fp2 := [b]) (fp3 := [c]) (by simpa using la) (by simpa using lb) (by simpa using lc)
        refine zip_begins3 (begins_list a its.toArray) (begins_list b its2.toArray) (begins_list c its3.toArray) p1.isList p2.isList p3.isList fun h' hz hTI hTO h1 h2 h3 hsz hk => wpAny_pyIter_zip hz ?_
        have I2 : Inv X pins σ H1 { s1 with heap := h' } := I1.kept (t' := s1.toks) hk
        refine ⟨s1.heap.objs.size + 5, [s1.heap.objs.size + 5, s1.heap.objs.size + 3, s1.heap.objs.size + 4, s1.heap.objs.size, s1.heap.objs.size + 1, s1.heap.objs.size + 2], _, _, H1, rfl, I2, turn_zip3 S (Nat.ne_of_lt la) (Nat.ne_of_lt (Nat.lt_succ_of_lt lb)) (Nat.ne_of_lt (Nat.lt_succ_of_lt (Nat.lt_succ_of_lt lc))), ⟨Nat.zero_le _, hz, hTI, ⟨_, _, _, hTO⟩, ⟨_, h1, rfl, rfl⟩, ⟨_, h2, rfl, rfl⟩, ⟨_, h3, rfl, rfl⟩⟩, fun q hqm => ?_, q⟩
        have hle : s1.heap.objs.size ≤ q := by
          have e' : q = s1.heap.objs.size + 5 ∨ q = s1.heap.objs.size + 3 ∨ q = s1.heap.objs.size + 4 ∨ q = s1.heap.objs.size ∨ q = s1.heap.objs.size + 1 ∨ q = s1.heap.objs.size + 2 := by simpa using hqm
          rcases e' with z | z | z | z | z | z
          · rw [z]; exact Nat.le_add_right _ _
          · rw [z]; exact Nat.le_add_right _ _
          · rw [z]; exact Nat.le_add_right _ _
          · rw [z]; exact Nat.le_refl _
          · rw [z]; exact Nat.le_add_right _ _
          · rw [z]; exact Nat.le_add_right _ _
        exact I1.fpOk hle (I1.hok.fresh hle)
end L2
namespace Bd
open PySem PySem.Spec PyProof.Rows L2 HT
section
variable {K : PySem.W.Frag} {W : Wd} {ρ : List Sl} {ν : Nat} {ta tb tc : TE} {Ψ : Nat → List PyData → Prop}
theorem itok_zip3 {Hb : Hp} {a b c : Addr} {vs us ts : List V} {n : Nat} {f g k : Nat → PyData} (h : Hb a = some (.lst vs)) (d : Dds K Hb vs ((List.range n).map f)) (h' : Hb b = some (.lst us)) (d' : Dds K Hb us ((List.range n).map g)) (h'' : Hb c = some (.lst ts)) (d'' : Dds K Hb ts ((List.range n).map k)) :
    ItOk K Hb (Itz3 K a b c (min (min vs.length us.length) ts.length)) ((List.range n).map fun i => .tuple [f i, g i, k i]) := fun i H s => by
  have e : SqL K H a vs := .inl (.inl (s _ _ h))
  have e' : SqL K H b us := .inl (.inl (s _ _ h'))
  have e'' : SqL K H c ts := .inl (.inl (s _ _ h''))
  have l1 := d.len
  have l2 := d'.len
  have l3 := d''.len
  rw [List.length_map, List.length_range] at l1 l2 l3
  refine ⟨fun hk => ?_, fun x hx => ?_⟩
  · rw [List.length_map, List.length_range] at hk
    exact ⟨by omega, vs, us, ts, e, e', e'', rfl⟩
  · have hi := lt_of_at hx
    rw [List.length_map, List.length_range] at hi
    rw [List.getElem?_map, List.getElem?_range hi] at hx
    cases hx
    obtain ⟨v, ev, dv⟩ := d.at (i := i) (d := f i) (by rw [List.getElem?_map, List.getElem?_range hi]; rfl)
    obtain ⟨u, eu, du⟩ := d'.at (i := i) (d := g i) (by rw [List.getElem?_map, List.getElem?_range hi]; rfl)
    obtain ⟨t, et, dt⟩ := d''.at (i := i) (d := k i) (by rw [List.getElem?_map, List.getElem?_range hi]; rfl)
    refine ⟨⟨by omega, vs, us, ts, v, u, t, e, e', e'', ev, eu, et⟩, ?_⟩
    rintro w H' ⟨T, x, y, z, rfl, nT, rfl, hy, hy', hy''⟩
    refine ⟨same_new nT, fun Z sZ al => ?_⟩
    have z1 := hy vs e
    have z2 := hy' us e'
    have z3 := hy'' ts e''
    rw [ev] at z1; rw [eu] at z2; rw [et] at z3
    cases z1; cases z2; cases z3
    have nz : T ∉ Z := fun z => by obtain ⟨o, eo⟩ := al T z; rw [nT] at eo; cases eo
    have sm : Same Hb (hid Z (upd H T (.tup [v, u, t]))) := sZ.trans (hid_new' nT)
    exact .tup (.inl (.inl (hid_of upd_same nz))) (.cons (dv.same sm) (.cons (du.same sm) (.cons (dt.same sm) .nil)))
theorem di_zip3 (h : DeL K W ρ ν ta fun ν1 xs => DeL K W ρ ν1 tb fun ν2 ys => DeL K W ρ ν2 tc fun ν3 zs => ∃ (n : Nat) (f g k : Nat → PyData), xs = (List.range n).map f ∧ ys = (List.range n).map g ∧ zs = (List.range n).map k ∧ Ψ ν3 ((List.range n).map fun i => .tuple [f i, g i, k i])) : Di K W ρ ν (iZip3 K (tCons ta (tCons tb (tCons tc tNil)))) Ψ := fun S B σ H R st q => by
  refine h S B σ H _ st fun ν1 v H1 x k1 i1 d1 ⟨xs, ex, h1⟩ => ?_
  have st1 := st.keep k1 i1
  refine h1 S B σ H1 _ st1 fun ν2 u H2 y k2 i2 d2 ⟨ys, ey, h2⟩ => ?_
  have st2 := st1.keep k2 i2
  refine h2 S B σ H2 _ st2 fun ν3 t H3 z k3 i3 d3 ⟨zs, ez, n, f, g, k, exs, eys, ezs, hΨ⟩ => ?_
  subst ex ey ez exs eys ezs
  have d1' := d1.same (st1.kpS (k2.trans k3))
  have d2' := d2.same (st2.kpS k3)
  cases d1' with
  | lst e ds =>
    cases d2' with
    | lst e2 ds2 =>
      cases d3 with
      | lst e3 ds3 =>
        exact ⟨_, _, _, _, _, _, rfl, .inl (.inl (of_hid e).1), .inl (.inl (of_hid e2).1), .inl (.inl (of_hid e3).1), q _ _ _ _ ((k1.trans k2).trans k3) i3 (itok_zip3 e ds e2 ds2 e3 ds3) hΨ⟩
end
end Bd
namespace Bd
open PySem PySem.Spec PyProof.Rows L2 HT
/-! a def that is handed known lists in a dict behind its other arguments -/
def spKn {ι : Type} (K : PySem.W.Frag) (arg : ι → List PyData) (L : ι → List (List Int)) (pre : ι → Prop) (post : ι → Sl → Prop) : Sp := fun vs H Q _ => ∃ (i : ι) (p : Addr) (S : List Addr) (us : List V), vs = us ++ [.ref p] ∧ (∀ a ∈ S, ∃ o, H a = some o) ∧ H p = some (.dT (knowT (L i))) ∧
  Dds K (hid S H) us (arg i) ∧ pre i ∧ ∀ ν' s v H', post i s → RetOk K (Wn.know p (.dT (knowT (L i)))) S (hid [] H) s v H' ν' → Q v H'
section
variable {ι : Type} {K : PySem.W.Frag} {arg : ι → List PyData} {L : ι → List (List Int)} {pre : ι → Prop} {post : ι → Sl → Prop} {H : Hp}
theorem spKn_len {n : Nat} {vs : List V} {Q : VK} {E : XK} (h : spKn K arg L pre post vs H Q E) (hl : ∀ i, (arg i).length + 1 = n) : vs.length = n := by
  obtain ⟨i, p, S, us, rfl, _, _, d, _⟩ := h
  rw [List.length_append, d.len]
  exact hl i
theorem fn_runK {N : List Str} {vs : List V} {Q : VK} {E : XK} {t : TS} (ρ0 : ι → Addr → List Sl) (h : spKn K arg L pre post vs H Q E)
    (hρ : ∀ i p, (arg i).map .d ++ ([V.ref p].map .at ++ List.replicate (N.length - ((arg i).length + 1)) .un) = ρ0 i p)
    (hd : ∀ i p, pre i → Ds K (Wn.know p (.dT (knowT (L i)))) (ρ0 i p) 0 t ⟨fun _ _ => post i (.d .none), fun _ s => post i s, fun _ _ => False, fun _ _ => False⟩) :
    t { nx := fun _ H' => Q .non H', rt := Q } (L2.start N vs) H := by
  obtain ⟨i, p, S, us, rfl, hal, hp, hD, hpre, q⟩ := h
  have hl := hD.len
  have e1 : L2.start N (us ++ [V.ref p]) = us.map some ++ ([V.ref p].map some ++ List.replicate (N.length - ((arg i).length + 1)) none) := by
    unfold L2.start
    rw [List.map_append, List.append_assoc, List.length_append, hl]
    rfl
  rw [e1]
  have eo : ownA ((arg i).map Sl.d ++ ([V.ref p].map Sl.at ++ List.replicate (N.length - ((arg i).length + 1)) Sl.un)) = [] := by
    have gen : ∀ (xs : List PyData) (r : List Sl), ownA (xs.map Sl.d ++ r) = ownA r := by
      intro xs
      induction xs with
      | nil => intro r; rfl
      | cons x xs ih => intro r; exact ih r
    rw [gen]
    exact ownA_start [V.ref p] [] _
  have al := (AllSl.ds (H := H) hD).app ((AllSl.jss (K := K) (Hh := hid S H) (H := H) [V.ref p]).app (AllSl.un (N.length - ((arg i).length + 1))))
  have := hd i p hpre
  rw [← hρ i p] at this
  refine this S (hid [] H) _ H _ ⟨al.1, fun j s e => ?_, fun j k a xs ys e => ?_, fun a ha => ?_, fun a ha => (nomatch ha), ?_, trivial, fun a ha => ?_, fun b u e => ?_⟩ ⟨fun _ ρ σ H' st h => q _ _ _ _ h (st.ret .non), fun _ s v H' r h => q _ _ _ _ h r, fun _ _ _ _ _ h => h.elim, fun _ _ _ _ _ h => h.elim⟩
  · rw [eo, List.append_nil]; exact al.2 j s e
  · have : a ∈ ownA ((arg i).map Sl.d ++ ([V.ref p].map Sl.at ++ List.replicate (N.length - ((arg i).length + 1)) Sl.un)) := mem_ownA.mpr ⟨_, _, e⟩
    rw [eo] at this; cases this
  · rw [eo] at ha; cases ha
  · rw [eo, List.append_nil]; exact fun _ _ h => h
  · obtain ⟨o, e⟩ := hal a ha
    exact .inr ⟨o, hid_of e (by simp)⟩
  · have e : (if b = p then some (HO.dT (knowT (L i))) else none) = some u := e
    by_cases c : b = p
    · subst c
      rw [if_pos rfl] at e
      cases e
      exact hid_of hp (by simp)
    · rw [if_neg c] at e; cases e
end
section
variable {K : PySem.W.Frag} {W : Wd} {ρ : List Sl} {ν : Nat}
theorem dB_inKnown {m n : Nat} {a p : Addr} {ns : List Int} {L : List (List Int)} {kb : Nat → Bool → Prop} (hm : ρ[m]? = some (.own a (ns.map .int))) (hn : ρ[n]? = some (.at (.ref p))) (g : W.G p = some (.dT (knowT L)))
    (h : kb ν (decide (ns ∈ L))) : DeB K W ρ ν (tDIn (tThen (tVar m) (kTup K)) (tVar n)) kb := fun S B σ H Q st q => by
  obtain ⟨u, eu, e1, vs, e2, d⟩ := st.sl m _ hm
  subst e1
  cases d.ints_eq
  obtain ⟨u2, eu2, e3⟩ := st.sl n _ hn
  subst e3
  have hp := known_at st g
  refine ⟨_, eu, .inl ⟨a, _, rfl, .inl (.inl e2), fun b nb => ⟨_, eu2, p, _, rfl, DGet.t (k := keyI ns) (upd_new nb p _ hp) (by rw [keyI_v]; exact upd_same), ?_⟩⟩⟩
  rw [know_has]
  exact q _ _ _ _ (st.new nb).1 (st.new nb).2 (.bl _) ⟨_, rfl, h⟩
theorem dB_callK {ι : Type} {arg : ι → List PyData} {L : ι → List (List Int)} {pre : ι → Prop} {post : ι → Sl → Prop} {ta tb tc : TE} {n : Nat} {p : Addr} {L0 : List (List Int)} {kb : Nat → Bool → Prop} (hn : ρ[n]? = some (.at (.ref p))) (g : W.G p = some (.dT (knowT L0)))
    (h : De K W ρ ν ta fun ν1 x => De K W ρ ν1 tb fun ν2 y => De K W ρ ν2 tc fun ν3 z => ∃ i, arg i = [x, y, z] ∧ L i = L0 ∧ pre i ∧ ∀ s, post i s → ∃ b, s = .d (.bool b) ∧ kb ν3 b) : DeB K W ρ ν (tCall (spKn K arg L pre post) [] E0 (tCons ta (tCons tb (tCons tc (tCons (tVar n) tNil))))) kb := fun S B σ H Q st q => by
  refine h S B σ H _ st fun ν1 v H1 x k1 i1 d1 h1 => ?_
  have st1 := st.keep k1 i1
  refine h1 S B σ H1 _ st1 fun ν2 u H2 y k2 i2 d2 h2 => ?_
  have st2 := st1.keep k2 i2
  refine h2 S B σ H2 _ st2 fun ν3 t H3 z k3 i3 d3 ⟨i, ea, el, hpre, hq⟩ => ?_
  have st3 := st2.keep k3 i3
  obtain ⟨u4, eu4, e4⟩ := st3.sl n _ hn
  subst e4
  refine ⟨_, eu4, ?_⟩
  show spKn K arg L pre post ([v, u, t, .ref p] ++ []) H3 Q E0
  rw [List.append_nil]
  have hp := known_at st3 g
  refine ⟨i, p, S ++ ownA ρ, [v, u, t], rfl, st3.alive, by rw [el]; exact hp, ?_, hpre, fun ν' s w H4 hs r => ?_⟩
  · rw [ea]
    exact .cons (d1.same (st1.kpS (k2.trans k3))) (.cons (d2.same (st2.kpS k3)) (.cons d3 .nil))
  · obtain ⟨b, rfl, hb⟩ := hq s hs
    have hsame : Same (hid [] H3) (hid [] H4) := r.1
    obtain ⟨k4, i4⟩ := kp_of0 st3 hsame
    exact q ν3 w H4 _ (((k1.trans k2).trans k3).trans k4) i4 r.2.2 ⟨b, rfl, hb⟩
end
end Bd
namespace L2
open PySem PySem.Spec PyProof.Rows
/-! range(i, j, c) of numbers of any size -/
theorem turn_longC {P : Program} {w : World} {K : PySem.W.Frag} {tg : Expr} (it : Addr) (lo c : Int) (n : Nat) : Turn P w K tg (Itc lo c n) [it] it (fun i h => IsLongIter h it (lo + (i : Nat) * c) ((n : Int) - (i : Nat)) c) where
  mem := by simp
  obj := fun i h st b hb => by
    have e : b = it := by simpa using hb
    subst e
    exact ⟨_, st, fun v z => nomatch z⟩
  keep := fun i h h' st k => k it (by simp) _ st
  item := by
    intro X hP hw hK hc i pins s σ H E I hf st hg
    subst hP hw hK
    obtain ⟨f0, f1, f2, f3, f4, f5⟩ := hf it (by simp)
    have W := Walks.longrange (prog := X.prog) (w := X.w) (I.ok.hd hc) it lo c n
    refine W.item i s _ _ hg st fun v h' tk hv st' kk => ?_
    obtain ⟨t, rfl⟩ := hv
    have I1 : Inv X pins σ H { s with heap := h', toks := tk } := I.turned (fun b o hb e => kk b o (by simpa using hb) e) f0 f1 f3 f4 f5
    exact ⟨_, rfl, go_of (s := { s with heap := h', toks := tk }) (n := "longrange_iterator") st' rfl rfl (by decide) ⟨.int (lo + (i : Nat) * c), H, I1, ⟨t, rfl⟩, ⟨rfl, rfl⟩, st', fun b hb => (hf b hb).1⟩⟩
  done := by
    intro X hP hw hK hc i pins s σ H E I hf st hg
    subst hP hw hK
    obtain ⟨f0, f1, f2, f3, f4, f5⟩ := hf it (by simp)
    exact wpAny_pyNext_long_end (I.ok.hd hc) st (by have : n ≤ i := hg; omega) fun h' eb => ⟨rfl, I.turned (t' := s.toks) (fun b o hb e => eb b o hb e) f0 f1 f3 f4 f5⟩
  self := fun A i s Q E st h => wpAny_pyIter_longiter st h
def RgW (i j c : Int) (n : Nat) : Prop := c ≠ 0 ∧ c.natAbs < 1073741824 ∧ Builtin.Range.rangeSize i j c = n
def iRng3W (ta : TA) : TI := fun σ H R => ta σ H fun vs H1 => ∃ (i j c : Int) (n : Nat), vs = [.int i, .int j, .int c] ∧ RgW i j c n ∧ R (Itc i c n) H1
section
variable {X : Cx} {tg : Expr}
theorem pi_range3W {a b c : Expr} {ta : TA} {p pos : Pos} (hg : Gl X "range") (hm : X.mg "range" = none) (ha : PA X [a, b, c] ta)
    (hs : starEach [a, b, c] X.env = (false, eval a X.env) :: starEach [b, c] X.env := by rfl) (hpl : (backTo pos (starEach [b, c] X.env)).any (·.1) = false := by rfl) :
    PI X tg (.Call (.Name "range" p) [a, b, c] [] pos) (iRng3W ta) := by
  refine ⟨fun pins s σ H R I h => ?_⟩
  refine Call_ (ld_blt I hg hm boot_range (PyProof.Rows.callWith_type1 (thn (ha.run pos pins s σ H _ I h) fun us s1 ⟨vs, H1, I1, r1, q1⟩ => ?_) hs hpl))
  obtain ⟨i, j, k, n, e, ⟨c0, c1, c3⟩, q⟩ := q1
  subst e
  cases r1 with
  | cons r rr =>
    cases rr with
    | cons r' rr =>
      cases rr with
      | cons r'' rr =>
        cases rr
        obtain ⟨t, rfl⟩ := r
        obtain ⟨t', rfl⟩ := r'
        obtain ⟨t'', rfl⟩ := r''
        refine call_range_3 c0 ?_ (.inl (PyProof.noPylong_small c1))
        have I2 : Inv X pins σ H1 { s1 with heap := s1.heap.push { cls := .type "range", data := .fields #[.int i t, .int j t', .int k t''] } } := I1.kept (t' := s1.toks) fun b o e => Heap.get?_push_of_some _ e
        have e1 : i + ((0 : Nat) : Int) * k = i := by simp
        have e2 : (n : Int) - ((0 : Nat) : Int) = Builtin.Range.rangeSize i j k := by rw [c3]; simp
        cases c2 : Builtin.Range.small i j k with
        | true =>
          refine wpAny_pyIter_range (IsRange.new ..) c2 ?_
          refine pi_one (tk := s1.toks) I2 _ (turn_rangeC _ i k n) ?_ q
          show IsRangeIter _ _ (i + ((0 : Nat) : Int) * k) ((n : Int) - ((0 : Nat) : Int)) k
          rw [e1, e2]
          exact Heap.get?_push_size _ rfl
        | false =>
          refine wpAny_pyIter_longrange (IsRange.new ..) c2 ?_
          refine pi_one (tk := s1.toks) I2 _ (turn_longC _ i k n) ?_ q
          show IsLongIter _ _ (i + ((0 : Nat) : Int) * k) ((n : Int) - ((0 : Nat) : Int)) k
          rw [e1, e2]
          exact Heap.get?_push_size _ rfl
end
end L2
namespace Bd
open PySem PySem.Spec PyProof.Rows L2 HT
section
variable {K : PySem.W.Frag} {W : Wd} {ρ : List Sl} {ν : Nat} {ta tb tc : TE} {Ψ : Nat → List PyData → Prop}
theorem di_rng3W (h : DeI K W ρ ν ta fun ν1 i => DeI K W ρ ν1 tb fun ν2 j => DeI K W ρ ν2 tc fun ν3 c => ∃ n : Nat, RgW i j c n ∧ Ψ ν3 (rngC i c n)) : Di K W ρ ν (iRng3W (tCons ta (tCons tb (tCons tc tNil)))) Ψ := fun S B σ H R st q => by
  refine h S B σ H _ st fun ν1 v H1 x k1 i1 d1 ⟨i, ex, h1⟩ => ?_
  have st1 := st.keep k1 i1
  refine h1 S B σ H1 _ st1 fun ν2 w H2 y k2 i2 d2 ⟨j, ey, h2⟩ => ?_
  have st2 := st1.keep k2 i2
  refine h2 S B σ H2 _ st2 fun ν3 u H3 z k3 i3 d3 ⟨c, ez, n, hr, hΨ⟩ => ?_
  subst ex ey ez
  cases d1; cases d2; cases d3
  exact ⟨i, j, c, n, rfl, hr, q _ _ H3 _ ((k1.trans k2).trans k3) i3 itok_rngC hΨ⟩
end
/-- every second number -/
theorem rgw_two (i j : Int) : RgW i j 2 ((j - i + 1) / 2).toNat := by
  have hs : Builtin.Range.rangeSize i j 2 = if i < j then (j - i - 1) / 2 + 1 else 0 := by
    unfold Builtin.Range.rangeSize
    simp only [show ((2 : Int) > 0) by decide, if_true]
  refine ⟨by decide, by decide, ?_⟩
  rw [hs]
  split <;> omega
end Bd
namespace Bd
open PySem PySem.Spec PyProof.Rows L2 HT
/-! tuple(x) of a list; what is not in a list, by equal data; two comparisons of data -/
section
variable {K : PySem.W.Frag} {W : Wd} {ρ : List Sl} {ta tb tc te : TE} {ν : Nat} {Φ : Nat → PyData → Prop} {kb : Nat → Bool → Prop}
theorem de_tupL (h : DeL K W ρ ν te fun ν1 xs => Φ ν1 (.tuple xs)) : De K W ρ ν (tThen te (kTup K)) Φ := fun S B σ H Q st q => by
  refine h S B σ H _ st fun _ v H1 x k1 i1 d1 ⟨xs, ex, hΦ⟩ => ?_
  subst ex
  cases d1 with
  | lst e ds =>
    have st1 := st.keep k1 i1
    refine .inl ⟨_, _, rfl, .inl (.inl (of_hid e).1), fun p np => ?_⟩
    have f := st1.fresh np
    exact q _ _ _ _ (k1.trans (st1.new np).1) (st1.new np).2 (.tup (.inl (.inl (hid_of upd_same (by simp [f.1, f.2.1])))) (ds.same (hid_new' np))) hΦ
theorem de_tupO {i : Nat} {a : Addr} {xs : List PyData} (ho : ρ[i]? = some (.own a xs)) (h : Φ ν (.tuple xs)) : De K W ρ ν (tThen (tVar i) (kTup K)) Φ := fun S B σ H Q st q => by
  obtain ⟨u, eu, e1, vs, e2, d⟩ := st.sl i _ ho
  subst e1
  refine ⟨_, eu, .inl ⟨a, vs, rfl, .inl (.inl e2), fun p np => ?_⟩⟩
  have f := st.fresh np
  exact q _ _ _ _ (st.new np).1 (st.new np).2 (.tup (.inl (.inl (hid_of upd_same (by simp [f.1, f.2.1])))) (d.same (hid_new' np))) h
theorem dB_notInL (h : De K W ρ ν ta fun ν1 x => De K W ρ ν1 tb fun ν2 y => ∃ ys, y = .list ys ∧ SeqAt.shaped x = true ∧ SeqAt.shaped (.list ys) = true ∧ kb ν2 (!ys.any fun z => PyData.eqv z x)) : DeB K W ρ ν (tOp (rNotInD K) ta tb) kb := fun S B σ H Q st q => by
  refine h S B σ H _ st fun _ v H1 x k1 i1 d1 h1 => ?_
  refine h1 S B σ H1 _ (st.keep k1 i1) fun _ w H2 y k2 i2 d2 ⟨ys, ey, s1, s2, hΦ⟩ => ?_
  subst ey
  exact ⟨x, ys, ((d1.same ((st.keep k1 i1).kpS k2)).same hid_same).dp, (d2.same hid_same).dp, s1, s2, q _ _ _ _ (k1.trans k2) i2 (.bl _) ⟨_, rfl, hΦ⟩⟩
theorem dB_chainD (h : De K W ρ ν ta fun ν1 x => De K W ρ ν1 tb fun ν2 y => SeqAt.shaped x = true ∧ SeqAt.shaped y = true ∧ (PyData.eqv x y = true → De K W ρ ν2 tc fun ν3 z => SeqAt.shaped z = true ∧ kb ν3 (!PyData.eqv y z)) ∧ (PyData.eqv x y = false → kb ν2 false)) :
    DeB K W ρ ν (tChain (rEqD K) (rNeD K) ta tb tc) kb := fun S B σ H Q st q => by
  refine h S B σ H _ st fun _ v H1 x k1 i1 d1 h1 => ?_
  refine h1 S B σ H1 _ (st.keep k1 i1) fun _ w H2 y k2 i2 d2 ⟨s1, s2, ht, hf⟩ => ?_
  have k12 := k1.trans k2
  have st2 := st.keep k12 i2
  refine ⟨x, y, ((d1.same ((st.keep k1 i1).kpS k2)).same hid_same).dp, (d2.same hid_same).dp, s1, s2, _, rfl, ?_⟩
  cases e : PyData.eqv x y with
  | true =>
    refine ht e S B σ H2 _ st2 fun _ u H3 z k3 i3 d3 ⟨s3, hΦ⟩ => ?_
    exact ⟨y, z, ((d2.same (st2.kpS k3)).same hid_same).dp, (d3.same hid_same).dp, s2, s3, q _ _ _ _ (k12.trans k3) i3 (.bl _) ⟨_, rfl, hΦ⟩⟩
  | false => exact q _ _ _ _ k12 i2 (.bl _) ⟨_, rfl, hf e⟩
end
theorem mtK {X : Cx} {n : String} (r : V → List V → Hp → VK → Prop) (h : MtR X n r) : MtR X n r := h
end Bd
namespace Bd
open PySem PySem.Spec PyProof.Rows L2 HT
/-! a loop over an own list that stays as it is -/
theorem ds_forO {K : PySem.W.Frag} {W : Wd} {ρ : List Sl} {ν : Nat} {P : Po} {i : Nat} {a : Addr} {xs : List PyData} {g : TG} {tb : TS} (Iv : Nat → List Sl → Prop) (h0 : Iv 0 ρ) (hk : ∀ k r, Iv k r → r[i]? = some (.own a xs))
    (hs : ∀ k x ν1 r0, xs[k]? = some x → Iv k r0 → Dg K W r0 ν1 (fun _ => True) g x fun ρ2 => Ds K W ρ2 ν1 tb ⟨fun _ r => Iv (k + 1) r, P.rt, P.nx, fun _ r => Iv (k + 1) r⟩)
    (hd : ∀ ν2 ρ', Iv xs.length ρ' → P.nx ν2 ρ') : Ds K W ρ ν (tFor (iList K (tVar i)) g tb) P := fun S B σ H D st e => by
  obtain ⟨u, eu, e1, vs, e2, d⟩ := st.sl i _ (hk 0 ρ h0)
  subst e1
  refine ⟨_, eu, a, rfl, ⟨vs, .inl (.inl e2)⟩, fun k m σ H => m = xs.length - k ∧ k ≤ xs.length ∧ ∃ ν' ρ', Sta K W S B ρ' σ H ν' ∧ Iv k ρ', ⟨xs.length, by simp, Nat.zero_le _, _, ρ, st, h0⟩, ?_⟩
  rintro k m σ2 H2 ⟨rfl, hi, ν2, ρ2, st2, hI⟩
  obtain ⟨u2, eu2, e3, vs2, e4, d2⟩ := st2.sl i _ (hk k ρ2 hI)
  have sq : SqL K H2 a vs2 := .inl (.inl e4)
  by_cases hlt : k < xs.length
  · right
    have hx : xs[k]? = some xs[k] := List.getElem?_eq_getElem hlt
    obtain ⟨v, ev, dv⟩ := d2.at hx
    refine ⟨⟨vs2, v, sq, ev⟩, fun σ' H' => ∃ ν' ρ', Sta K W S B ρ' σ' H' ν' ∧ Iv (k + 1) ρ', fun σ' H' ⟨ν', ρ', s', p'⟩ => ⟨xs.length - (k + 1), by omega, rfl, hlt, ν', ρ', s', p'⟩, fun x H' y => ?_⟩
    obtain ⟨rfl, hy⟩ := y
    have := hy vs2 sq
    rw [ev] at this
    cases this
    refine hs k _ ν2 ρ2 hx hI S B σ2 _ v _ st2 dv fun ρ4 σ4 st4 _ _ h4 => ?_
    exact h4 S B σ4 _ _ st4 ⟨fun ν5 ρ5 σ5 H5 st5 h5 => ⟨ν5, ρ5, st5, h5⟩, e.rt, e.nx, fun ν5 ρ5 σ5 H5 st5 h5 => ⟨ν5, ρ5, st5, h5⟩⟩
  · left
    refine ⟨⟨vs2, sq, by rw [d2.len]; omega⟩, e.nx _ ρ2 σ2 H2 st2 (hd ν2 ρ2 ?_)⟩
    rw [show xs.length = k by omega]; exact hI
end Bd
namespace Bd
open PySem PySem.Spec PyProof.Rows L2 HT
/-! range(n) as a value -/
def rRange1 : List V → Hp → VK → Prop := fun vs H Q => ∃ j, vs = [V.int j] ∧ ∀ p, H p = none → Q (.ref p) (upd H p (.rng 0 j))
section
variable {X : L2.Cx} {tg : Expr}
theorem cr_range1V : CallR X (.type "range") rRange1 := by
  intro pins s σ H vs us Q I r h
  obtain ⟨j, rfl, q⟩ := h
  cases r with
  | cons r rr =>
    cases rr
    obtain ⟨t, rfl⟩ := r
    refine call_range_1 ⟨.ref s.heap.objs.size, upd H s.heap.objs.size (.rng 0 j), I.laid (t' := s.toks + 2) (fun b o e => Heap.get?_push_of_some _ e) (by omega) ?_, rfl, q _ (I.hok.fresh (Nat.le_refl _))⟩
    exact ⟨_, _, _, Heap.get?_push_size _ rfl⟩
def iRngO (tl : TE) : TI := fun σ H R => tl σ H fun x H1 => ∃ a lo hi, x = .ref a ∧ H1 a = some (.rng lo hi) ∧ (-(2 ^ 62) ≤ lo ∧ lo < 2 ^ 62 ∧ -(2 ^ 62) ≤ hi ∧ hi < 2 ^ 62) ∧ R (Itr lo (hi - lo).toNat) H1
theorem pi_rng {l : Expr} {tl : TE} (hl : PE X l tl) : PI X tg l (iRngO tl) := by
  refine ⟨fun pins s σ H R I h => ?_⟩
  refine thn (hl.run pins s σ H _ I h) fun v s1 ⟨x, H1, I1, r1, q1⟩ => ?_
  obtain ⟨a, lo, hi, e, ha, ⟨g1, g2, g3, g4⟩, q⟩ := q1
  subst e
  cases r1
  obtain ⟨t, u, v, ho⟩ := I1.hok a _ ha
  refine wpAny_pyIter_range ho (small_one g1 g2 g3 g4) ?_
  refine ⟨s1.heap.objs.size, [s1.heap.objs.size], _, _, H1, rfl, I1.kept (t' := s1.toks) fun b o e => Heap.get?_push_of_some _ e, turn_range _ lo (hi - lo).toNat, ?_, fun b hb => ?_, q⟩
  · have e1 : lo + ((0 : Nat) : Int) * 1 = lo := by simp
    have e2 : (((hi - lo).toNat : Nat) : Int) - ((0 : Nat) : Int) = Builtin.Range.rangeSize lo hi 1 := by rw [rangeSize_one]; split <;> omega
    show IsRangeIter _ _ (lo + ((0 : Nat) : Int) * 1) ((((hi - lo).toNat : Nat) : Int) - ((0 : Nat) : Int)) 1
    rw [e1, e2]
    exact Heap.get?_push_size _ rfl
  · have e : b = s1.heap.objs.size := by simpa using hb
    subst e
    exact I1.fpOk (Nat.le_refl _) (I1.hok.fresh (Nat.le_refl _))
end
section
variable {K : PySem.W.Frag} {W : Wd} {ρ : List Sl} {ν : Nat} {P : Po}
theorem ds_range {i : Nat} {ta : TE} {t : TS} (n : nOwn ρ i = true)
    (h : DeI K W ρ ν ta fun ν1 j => ∀ p, Ds K (W.know p (.rng 0 j)) (ρ.set i (.at (.ref p))) ν1 t P) : Ds K W ρ ν (tSeq (tAsg (tCB rRange1 (tCons ta tNil)) (gName i)) t) P := fun S B σ H D st e => by
  refine h S B σ H _ st fun ν1 v H1 x k1 i1 d1 ⟨j, ex, hj⟩ => ?_
  subst ex
  cases d1
  refine ⟨j, rfl, fun p np => ?_⟩
  have st1 := st.keep k1 i1
  show t D (σ.set i (some (V.ref p))) (upd H1 p (.rng 0 j))
  have s2 : Same H1 (upd H1 p (.rng 0 j)) := upd_new np
  have kp : Kp W.J H1 (upd H1 p (.rng 0 j)) := Kp.same s2
  have inv : W.I ν1 (upd H1 p (.rng 0 j)) := W.hI (fun b hb => by
    obtain ⟨o, ho⟩ := W.hJ st1.inv b hb
    rw [ho, s2 b o ho]) st1.inv
  have f := st1.fresh np
  have st2 := (st1.keep kp inv).setS (i := i) (s := .at (.ref p)) (u := some (V.ref p)) n rfl rfl
  have eo : ownA (ρ.set i (.at (.ref p))) = ownA ρ := ownA_set n rfl
  have st3 := st2.know (p := p) upd_same f.2.2 (by rw [eo]; exact f.2.1)
  have sB : Same B (hid (W.J ++ ownA (ρ.set i (.at (.ref p)))) (upd H1 p (.rng 0 j))) := st2.fr
  exact hj p S _ _ _ D st3 ⟨fun _ ρ' σ' H2 s2 h2 => e.nx _ ρ' σ' H2 (s2.unknow sB st.al st.gb) h2, fun _ s v H2 r h2 => e.rt _ s v H2 (r.unknow sB) h2, fun _ ρ' σ' H2 s2 h2 => e.bk _ ρ' σ' H2 (s2.unknow sB st.al st.gb) h2, fun _ ρ' σ' H2 s2 h2 => e.ct _ ρ' σ' H2 (s2.unknow sB st.al st.gb) h2⟩
theorem di_rngO {m : Nat} {p : Addr} {j : Int} {Ψ : Nat → List PyData → Prop} (hm : ρ[m]? = some (.at (.ref p))) (g : W.G p = some (.rng 0 j)) (g1 : -(2 ^ 62) ≤ j) (g2 : j < 2 ^ 62) (h : Ψ ν (rngD 0 j.toNat)) : Di K W ρ ν (iRngO (tVar m)) Ψ := fun S B σ H R st q => by
  obtain ⟨u, eu, e3⟩ := st.sl m _ hm
  subst e3
  have hp := known_at st g
  refine ⟨_, eu, p, 0, j, rfl, hp, ⟨by omega, by omega, g1, g2⟩, ?_⟩
  have := q ν _ H _ Kp.refl st.inv (itok_rng (lo := 0) (n := j.toNat)) h
  rw [show j - 0 = j from by omega]
  exact this
end
end Bd
namespace Bd
open PySem PySem.Spec PyProof.Rows L2 HT
/-! a def that is handed known lists in a dict between its other arguments -/
def spKm {ι : Type} (K : PySem.W.Frag) (arg arg2 : ι → List PyData) (L : ι → List (List Int)) (pre : ι → Prop) (post : ι → Sl → Prop) : Sp := fun vs H Q _ => ∃ (i : ι) (p : Addr) (S : List Addr) (us ws : List V), vs = us ++ (V.ref p :: ws) ∧ (∀ a ∈ S, ∃ o, H a = some o) ∧ H p = some (.dT (knowT (L i))) ∧
  Dds K (hid S H) us (arg i) ∧ Dds K (hid S H) ws (arg2 i) ∧ pre i ∧ ∀ ν' s v H', post i s → RetOk K (Wn.know p (.dT (knowT (L i)))) S (hid [] H) s v H' ν' → Q v H'
section
variable {ι : Type} {K : PySem.W.Frag} {arg arg2 : ι → List PyData} {L : ι → List (List Int)} {pre : ι → Prop} {post : ι → Sl → Prop} {H : Hp}
theorem spKm_len {n : Nat} {vs : List V} {Q : VK} {E : XK} (h : spKm K arg arg2 L pre post vs H Q E) (hl : ∀ i, (arg i).length + ((arg2 i).length + 1) = n) : vs.length = n := by
  obtain ⟨i, p, S, us, ws, rfl, _, _, d, d2, _⟩ := h
  rw [List.length_append, List.length_cons, d.len, d2.len]
  exact hl i
theorem fn_runKm {N : List Str} {vs : List V} {Q : VK} {E : XK} {t : TS} (ρ0 : ι → Addr → List Sl) (h : spKm K arg arg2 L pre post vs H Q E)
    (hρ : ∀ i p, (arg i).map .d ++ ([V.ref p].map .at ++ ((arg2 i).map .d ++ List.replicate (N.length - ((arg i).length + ((arg2 i).length + 1))) .un)) = ρ0 i p)
    (hd : ∀ i p, pre i → Ds K (Wn.know p (.dT (knowT (L i)))) (ρ0 i p) 0 t ⟨fun _ _ => post i (.d .none), fun _ s => post i s, fun _ _ => False, fun _ _ => False⟩) :
    t { nx := fun _ H' => Q .non H', rt := Q } (L2.start N vs) H := by
  obtain ⟨i, p, S, us, ws, rfl, hal, hp, hD, hD2, hpre, q⟩ := h
  have hl := hD.len
  have hl2 := hD2.len
  have e1 : L2.start N (us ++ (V.ref p :: ws)) = us.map some ++ ([V.ref p].map some ++ (ws.map some ++ List.replicate (N.length - ((arg i).length + ((arg2 i).length + 1))) none)) := by
    unfold L2.start
    rw [List.map_append, List.append_assoc, List.length_append, List.length_cons, hl, hl2]
    rfl
  rw [e1]
  have eo : ownA ((arg i).map Sl.d ++ ([V.ref p].map Sl.at ++ ((arg2 i).map Sl.d ++ List.replicate (N.length - ((arg i).length + ((arg2 i).length + 1))) Sl.un))) = [] := by
    have gen : ∀ (xs : List PyData) (r : List Sl), ownA (xs.map Sl.d ++ r) = ownA r := by
      intro xs
      induction xs with
      | nil => intro r; rfl
      | cons x xs ih => intro r; exact ih r
    rw [gen]
    exact ownA_start [V.ref p] (arg2 i) _
  have al := (AllSl.ds (H := H) hD).app ((AllSl.jss (K := K) (Hh := hid S H) (H := H) [V.ref p]).app ((AllSl.ds (H := H) hD2).app (AllSl.un (N.length - ((arg i).length + ((arg2 i).length + 1))))))
  have := hd i p hpre
  rw [← hρ i p] at this
  refine this S (hid [] H) _ H _ ⟨al.1, fun j s e => ?_, fun j k a xs ys e => ?_, fun a ha => ?_, fun a ha => (nomatch ha), ?_, trivial, fun a ha => ?_, fun b u e => ?_⟩ ⟨fun _ ρ σ H' st h => q _ _ _ _ h (st.ret .non), fun _ s v H' r h => q _ _ _ _ h r, fun _ _ _ _ _ h => h.elim, fun _ _ _ _ _ h => h.elim⟩
  · rw [eo, List.append_nil]; exact al.2 j s e
  · have : a ∈ ownA ((arg i).map Sl.d ++ ([V.ref p].map Sl.at ++ ((arg2 i).map Sl.d ++ List.replicate (N.length - ((arg i).length + ((arg2 i).length + 1))) Sl.un))) := mem_ownA.mpr ⟨_, _, e⟩
    rw [eo] at this; cases this
  · rw [eo] at ha; cases ha
  · rw [eo, List.append_nil]; exact fun _ _ h => h
  · obtain ⟨o, e⟩ := hal a ha
    exact .inr ⟨o, hid_of e (by simp)⟩
  · have e : (if b = p then some (HO.dT (knowT (L i))) else none) = some u := e
    by_cases c : b = p
    · subst c
      rw [if_pos rfl] at e
      cases e
      exact hid_of hp (by simp)
    · rw [if_neg c] at e; cases e
end
section
variable {K : PySem.W.Frag} {W : Wd} {ρ : List Sl} {ν : Nat}
theorem dB_callKm {ι : Type} {arg arg2 : ι → List PyData} {L : ι → List (List Int)} {pre : ι → Prop} {post : ι → Sl → Prop} {ta tb tc td te : TE} {n : Nat} {p : Addr} {L0 : List (List Int)} {kb : Nat → Bool → Prop} (hn : ρ[n]? = some (.at (.ref p))) (g : W.G p = some (.dT (knowT L0)))
    (h : De K W ρ ν ta fun ν1 x => De K W ρ ν1 tb fun ν2 y => De K W ρ ν2 tc fun ν3 z => De K W ρ ν3 td fun ν4 x2 => De K W ρ ν4 te fun ν5 y2 => ∃ i, arg i = [x, y, z] ∧ arg2 i = [x2, y2] ∧ L i = L0 ∧ pre i ∧ ∀ s, post i s → ∃ b, s = .d (.bool b) ∧ kb ν5 b) : DeB K W ρ ν (tCall (spKm K arg arg2 L pre post) [] E0 (tCons ta (tCons tb (tCons tc (tCons (tVar n) (tCons td (tCons te tNil))))))) kb := fun S B σ H Q st q => by
  refine h S B σ H _ st fun ν1 v H1 x k1 i1 d1 h1 => ?_
  have st1 := st.keep k1 i1
  refine h1 S B σ H1 _ st1 fun ν2 u H2 y k2 i2 d2 h2 => ?_
  have st2 := st1.keep k2 i2
  refine h2 S B σ H2 _ st2 fun ν3 t H3 z k3 i3 d3 h3 => ?_
  have st3 := st2.keep k3 i3
  obtain ⟨u4, eu4, e4⟩ := st3.sl n _ hn
  subst e4
  refine ⟨_, eu4, ?_⟩
  refine h3 S B σ H3 _ st3 fun ν4 v4 H4 x2 k4 i4 d4 h4 => ?_
  have st4 := st3.keep k4 i4
  refine h4 S B σ H4 _ st4 fun ν5 v5 H5 y2 k5 i5 d5 ⟨i, ea, ea2, el, hpre, hq⟩ => ?_
  have st5 := st4.keep k5 i5
  show spKm K arg arg2 L pre post ([v, u, t, .ref p, v4, v5] ++ []) H5 Q E0
  rw [List.append_nil]
  have hp := known_at st5 g
  refine ⟨i, p, S ++ ownA ρ, [v, u, t], [v4, v5], rfl, st5.alive, by rw [el]; exact hp, ?_, ?_, hpre, fun ν' s w H6 hs r => ?_⟩
  · rw [ea]
    have k45 := k4.trans k5
    exact .cons (d1.same (st1.kpS ((k2.trans k3).trans k45))) (.cons (d2.same (st2.kpS (k3.trans k45))) (.cons (d3.same (st3.kpS k45)) .nil))
  · rw [ea2]
    exact .cons (d4.same (st4.kpS k5)) (.cons d5 .nil)
  · obtain ⟨b, rfl, hb⟩ := hq s hs
    have hsame : Same (hid [] H5) (hid [] H6) := r.1
    obtain ⟨k6, i6⟩ := kp_of0 st5 hsame
    exact q ν5 w H6 _ ((((k1.trans k2).trans k3).trans (k4.trans k5)).trans k6) i6 r.2.2 ⟨b, rfl, hb⟩
theorem dt_notKnownD {m n : Nat} {p : Addr} {ns : List Int} {L : List (List Int)} {Χ : Nat → Bool → Prop} (hm : ρ[m]? = some (.d (intsD ns))) (hn : ρ[n]? = some (.at (.ref p))) (g : W.G p = some (.dT (knowT L)))
    (h : Χ ν (!decide (ns ∈ L))) : Dt K W ρ ν (tB (tDNotIn (tThen (tVar m) (kTup K)) (tVar n))) Χ := fun S B σ H Q st q => by
  obtain ⟨v, ev, d⟩ := st.slot hm
  obtain ⟨u2, eu2, e3⟩ := st.sl n _ hn
  subst e3
  have hp := known_at st g
  cases d with
  | @lst a vs _ ea ds =>
    cases ds.ints_eq
    have e2 := (of_hid ea).1
    refine ⟨_, ev, .inl ⟨a, _, rfl, .inl (.inl e2), fun b nb => ⟨_, eu2, p, _, rfl, DGet.t (k := keyI ns) (upd_new nb p _ hp) (by rw [keyI_v]; exact upd_same), ?_⟩⟩⟩
    rw [know_has]
    exact ⟨_, rfl, q _ _ _ (st.new nb).1 (st.new nb).2 h⟩
/-- a def that is handed a new list of its own -/
theorem dB_callF {ι : Type} {arg : ι → List PyData} {pre : ι → Nat → Prop} {post : ι → Nat → Nat → Sl → Prop} {te : TE} {sp : Sp} {kb : Nat → Bool → Prop} {JP : List Int → Prop} (hs : ∀ a vs H Q, spD K ((Wg fun _ => none).add a fun _ => JP) [.ref a] arg pre post vs H Q E0 → sp vs H Q E0)
    (h : Do K W ρ ν te fun ν1 xs => ∃ ns : List Int, xs = ns.map .int ∧ JP ns ∧ ∃ i, arg i = [] ∧ pre i 0 ∧ ∀ ν2 s, post i 0 ν2 s → ∃ b, s = .d (.bool b) ∧ kb ν1 b) : DeB K W ρ ν (tCall sp [] E0 (tCons te tNil)) kb := fun S B σ H Q st q => by
  refine h S B σ H _ st fun ν1 a H1 vs xs k1 i1 na ha da ⟨ns, ex, hj, i, ea, hp, hq⟩ => ?_
  subst ex
  cases da.ints_eq
  have st1 := st.keep k1 i1
  show sp ([V.ref a] ++ []) H1 Q E0
  refine hs a _ _ _ ⟨i, 0, a :: (S ++ ownA ρ), [], rfl, fun b hb => ?_, fun b hb => ?_, ⟨trivial, ns, ha, hj⟩, fun b o e => (nomatch e), by rw [ea]; exact .nil, hp, fun ν2 s v H2 hs2 r => ?_⟩
  · rcases List.mem_cons.mp hb with rfl | hb
    · exact List.mem_cons_self
    · cases hb
  · rcases List.mem_cons.mp hb with rfl | hb
    · exact ⟨_, ha⟩
    · exact st1.alive b hb
  · obtain ⟨b, rfl, hb⟩ := hq ν2 s hs2
    have hsame : Same (hid [a] H1) (hid [a] H2) := r.1
    have naJ : a ∉ W.J := fun z => by
      obtain ⟨o, e⟩ := W.hJ st.inv a z
      rw [na] at e; cases e
    have keep : ∀ b o, b ≠ a → H1 b = some o → H2 b = some o := fun b o n e => (of_hid (hsame b o (hid_of e (by simpa using n)))).1
    have kk : Kp W.J H H2 := fun b o e => by
      obtain ⟨e1, e2⟩ := of_hid e
      obtain ⟨e3, e4⟩ := of_hid (k1 b o e)
      exact hid_of (keep b o (fun z => by rw [z, na] at e1; cases e1) e3) e4
    have d : Dd K (hid (a :: (S ++ ownA ρ)) H2) v (.bool b) := r.2.2
    cases d
    refine q ν1 _ H2 _ kk (W.hI (fun c hc => ?_) i1) (.bl b) ⟨b, rfl, hb⟩
    obtain ⟨o, e⟩ := W.hJ i1 c hc
    rw [e]
    exact keep c o (fun z => naJ (z ▸ hc)) e
end
end Bd
namespace Bd
/-! sets of rooms as numbers; what a set has together -/
def ssum : Nat → (Nat → Int) → Nat → Int
  | 0, _, _ => 0
  | n + 1, x, k => ssum n x k + if k.testBit n then x n else 0
theorem ssum_congr : ∀ {n : Nat} {x y : Nat → Int} {k : Nat}, (∀ i, i < n → x i = y i) → ssum n x k = ssum n y k
  | 0, _, _, _, _ => rfl
  | n + 1, x, y, k, h => by
    show ssum n x k + _ = ssum n y k + _
    rw [ssum_congr (n := n) fun i hi => h i (by omega), h n (by omega)]
theorem ssum_bits : ∀ {n : Nat} {x : Nat → Int} {k j : Nat}, (∀ i, i < n → k.testBit i = j.testBit i) → ssum n x k = ssum n x j
  | 0, _, _, _, _ => rfl
  | n + 1, x, k, j, h => by
    show ssum n x k + _ = ssum n x j + _
    rw [ssum_bits (n := n) fun i hi => h i (by omega), h n (by omega)]
theorem ssum_add : ∀ (n : Nat) (x y : Nat → Int) (k : Nat), ssum n (fun i => x i + y i) k = ssum n x k + ssum n y k
  | 0, _, _, _ => rfl
  | n + 1, x, y, k => by
    show ssum n (fun i => x i + y i) k + (if k.testBit n then x n + y n else 0) = (ssum n x k + if k.testBit n then x n else 0) + (ssum n y k + if k.testBit n then y n else 0)
    rw [ssum_add n x y k]
    split <;> omega
theorem ssum_two : ∀ (n : Nat) (x : Nat → Int) (a b : Nat), ssum n x (a ||| b) + ssum n x (a &&& b) = ssum n x a + ssum n x b
  | 0, _, _, _ => rfl
  | n + 1, x, a, b => by
    show (ssum n x (a ||| b) + _) + (ssum n x (a &&& b) + _) = (ssum n x a + _) + (ssum n x b + _)
    have h := ssum_two n x a b
    rw [Nat.testBit_or, Nat.testBit_and]
    cases a.testBit n <;> cases b.testBit n <;> simp <;> omega
theorem ssum_even : ∀ {n : Nat} {x : Nat → Int} (k : Nat), (∀ i, i < n → x i % 2 = 0) → ssum n x k % 2 = 0
  | 0, _, _, _ => rfl
  | n + 1, x, k, h => by
    have h1 := ssum_even (n := n) k fun i hi => h i (by omega)
    have h2 := h n (by omega)
    show (ssum n x k + _) % 2 = 0
    split <;> omega
/-- one at q -/
def unit (q : Nat) (c : Int) : Nat → Int := fun i => if i = q then c else 0
theorem ssum_unit : ∀ (n q : Nat) (c : Int) (k : Nat), q < n → ssum n (unit q c) k = if k.testBit q then c else 0
  | 0, _, _, _, h => by omega
  | n + 1, q, c, k, h => by
    show ssum n (unit q c) k + (if k.testBit n then unit q c n else 0) = _
    by_cases e : q = n
    · subst e
      have : ssum q (unit q c) k = 0 := by
        rw [ssum_congr (y := fun _ => 0) fun i hi => by unfold unit; rw [if_neg (by omega)]]
        clear h
        generalize q = m
        induction m with
        | zero => rfl
        | succ m ih => show ssum m _ k + _ = 0; rw [ih]; split <;> rfl
      rw [this, Int.zero_add]
      unfold unit
      rw [if_pos rfl]
    · rw [ssum_unit n q c k (by omega)]
      unfold unit
      rw [if_neg (by omega : ¬ n = q)]
      split <;> split <;> omega
/-! the vectors of a table -/
structure Base (n : Nat) (f : Nat → Int) (x : Nat → Int) : Prop where
  le : ∀ k, k < 2 ^ n → ssum n x k ≤ f k
  all : ssum n x (2 ^ n - 1) = f (2 ^ n - 1)
  ev : ∀ i, i < n → x i % 2 = 0
structure Sub (n : Nat) (f : Nat → Int) : Prop where
  sub : ∀ a b, a < 2 ^ n → b < 2 ^ n → f (a ||| b) + f (a &&& b) ≤ f a + f b
  ev : ∀ k, k < 2 ^ n → f k % 2 = 0
  zero : f 0 = 0
theorem ssum_zero : ∀ (n : Nat) (x : Nat → Int), ssum n x 0 = 0
  | 0, _ => rfl
  | n + 1, x => by
    show ssum n x 0 + _ = 0
    rw [ssum_zero n x, Nat.zero_testBit]; rfl
theorem bit_hi {n k i : Nat} (h : k < 2 ^ n) (hi : n ≤ i) : k.testBit i = false := Nat.testBit_lt_two_pow (Nat.lt_of_lt_of_le h (Nat.pow_le_pow_right (by decide) hi))
theorem full_bit {n i : Nat} (h : i < n) : (2 ^ n - 1).testBit i = true := by rw [Nat.testBit_two_pow_sub_one]; exact decide_eq_true h
theorem eq_bits {n a b : Nat} (ha : a < 2 ^ n) (hb : b < 2 ^ n) (h : ∀ i, i < n → a.testBit i = b.testBit i) : a = b := Nat.eq_of_testBit_eq fun i => by
  by_cases c : i < n
  · exact h i c
  · rw [bit_hi ha (by omega), bit_hi hb (by omega)]
section
variable {n : Nat} {f x : Nat → Int}
def Tight (n : Nat) (f x : Nat → Int) (k : Nat) : Prop := k < 2 ^ n ∧ ssum n x k = f k
theorem tight_two (S : Sub n f) (b : Base n f x) {p q : Nat} (hp : Tight n f x p) (hq : Tight n f x q) : Tight n f x (p ||| q) ∧ Tight n f x (p &&& q) := by
  have l1 := Nat.or_lt_two_pow hp.1 hq.1
  have l2 := Nat.and_lt_two_pow p hq.1
  have h1 := ssum_two n x p q
  have h2 := S.sub p q hp.1 hq.1
  have h3 := b.le _ l1
  have h4 := b.le _ l2
  have h5 := hp.2
  have h6 := hq.2
  exact ⟨⟨l1, by omega⟩, ⟨l2, by omega⟩⟩
/-- where a set can have more, two move into it from beside -/
theorem climb (S : Sub n f) (b : Base n f x) {s : Nat} (hs : s < 2 ^ n) (hlt : ssum n x s < f s) : ∃ y, Base n f y ∧ ssum n y s = ssum n x s + 2 := by
  have main : ∃ q r, q < n ∧ r < n ∧ s.testBit q = true ∧ s.testBit r = false ∧ ∀ k, Tight n f x k → k.testBit q = true → k.testBit r = true := by
    refine Classical.byContradiction fun no => ?_
    have hT : ∀ q r, q < n → r < n → s.testBit q = true → s.testBit r = false → ∃ k, Tight n f x k ∧ k.testBit q = true ∧ k.testBit r = false := fun q r hq hr h1 h2 => by
      refine Classical.byContradiction fun no2 => no ⟨q, r, hq, hr, h1, h2, fun k hk hkq => ?_⟩
      cases c : k.testBit r with
      | true => rfl
      | false => exact absurd ⟨k, hk, hkq, c⟩ no2
    have full : Tight n f x (2 ^ n - 1) := ⟨by have := Nat.two_pow_pos n; omega, b.all⟩
    have inn : ∀ q, q < n → s.testBit q = true → ∀ i, i ≤ n → ∃ k, Tight n f x k ∧ k.testBit q = true ∧ ∀ r, r < i → s.testBit r = false → k.testBit r = false := fun q hq h1 i => by
      induction i with
      | zero => exact fun _ => ⟨_, full, full_bit hq, fun r hr => by omega⟩
      | succ i ih =>
        intro hi
        obtain ⟨k, k1, k2, k3⟩ := ih (by omega)
        cases c : s.testBit i with
        | true => exact ⟨k, k1, k2, fun r hr h2 => by
            by_cases e : r = i
            · rw [e, c] at h2; cases h2
            · exact k3 r (by omega) h2⟩
        | false =>
          obtain ⟨m, m1, m2, m3⟩ := hT q i hq (by omega) h1 c
          refine ⟨k &&& m, (tight_two S b k1 m1).2, by rw [Nat.testBit_and, k2, m2]; rfl, fun r hr h2 => ?_⟩
          rw [Nat.testBit_and]
          by_cases e : r = i
          · rw [e, m3, Bool.and_false]
          · rw [k3 r (by omega) h2, Bool.false_and]
    have uni : ∀ i, i ≤ n → (∀ q, q < i → s.testBit q = false) ∨ ∃ k, Tight n f x k ∧ (∀ r, r < n → s.testBit r = false → k.testBit r = false) ∧ ∀ q, q < i → s.testBit q = true → k.testBit q = true := fun i => by
      induction i with
      | zero => exact fun _ => .inl fun q hq => by omega
      | succ i ih =>
        intro hi
        cases c : s.testBit i with
        | false =>
          rcases ih (by omega) with h | ⟨k, k1, k2, k3⟩
          · exact .inl fun q hq => by
              by_cases e : q = i
              · rw [e]; exact c
              · exact h q (by omega)
          · exact .inr ⟨k, k1, k2, fun q hq h2 => by
              by_cases e : q = i
              · rw [e, c] at h2; cases h2
              · exact k3 q (by omega) h2⟩
        | true =>
          obtain ⟨m, m1, m2, m3⟩ := inn i (by omega) c n (Nat.le_refl _)
          rcases ih (by omega) with h | ⟨k, k1, k2, k3⟩
          · exact .inr ⟨m, m1, m3, fun q hq h2 => by
              by_cases e : q = i
              · rw [e]; exact m2
              · rw [h q (by omega)] at h2; cases h2⟩
          · refine .inr ⟨k ||| m, (tight_two S b k1 m1).1, fun r hr h2 => by rw [Nat.testBit_or, k2 r hr h2, m3 r hr h2]; rfl, fun q hq h2 => ?_⟩
            rw [Nat.testBit_or]
            by_cases e : q = i
            · rw [e, m2, Bool.or_true]
            · rw [k3 q (by omega) h2, Bool.true_or]
    rcases uni n (Nat.le_refl _) with h | ⟨k, k1, k2, k3⟩
    · have e0 : s = 0 := eq_bits hs (Nat.two_pow_pos n) fun i hi => by rw [h i hi, Nat.zero_testBit]
      rw [e0, ssum_zero, S.zero] at hlt
      omega
    · have es : k = s := eq_bits k1.1 hs fun i hi => by
        cases c : s.testBit i with
        | true => exact k3 i hi c
        | false => exact k2 i hi c
      rw [es] at k1
      have := k1.2
      omega
  obtain ⟨q, r, hq, hr, h1, h2, h3⟩ := main
  have hne : q ≠ r := fun e => by rw [e, h2] at h1; cases h1
  have hsum : ∀ k, ssum n (fun i => x i + (unit q 2 i + unit r (-2) i)) k = ssum n x k + ((if k.testBit q then 2 else 0) + if k.testBit r then -2 else 0) := fun k => by
    rw [ssum_add, ssum_add, ssum_unit n q 2 k hq, ssum_unit n r (-2) k hr]
  refine ⟨fun i => x i + (unit q 2 i + unit r (-2) i), ⟨fun k hk => ?_, ?_, fun i hi => ?_⟩, ?_⟩
  · rw [hsum]
    have hle := b.le k hk
    have e1 := ssum_even k b.ev
    have e2 := S.ev k hk
    cases c1 : k.testBit q with
    | false => cases c2 : k.testBit r <;> simp <;> omega
    | true =>
      cases c2 : k.testBit r with
      | true => simp; exact hle
      | false =>
        have hnt : ssum n x k ≠ f k := fun e => by
          have := h3 k ⟨hk, e⟩ c1
          rw [c2] at this; cases this
        simp
        omega
  · rw [hsum, full_bit hq, full_bit hr]
    simp
    exact b.all
  · have := b.ev i hi
    unfold unit
    split <;> split <;> omega
  · rw [hsum, h1, h2]
    simp
end
end Bd
namespace Bd
section
variable {n : Nat} {f x : Nat → Int}
/-- the rooms beside a set -/
def besK (n s : Nat) : Nat := 2 ^ n - (s + 1)
theorem bes_lt (n s : Nat) : besK n s < 2 ^ n := by
  unfold besK
  have := Nat.two_pow_pos n
  omega
theorem bes_bit {s i : Nat} (hs : s < 2 ^ n) : (besK n s).testBit i = (decide (i < n) && !s.testBit i) := Nat.testBit_two_pow_sub_succ hs i
theorem ssum_bes {s : Nat} (hs : s < 2 ^ n) : ssum n x s + ssum n x (besK n s) = ssum n x (2 ^ n - 1) := by
  have h := ssum_two n x s (besK n s)
  rw [← h, ssum_bits (k := s &&& besK n s) (j := 0) fun i hi => by rw [Nat.testBit_and, bes_bit hs, Nat.zero_testBit]; cases s.testBit i <;> simp, ssum_zero, Int.add_zero]
  exact ssum_bits fun i hi => by rw [Nat.testBit_or, bes_bit hs, full_bit hi, decide_eq_true hi]; cases s.testBit i <;> rfl
theorem climb_to (S : Sub n f) {s : Nat} (hs : s < 2 ^ n) : ∀ (m : Nat) {x : Nat → Int}, Base n f x → ssum n x s + 2 * m ≤ f s → ∃ y, Base n f y ∧ ssum n y s = ssum n x s + 2 * m
  | 0, x, b, _ => ⟨x, b, by omega⟩
  | m + 1, x, b, h => by
    obtain ⟨y, b1, e1⟩ := climb S b hs (by omega)
    obtain ⟨z, b2, e2⟩ := climb_to S hs m b1 (by omega)
    exact ⟨z, b2, by omega⟩
theorem base_range (b : Base n f x) {s : Nat} (hs : s < 2 ^ n) : f (2 ^ n - 1) - f (besK n s) ≤ ssum n x s ∧ ssum n x s ≤ f s := by
  have h1 := ssum_bes (x := x) hs
  have h2 := b.le _ (bes_lt n s)
  have h3 := b.all
  exact ⟨by omega, b.le s hs⟩
/-- every second number between is had -/
theorem all_between (S : Sub n f) (b : Base n f x) {s : Nat} (hs : s < 2 ^ n) {v : Int} (hv : v % 2 = 0) (h0 : f (2 ^ n - 1) - f (besK n s) ≤ v) (h1 : v ≤ f s) : ∃ y, Base n f y ∧ ssum n y s = v := by
  have hb := bes_lt n s
  have p1 := S.ev _ hb
  have p2 := S.ev (2 ^ n - 1) (by have := Nat.two_pow_pos n; omega)
  have q1 := ssum_even (besK n s) b.ev
  have l1 := b.le _ hb
  obtain ⟨y, by1, ey⟩ := climb_to S hb ((f (besK n s) - ssum n x (besK n s)) / 2).toNat b (by omega)
  have c1 := ssum_bes (x := y) hs
  have c2 := by1.all
  have q2 := ssum_even s by1.ev
  obtain ⟨z, bz, ez⟩ := climb_to S hs ((v - ssum n y s) / 2).toNat by1 (by omega)
  exact ⟨z, bz, by omega⟩
end
/-! the least of all sets about one -/
def tN (f : Nat → Int) : Nat → Nat → Int
  | 0, k => f k
  | i + 1, k => min (tN f i k) (tN f i (k ||| 2 ^ i))
def SubK (k t : Nat) : Prop := ∀ b, k.testBit b = true → t.testBit b = true
theorem tN_le {f : Nat → Int} : ∀ (i : Nat) {k t : Nat}, SubK k t → (∀ b, t.testBit b = true → k.testBit b = true ∨ b < i) → tN f i k ≤ f t
  | 0, k, t, h1, h2 => by
    have : k = t := Nat.eq_of_testBit_eq fun b => by
      cases c : k.testBit b with
      | true => exact (h1 b c).symm
      | false =>
        cases d : t.testBit b with
        | false => rfl
        | true =>
          rcases h2 b d with h | h
          · rw [c] at h; cases h
          · omega
    rw [this]; exact Int.le_refl _
  | i + 1, k, t, h1, h2 => by
    show min (tN f i k) (tN f i (k ||| 2 ^ i)) ≤ f t
    cases c : t.testBit i with
    | false =>
      have := tN_le (f := f) i h1 fun b hb => by
        rcases h2 b hb with h | h
        · exact .inl h
        · by_cases e : b = i
          · rw [e, c] at hb; cases hb
          · exact .inr (by omega)
      omega
    | true =>
      have := tN_le (f := f) i (k := k ||| 2 ^ i) (t := t) (fun b hb => by
        rw [Nat.testBit_or, Nat.testBit_two_pow] at hb
        by_cases e : i = b
        · rw [← e]; exact c
        · rw [decide_eq_false e, Bool.or_false] at hb
          exact h1 b hb) fun b hb => by
        rw [Nat.testBit_or, Nat.testBit_two_pow]
        rcases h2 b hb with h | h
        · exact .inl (by rw [h]; rfl)
        · by_cases e : i = b
          · exact .inl (by rw [decide_eq_true e, Bool.or_true])
          · exact .inr (by omega)
      omega
theorem tN_at {f : Nat → Int} : ∀ (i : Nat) (k : Nat), ∃ t, SubK k t ∧ (∀ b, t.testBit b = true → k.testBit b = true ∨ b < i) ∧ tN f i k = f t
  | 0, k => ⟨k, fun _ h => h, fun _ h => .inl h, rfl⟩
  | i + 1, k => by
    obtain ⟨t1, a1, a2, a3⟩ := tN_at (f := f) i k
    obtain ⟨t2, b1, b2, b3⟩ := tN_at (f := f) i (k ||| 2 ^ i)
    have e : tN f (i + 1) k = min (tN f i k) (tN f i (k ||| 2 ^ i)) := rfl
    by_cases c : tN f i k ≤ tN f i (k ||| 2 ^ i)
    · exact ⟨t1, a1, fun b hb => (a2 b hb).imp id fun h => by omega, by rw [e]; omega⟩
    · refine ⟨t2, fun b hb => b1 b (by rw [Nat.testBit_or, hb]; rfl), fun b hb => ?_, by rw [e]; omega⟩
      rcases b2 b hb with h | h
      · rw [Nat.testBit_or, Nat.testBit_two_pow] at h
        by_cases e : i = b
        · exact .inr (by omega)
        · rw [decide_eq_false e, Bool.or_false] at h
          exact .inl h
      · exact .inr (by omega)
section
variable {n : Nat} {f : Nat → Int}
def tight (n : Nat) (f : Nat → Int) : Nat → Int := tN f n
theorem tight_le {k t : Nat} (h : SubK k t) (ht : t < 2 ^ n) : tight n f k ≤ f t := tN_le n h fun b hb => .inr (by
  refine Classical.byContradiction fun c => ?_
  rw [bit_hi ht (by omega)] at hb
  cases hb)
theorem tight_at {k : Nat} (hk : k < 2 ^ n) : ∃ t, SubK k t ∧ t < 2 ^ n ∧ tight n f k = f t := by
  obtain ⟨t, h1, h2, h3⟩ := tN_at (f := f) n k
  refine ⟨t, h1, Nat.lt_pow_two_of_testBit t fun b hb => ?_, h3⟩
  cases c : t.testBit b with
  | false => rfl
  | true =>
    rcases h2 b c with h | h
    · rw [bit_hi hk hb] at h; cases h
    · omega
theorem tight_sub (S : ∀ a b, a < 2 ^ n → b < 2 ^ n → f (a ||| b) + f (a &&& b) ≤ f a + f b) (ev : ∀ k, k < 2 ^ n → f k % 2 = 0) (h0 : f 0 = 0) (nn : ∀ k, k < 2 ^ n → 0 ≤ f k) : Sub n (tight n f) where
  sub := fun a b ha hb => by
    obtain ⟨s, s1, s2, s3⟩ := tight_at (f := f) ha
    obtain ⟨t, t1, t2, t3⟩ := tight_at (f := f) hb
    have h1 : tight n f (a ||| b) ≤ f (s ||| t) := tight_le (fun i hi => by
      rw [Nat.testBit_or] at hi ⊢
      rcases Bool.or_eq_true _ _ |>.mp hi with h | h
      · rw [s1 i h]; rfl
      · rw [t1 i h, Bool.or_true]) (Nat.or_lt_two_pow s2 t2)
    have h2 : tight n f (a &&& b) ≤ f (s &&& t) := tight_le (fun i hi => by
      rw [Nat.testBit_and] at hi ⊢
      obtain ⟨x, y⟩ := Bool.and_eq_true _ _ |>.mp hi
      rw [s1 i x, t1 i y]; rfl) (Nat.and_lt_two_pow s t2)
    have := S s t s2 t2
    omega
  ev := fun k hk => by
    obtain ⟨t, _, t2, t3⟩ := tight_at (f := f) hk
    rw [t3]; exact ev t t2
  zero := by
    obtain ⟨t, _, t2, t3⟩ := tight_at (n := n) (f := f) (k := 0) (Nat.two_pow_pos n)
    have h1 : tight n f 0 ≤ f 0 := tight_le (fun _ h => h) (Nat.two_pow_pos n)
    have := nn t t2
    omega
theorem tight_full : tight n f (2 ^ n - 1) = f (2 ^ n - 1) := by
  have hf : 2 ^ n - 1 < 2 ^ n := by have := Nat.two_pow_pos n; omega
  obtain ⟨t, h1, h2, h3⟩ := tight_at (f := f) hf
  rw [h3]
  congr 1
  exact eq_bits h2 hf fun i hi => by rw [full_bit hi]; exact h1 i (full_bit hi)
theorem tight_mono {a b : Nat} (hb : b < 2 ^ n) (h : SubK a b) : tight n f a ≤ tight n f b := by
  obtain ⟨t, t1, t2, t3⟩ := tight_at (f := f) hb
  rw [t3]
  exact tight_le (fun i hi => t1 i (h i hi)) t2
end
/-! all the vectors -/
def evs (lo hi : Int) : List Int := (List.range ((hi - lo) / 2 + 1).toNat).map fun (i : Nat) => lo + 2 * (i : Int)
theorem mem_evs {lo hi a : Int} : a ∈ evs lo hi ↔ lo ≤ a ∧ a ≤ hi ∧ (a - lo) % 2 = 0 := by
  unfold evs
  rw [List.mem_map]
  constructor
  · rintro ⟨i, hi, rfl⟩
    have := List.mem_range.mp hi
    omega
  · rintro ⟨h1, h2, h3⟩
    exact ⟨((a - lo) / 2).toNat, List.mem_range.mpr (by omega), by show lo + 2 * ((((a - lo) / 2).toNat : Nat) : Int) = a; omega⟩
def red (n : Nat) (f : Nat → Int) (a : Int) : Nat → Int := fun k => min (f k) (f (k + 2 ^ n) - a)
theorem red_le {n : Nat} {f : Nat → Int} {a : Int} (k : Nat) : red n f a k ≤ f k ∧ red n f a k ≤ f (k + 2 ^ n) - a := by
  unfold red
  exact ⟨Int.min_le_left _ _, Int.min_le_right _ _⟩
theorem le_red {n : Nat} {f : Nat → Int} {a v : Int} {k : Nat} (h1 : v ≤ f k) (h2 : v ≤ f (k + 2 ^ n) - a) : v ≤ red n f a k := by
  unfold red
  exact Int.le_min.mpr ⟨h1, h2⟩
theorem red_or {n : Nat} {f : Nat → Int} {a : Int} (k : Nat) : red n f a k = f k ∨ red n f a k = f (k + 2 ^ n) - a := by
  unfold red
  rcases Int.le_total (f k) (f (k + 2 ^ n) - a) with h | h
  · exact .inl (Int.min_eq_left h)
  · exact .inr (Int.min_eq_right h)
def lowA (n : Nat) (f : Nat → Int) : Int := f (2 ^ (n + 1) - 1) - f (2 ^ n - 1)
def leaves : Nat → (Nat → Int) → List (List Int)
  | 0, _ => [[]]
  | n + 1, f => (evs (lowA n f) (f (2 ^ n))).flatMap fun a => (leaves n (red n f a)).map (· ++ [a])
theorem add_bit {n k i : Nat} (hi : i < n) : (k + 2 ^ n).testBit i = k.testBit i := by
  rw [Nat.add_comm, Nat.testBit_two_pow_add_gt hi]
theorem add_top {n k : Nat} (hk : k < 2 ^ n) : (k + 2 ^ n).testBit n = true := by
  rw [Nat.add_comm, Nat.testBit_two_pow_add_eq, bit_hi hk (Nat.le_refl n)]; rfl
theorem getD_snoc {y : List Int} {a : Int} {n i : Nat} (hy : y.length = n) : (y ++ [a]).getD i 0 = if i < n then y.getD i 0 else if i = n then a else 0 := by
  rw [List.getD_eq_getElem?_getD, List.getD_eq_getElem?_getD]
  by_cases h : i < n
  · rw [if_pos h, List.getElem?_append_left (by omega)]
  · rw [if_neg h, List.getElem?_append_right (by omega), hy]
    by_cases e : i = n
    · rw [if_pos e, e, Nat.sub_self]; rfl
    · rw [if_neg e, List.getElem?_eq_none (by simp; omega)]; rfl
theorem ssum_snoc {y : List Int} {a : Int} {n k : Nat} (hy : y.length = n) : ssum (n + 1) (fun i => (y ++ [a]).getD i 0) k = ssum n (fun i => y.getD i 0) k + if k.testBit n then a else 0 := by
  show ssum n (fun i => (y ++ [a]).getD i 0) k + (if k.testBit n then (y ++ [a]).getD n 0 else 0) = _
  rw [getD_snoc hy, if_neg (Nat.lt_irrefl n), if_pos rfl, ssum_congr (n := n) fun i hi => by rw [getD_snoc hy, if_pos hi]]
theorem full_split (n : Nat) : 2 ^ (n + 1) - 1 = (2 ^ n - 1) + 2 ^ n := by
  have := Nat.two_pow_pos n
  rw [Nat.pow_succ]; omega
/-- what is told is just what keeps within the table -/
theorem mem_leaves : ∀ {n : Nat} {f : Nat → Int} {l : List Int}, f 0 = 0 → (∀ k, k < 2 ^ n → f k % 2 = 0) → (l ∈ leaves n f ↔ l.length = n ∧ Base n f fun i => l.getD i 0)
  | 0, f, l, h0, he => by
    show l ∈ [[]] ↔ _
    rw [List.mem_singleton]
    constructor
    · rintro rfl
      exact ⟨rfl, fun k hk => by
        have : k = 0 := by simpa using hk
        subst this
        rw [h0]
        exact Int.le_refl 0, by show (0 : Int) = f (2 ^ 0 - 1); rw [show 2 ^ 0 - 1 = 0 from rfl, h0], fun i hi => by omega⟩
    · exact fun h => List.length_eq_zero_iff.mp h.1
  | n + 1, f, l, h0, he => by
    have p0 := Nat.two_pow_pos n
    have hn : 2 ^ n < 2 ^ (n + 1) := by rw [Nat.pow_succ]; omega
    have hev : ∀ a, a % 2 = 0 → ∀ k, k < 2 ^ n → red n f a k % 2 = 0 := fun a ha k hk => by
      have h1 := he k (by omega)
      have h2 := he (k + 2 ^ n) (by rw [Nat.pow_succ]; omega)
      rcases red_or (n := n) (f := f) (a := a) k with e | e <;> rw [e] <;> omega
    have hz : ∀ a, a ≤ f (2 ^ n) → red n f a 0 = 0 := fun a ha => by
      have h1 := (red_le (n := n) (f := f) (a := a) 0).1
      have h2 := le_red (n := n) (f := f) (a := a) (v := 0) (k := 0) (by omega) (by rw [Nat.zero_add]; omega)
      omega
    have elo : lowA n f % 2 = 0 := by
      have h1 := he (2 ^ (n + 1) - 1) (by omega)
      have h2 := he (2 ^ n - 1) (by omega)
      unfold lowA
      omega
    show l ∈ (evs _ _).flatMap _ ↔ _
    rw [List.mem_flatMap]
    constructor
    · rintro ⟨a, ha, hl⟩
      obtain ⟨y, hy, rfl⟩ := List.mem_map.mp hl
      obtain ⟨a1, a2, a3⟩ := mem_evs.mp ha
      have ae : a % 2 = 0 := by omega
      obtain ⟨y1, y2⟩ := (mem_leaves (hz a a2) (hev a ae)).mp hy
      refine ⟨by rw [List.length_append, y1]; rfl, fun k hk => ?_, ?_, fun i hi => ?_⟩
      · rw [ssum_snoc y1]
        by_cases c : k < 2 ^ n
        · rw [bit_hi c (Nat.le_refl n)]
          have := y2.le k c
          have := (red_le (n := n) (f := f) (a := a) k).1
          rw [if_neg (by decide)]
          omega
        · obtain ⟨j, rfl⟩ : ∃ j, k = j + 2 ^ n := ⟨k - 2 ^ n, by omega⟩
          have hj : j < 2 ^ n := by rw [Nat.pow_succ] at hk; omega
          rw [add_top hj, ssum_bits (j := j) fun i hi => add_bit hi]
          have := y2.le j hj
          have := (red_le (n := n) (f := f) (a := a) j).2
          rw [if_pos rfl]
          omega
      · rw [ssum_snoc y1, full_split, add_top (by omega), ssum_bits (j := 2 ^ n - 1) fun i hi => add_bit hi]
        have := y2.all
        unfold lowA at a1
        rw [full_split] at a1
        have r1 := (red_le (n := n) (f := f) (a := a) (2 ^ n - 1)).2
        have r2 := le_red (n := n) (f := f) (a := a) (v := f (2 ^ n - 1 + 2 ^ n) - a) (k := 2 ^ n - 1) (by omega) (Int.le_refl _)
        rw [if_pos rfl]
        omega
      · rw [getD_snoc y1]
        split
        · exact y2.ev i (by assumption)
        · rw [if_pos (by omega)]; exact ae
    · rintro ⟨hl, b⟩
      have hne : l ≠ [] := fun e => by rw [e] at hl; cases hl
      obtain ⟨y, a, rfl⟩ : ∃ y a, l = y ++ [a] := ⟨l.dropLast, l.getLast hne, (List.dropLast_concat_getLast hne).symm⟩
      have y1 : y.length = n := by rw [List.length_append] at hl; simpa using hl
      have ea : a % 2 = 0 := by
        have := b.ev n (by omega)
        rwa [getD_snoc y1, if_neg (Nat.lt_irrefl n), if_pos rfl] at this
      have h1 := b.le (2 ^ n) hn
      rw [ssum_snoc y1, Nat.testBit_two_pow, decide_eq_true rfl, ssum_bits (j := 0) (fun i hi => by rw [Nat.testBit_two_pow, decide_eq_false (by omega), Nat.zero_testBit]), ssum_zero, if_pos rfl, Int.zero_add] at h1
      have h2 := b.all
      rw [ssum_snoc y1, full_split, add_top (by omega), ssum_bits (j := 2 ^ n - 1) (fun i hi => add_bit hi), if_pos rfl] at h2
      have h3 := b.le (2 ^ n - 1) (by omega)
      rw [ssum_snoc y1, bit_hi (show 2 ^ n - 1 < 2 ^ n by omega) (Nat.le_refl n)] at h3
      rw [if_neg (by decide), Int.add_zero] at h3
      have hlo : lowA n f ≤ a := by
        unfold lowA
        rw [full_split]
        omega
      refine ⟨a, mem_evs.mpr ⟨hlo, h1, by omega⟩, List.mem_map.mpr ⟨y, (mem_leaves (hz a h1) (hev a ea)).mpr ⟨y1, fun k hk => ?_, ?_, fun i hi => ?_⟩, rfl⟩⟩
      · have c1 := b.le k (by omega)
        rw [ssum_snoc y1, bit_hi hk (Nat.le_refl n)] at c1
        have c2 := b.le (k + 2 ^ n) (by rw [Nat.pow_succ]; omega)
        rw [ssum_snoc y1, add_top hk, ssum_bits (j := k) (fun i hi => add_bit hi), if_pos rfl] at c2
        rw [if_neg (by decide), Int.add_zero] at c1
        exact le_red c1 (by omega)
      · have r1 := (red_le (n := n) (f := f) (a := a) (2 ^ n - 1)).2
        have r2 := le_red (n := n) (f := f) (a := a) (v := f (2 ^ n - 1 + 2 ^ n) - a) (k := 2 ^ n - 1) (by omega) (Int.le_refl _)
        omega
      · have := b.ev i (by omega)
        rwa [getD_snoc y1, if_pos hi] at this
end Bd
namespace Bd
/-! the sums of all lots, by sets -/
def cut1 (k : Nat) (x : Dc) : Int := if (k.testBit x.1.1 != k.testBit x.1.2) = true then x.2 else 0
def cutv (z : List Dc) (k : Nat) : Int := (z.map (cut1 k)).sum
theorem cutv_cons (x : Dc) (z : List Dc) (k : Nat) : cutv (x :: z) k = cut1 k x + cutv z k := by unfold cutv; rw [List.map_cons, List.sum_cons]
theorem ssum_nil : ∀ (n k : Nat), ssum n (fun _ => 0) k = 0
  | 0, _ => rfl
  | n + 1, k => by
    show ssum n _ k + _ = 0
    rw [ssum_nil n k]; split <;> rfl
def setL (n k : Nat) : List Nat := (List.range n).filter fun r => k.testBit r
theorem mem_setL {n k r : Nat} : r ∈ setL n k ↔ r < n ∧ k.testBit r = true := by
  unfold setL
  rw [List.mem_filter, List.mem_range]
theorem sum_setL (F : List Int) : ∀ (n k : Nat), sumM F (setL n k) = ssum n (fun r => F.getD r 0) k
  | 0, _ => rfl
  | n + 1, k => by
    have ih := sum_setL F n k
    unfold sumM setL at ih ⊢
    rw [List.range_succ, List.filter_append, List.map_append, List.sum_append, ih]
    show _ = ssum n _ k + _
    cases c : k.testBit n <;> simp [c]
theorem leave_setL {n k : Nat} : ∀ {z : List Dc}, (∀ x ∈ z, x.1.1 < n ∧ x.1.2 < n) → leaveM z (setL n k) = cutv z k
  | [], _ => rfl
  | x :: z, h => by
    have ih := leave_setL (n := n) (k := k) (z := z) fun y hy => h y (List.mem_cons_of_mem _ hy)
    obtain ⟨h1, h2⟩ := h x List.mem_cons_self
    rw [cutv_cons, ← ih]
    unfold leaveM cut1
    have e : lvAt (setL n k) x = (k.testBit x.1.1 != k.testBit x.1.2) := by
      have d : ∀ r, r < n → decide (r ∈ setL n k) = k.testBit r := fun r hr => by
        cases c : k.testBit r with
        | true => exact decide_eq_true (mem_setL.mpr ⟨hr, c⟩)
        | false => exact decide_eq_false fun m => by rw [(mem_setL.mp m).2] at c; cases c
      unfold lvAt
      rw [d _ h1, d _ h2]
    rw [List.filter_cons, e]
    split
    · rw [List.map_cons, List.sum_cons]
    · rw [Int.zero_add]
theorem sums_range {n : Nat} {z : List Dc} {W : List Int} (h : ∀ x ∈ z, x.1.1 < n ∧ x.1.2 < n) : sumsL n z W = (List.range (2 ^ n)).map fun k => ssum n (fun r => W.getD r 0) k + cutv z k := by
  unfold sumsL
  apply List.ext_getElem?
  intro k
  rw [List.getElem?_map, List.getElem?_map]
  by_cases c : k < 2 ^ n
  · rw [lotsN_at n k c, List.getElem?_range c]
    show some (sumM W (setL n k) + leaveM z (setL n k)) = _
    rw [sum_setL, leave_setL h]; rfl
  · rw [List.getElem?_eq_none (by rw [lotsN_len]; omega), List.getElem?_eq_none (by rw [List.length_range]; omega)]; rfl
theorem cut_sub (a b : Nat) : ∀ {z : List Dc}, (∀ x ∈ z, 0 ≤ x.2) → cutv z (a ||| b) + cutv z (a &&& b) ≤ cutv z a + cutv z b
  | [], _ => Int.le_refl 0
  | x :: z, h => by
    have ih := cut_sub a b (z := z) fun y hy => h y (List.mem_cons_of_mem _ hy)
    have hx := h x List.mem_cons_self
    have e : cut1 (a ||| b) x + cut1 (a &&& b) x ≤ cut1 a x + cut1 b x := by
      unfold cut1
      rw [Nat.testBit_or, Nat.testBit_or, Nat.testBit_and, Nat.testBit_and]
      cases a.testBit x.1.1 <;> cases a.testBit x.1.2 <;> cases b.testBit x.1.1 <;> cases b.testBit x.1.2 <;> simp <;> omega
    rw [cutv_cons, cutv_cons, cutv_cons, cutv_cons]
    omega
theorem cut_zero (z : List Dc) : cutv z 0 = 0 := by
  induction z with
  | nil => rfl
  | cons x z ih =>
    rw [cutv_cons, ih]
    unfold cut1
    rw [Nat.zero_testBit, Nat.zero_testBit]; rfl
theorem met_cut {n k : Nat} : ∀ {z : List Dc}, (∀ x ∈ z, x.1.1 < n ∧ x.1.2 < n) → (ssum n (metAt z) k + cutv z k) % 2 = 0
  | [], _ => by
    have : ssum n (metAt []) k = 0 := (ssum_congr (y := fun _ => 0) fun i _ => rfl).trans (ssum_nil n k)
    rw [this]; rfl
  | x :: z, h => by
    have ih := met_cut (n := n) (k := k) (z := z) fun y hy => h y (List.mem_cons_of_mem _ hy)
    obtain ⟨h1, h2⟩ := h x List.mem_cons_self
    have e : ssum n (metAt (x :: z)) k = (if k.testBit x.1.1 then x.2 else 0) + (if k.testBit x.1.2 then x.2 else 0) + ssum n (metAt z) k := by
      rw [← ssum_unit n x.1.1 x.2 k h1, ← ssum_unit n x.1.2 x.2 k h2, ← ssum_add, ← ssum_add]
      refine ssum_congr fun i _ => ?_
      unfold metAt unit
      rw [List.map_cons, List.sum_cons]
      simp only [eq_comm]
    rw [e, cutv_cons]
    unfold cut1
    cases k.testBit x.1.1 <;> cases k.testBit x.1.2 <;> simp <;> omega
end Bd
namespace Bd
/-! the vectors, made room by room -/
abbrev Pw := List Int × (Nat → Int)
def widerL (m : Nat) (p : Pw) : List Pw := (evs (lowA m p.2) (p.2 (2 ^ m))).map fun a => (a :: p.1, red m p.2 a)
def FL (n : Nat) (f : Nat → Int) : Nat → List Pw
  | 0 => [([], f)]
  | i + 1 => (FL n f i).flatMap (widerL (n - i - 1))
def doneL (m : Nat) (L : List Pw) : List (List Int) := L.flatMap fun p => (leaves m p.2).map (· ++ p.1)
theorem done_step (m : Nat) (L : List Pw) : doneL m (L.flatMap (widerL m)) = doneL (m + 1) L := by
  unfold doneL
  rw [List.flatMap_assoc]
  congr 1
  funext p
  show (widerL m p).flatMap _ = ((evs (lowA m p.2) (p.2 (2 ^ m))).flatMap fun a => (leaves m (red m p.2 a)).map (· ++ [a])).map (· ++ p.1)
  unfold widerL
  rw [List.flatMap_map, List.map_flatMap]
  congr 1
  funext a
  rw [List.map_map]
  refine List.map_congr_left fun l _ => ?_
  show l ++ (a :: p.1) = (l ++ [a]) ++ p.1
  rw [List.append_assoc]; rfl
theorem done_all (n : Nat) (f : Nat → Int) : ∀ i, i ≤ n → doneL (n - i) (FL n f i) = leaves n f
  | 0, _ => by
    show doneL (n - 0) [([], f)] = _
    unfold doneL
    rw [List.flatMap_cons, List.flatMap_nil, List.append_nil, Nat.sub_zero]
    conv => rhs; rw [← List.map_id (leaves n f)]
    exact List.map_congr_left fun l _ => List.append_nil l
  | i + 1, h => by
    have ih := done_all n f i (by omega)
    show doneL (n - (i + 1)) ((FL n f i).flatMap (widerL (n - i - 1))) = _
    rw [show n - (i + 1) = n - i - 1 from by omega, done_step, show n - i - 1 + 1 = n - i from by omega, ih]
theorem FL_end (n : Nat) (f : Nat → Int) : (FL n f n).map (·.1) = leaves n f := by
  rw [← done_all n f n (Nat.le_refl n), Nat.sub_self]
  unfold doneL
  show _ = (FL n f n).flatMap fun p => ([[]] : List (List Int)).map (· ++ p.1)
  generalize FL n f n = L
  induction L with
  | nil => rfl
  | cons p L ih => rw [List.map_cons, List.flatMap_cons, ih]; rfl
/-! how many there are -/
def cbSum (g : Nat → Nat) : Nat → Nat
  | 0 => 0
  | r + 1 => cbSum g r + g r
def cb : Nat → Nat → Nat
  | 0, _ => 1
  | i + 1, r => cbSum (cb i) (r + 1)
/-- a table that rises -/
structure Mn (m : Nat) (g : Nat → Int) (T : Int) : Prop where
  zero : g 0 = 0
  mono : ∀ a b, a < 2 ^ m → b < 2 ^ m → SubK a b → g a ≤ g b
  le : ∀ a, a < 2 ^ m → g a ≤ T
theorem Mn.nn {m : Nat} {g : Nat → Int} {T : Int} (h : Mn m g T) {a : Nat} (ha : a < 2 ^ m) : 0 ≤ g a := by
  have := h.mono 0 a (Nat.two_pow_pos m) ha fun b hb => by rw [Nat.zero_testBit] at hb; cases hb
  rw [h.zero] at this
  exact this
def rem (m : Nat) (g : Nat → Int) : Nat := (g (2 ^ m - 1) / 2).toNat
theorem sub_full {m k : Nat} (hk : k < 2 ^ m) : SubK k (2 ^ m - 1) := fun b hb => by
  refine full_bit (Nat.lt_of_not_le fun c => ?_)
  rw [bit_hi hk c] at hb; cases hb
theorem sub_add {m a b : Nat} (ha : a < 2 ^ m) (hb : b < 2 ^ m) (h : SubK a b) : SubK (a + 2 ^ m) (b + 2 ^ m) := fun i hi => by
  by_cases c : i < m
  · rw [add_bit c] at hi ⊢; exact h i hi
  · by_cases e : i = m
    · rw [e]; exact add_top hb
    · have : a + 2 ^ m < 2 ^ (m + 1) := by rw [Nat.pow_succ]; omega
      rw [bit_hi this (by omega)] at hi; cases hi
theorem Mn.red {m : Nat} {g : Nat → Int} {T a : Int} (h : Mn (m + 1) g T) (h0 : lowA m g ≤ a) (h1 : a ≤ g (2 ^ m)) : Mn m (red m g a) T ∧ red m g a (2 ^ m - 1) = g (2 ^ (m + 1) - 1) - a := by
  have p0 := Nat.two_pow_pos m
  have e2 : 2 ^ (m + 1) = 2 ^ m + 2 ^ m := by rw [Nat.pow_succ]; omega
  refine ⟨⟨?_, fun x y hx hy hs => ?_, fun x hx => ?_⟩, ?_⟩
  · have r1 := (red_le (n := m) (f := g) (a := a) 0).1
    have r2 := le_red (n := m) (f := g) (a := a) (v := 0) (k := 0) (by rw [h.zero]; exact Int.le_refl 0) (by rw [Nat.zero_add]; omega)
    have := h.zero
    omega
  · have m1 := h.mono x y (by omega) (by omega) hs
    have m2 := h.mono (x + 2 ^ m) (y + 2 ^ m) (by omega) (by omega) (sub_add hx hy hs)
    obtain ⟨r1, r2⟩ := red_le (n := m) (f := g) (a := a) x
    exact le_red (by omega) (by omega)
  · have := (red_le (n := m) (f := g) (a := a) x).1
    have := h.le x (by omega)
    omega
  · unfold lowA at h0
    rw [full_split] at h0 ⊢
    have r1 := (red_le (n := m) (f := g) (a := a) (2 ^ m - 1)).2
    have r2 := le_red (n := m) (f := g) (a := a) (v := g (2 ^ m - 1 + 2 ^ m) - a) (k := 2 ^ m - 1) (by omega) (Int.le_refl _)
    omega
theorem Mn.low {m : Nat} {g : Nat → Int} {T : Int} (h : Mn (m + 1) g T) : 0 ≤ lowA m g ∧ g (2 ^ m) ≤ g (2 ^ (m + 1) - 1) := by
  have p0 := Nat.two_pow_pos m
  have e2 : 2 ^ (m + 1) = 2 ^ m + 2 ^ m := by rw [Nat.pow_succ]; omega
  have h1 := h.mono (2 ^ m - 1) (2 ^ (m + 1) - 1) (by omega) (by omega) (sub_full (by omega))
  have h2 := h.mono (2 ^ m) (2 ^ (m + 1) - 1) (by omega) (by omega) (sub_full (by omega))
  unfold lowA
  exact ⟨by omega, h2⟩
theorem cbSum_le {g : Nat → Nat} : ∀ {k r : Nat}, k ≤ r → cbSum g k ≤ cbSum g r
  | k, 0, h => by have : k = 0 := by omega
                  subst this; exact Nat.le_refl _
  | k, r + 1, h => by
    by_cases e : k = r + 1
    · rw [e]; exact Nat.le_refl _
    · have := cbSum_le (g := g) (k := k) (r := r) (by omega)
      show cbSum g k ≤ cbSum g r + g r
      omega
/-- numbers that follow one another, counted down from r -/
theorem run_sum (g : Nat → Nat) (r : Nat) : ∀ (k lo : Nat), lo + k ≤ r + 1 → ((List.range k).map fun i => g (r - (lo + i))).sum + cbSum g (r + 1 - (lo + k)) = cbSum g (r + 1 - lo)
  | 0, lo, _ => by simp
  | k + 1, lo, h => by
    have ih := run_sum g r k lo (by omega)
    rw [List.range_succ, List.map_append, List.sum_append, List.map_cons, List.map_nil, List.sum_cons, List.sum_nil]
    have : cbSum g (r + 1 - (lo + k)) = cbSum g (r + 1 - (lo + (k + 1))) + g (r - (lo + k)) := by
      rw [show r + 1 - (lo + k) = (r + 1 - (lo + (k + 1))) + 1 from by omega]
      show cbSum g _ + g _ = _
      rw [show r + 1 - (lo + (k + 1)) = r - (lo + k) from by omega]
    omega
def phi (m : Nat) (L : List Pw) : Nat := (L.map fun p => cb m (rem m p.2)).sum
theorem cb_pos : ∀ (m r : Nat), 1 ≤ cb m r
  | 0, _ => Nat.le_refl 1
  | m + 1, r => by
    show 1 ≤ cbSum (cb m) r + cb m r
    have := cb_pos m r
    omega
theorem len_phi (m : Nat) : ∀ L : List Pw, L.length ≤ phi m L
  | [] => Nat.zero_le _
  | p :: L => by
    have ih := len_phi m L
    have := cb_pos m (rem m p.2)
    unfold phi at ih ⊢
    rw [List.length_cons, List.map_cons, List.sum_cons]
    omega
theorem phi_wider {m : Nat} {p : Pw} {T : Int} (h : Mn (m + 1) p.2 T) (ev : p.2 (2 ^ (m + 1) - 1) % 2 = 0) (el : lowA m p.2 % 2 = 0) (hle : lowA m p.2 ≤ p.2 (2 ^ m)) : phi m (widerL m p) ≤ cb (m + 1) (rem (m + 1) p.2) := by
  obtain ⟨l1, l2⟩ := h.low
  have hnn := h.nn (show 2 ^ (m + 1) - 1 < 2 ^ (m + 1) by have := Nat.two_pow_pos (m + 1); omega)
  unfold phi widerL evs
  rw [List.map_map, List.map_map]
  have e : ((List.range ((p.2 (2 ^ m) - lowA m p.2) / 2 + 1).toNat).map (((fun q : Pw => cb m (rem m q.2)) ∘ fun a => (a :: p.1, red m p.2 a)) ∘ fun (i : Nat) => lowA m p.2 + 2 * (i : Int))) = (List.range ((p.2 (2 ^ m) - lowA m p.2) / 2 + 1).toNat).map fun i => cb m (rem (m + 1) p.2 - ((lowA m p.2 / 2).toNat + i)) := by
    refine List.map_congr_left fun i hi => ?_
    have hi := List.mem_range.mp hi
    show cb m (rem m (red m p.2 (lowA m p.2 + 2 * (i : Int)))) = _
    congr 1
    unfold rem
    rw [(h.red (a := lowA m p.2 + 2 * (i : Int)) (by omega) (by omega)).2]
    omega
  rw [e]
  have := run_sum (cb m) (rem (m + 1) p.2) ((p.2 (2 ^ m) - lowA m p.2) / 2 + 1).toNat (lowA m p.2 / 2).toNat (by unfold rem; omega)
  have hc := cbSum_le (g := cb m) (k := rem (m + 1) p.2 + 1 - (lowA m p.2 / 2).toNat) (r := rem (m + 1) p.2 + 1) (by omega)
  show _ ≤ cbSum (cb m) (rem (m + 1) p.2 + 1)
  omega
/-- what holds of all that is made -/
structure FLok (m : Nat) (T : Int) (p : Pw) : Prop where
  mn : Mn m p.2 T
  ev : ∀ k, k < 2 ^ m → p.2 k % 2 = 0
theorem FLok.wider {m : Nat} {T : Int} {p q : Pw} (h : FLok (m + 1) T p) (hq : q ∈ widerL m p) : FLok m T q := by
  have e2 : 2 ^ (m + 1) = 2 ^ m + 2 ^ m := by rw [Nat.pow_succ]; omega
  have p0 := Nat.two_pow_pos m
  obtain ⟨a, ha, rfl⟩ := List.mem_map.mp hq
  obtain ⟨a1, a2, a3⟩ := mem_evs.mp ha
  have el : lowA m p.2 % 2 = 0 := by
    have := h.ev (2 ^ (m + 1) - 1) (by omega)
    have := h.ev (2 ^ m - 1) (by omega)
    unfold lowA
    omega
  refine ⟨(h.mn.red a1 a2).1, fun k hk => ?_⟩
  have := h.ev k (by omega)
  have := h.ev (k + 2 ^ m) (by omega)
  show red m p.2 a k % 2 = 0
  rcases red_or (n := m) (f := p.2) (a := a) k with e | e <;> rw [e] <;> omega
theorem FL_ok {n : Nat} {f : Nat → Int} {T : Int} (h : FLok n T ([], f)) : ∀ i, i ≤ n → (∀ p ∈ FL n f i, FLok (n - i) T p ∧ p.1.length = i) ∧ phi (n - i) (FL n f i) ≤ cb n (rem n f)
  | 0, _ => by
    refine ⟨fun p hp => ?_, ?_⟩
    · have : p = ([], f) := List.mem_singleton.mp hp
      subst this
      exact ⟨h, rfl⟩
    · show ([([], f)].map fun p : Pw => cb (n - 0) (rem (n - 0) p.2)).sum ≤ _
      rw [Nat.sub_zero]
      simp
  | i + 1, hi => by
    obtain ⟨h1, h2⟩ := FL_ok h i (by omega)
    have em : n - i = (n - i - 1) + 1 := by omega
    have e3 : n - (i + 1) = n - i - 1 := by omega
    rw [e3]
    generalize n - i - 1 = m at em e3
    rw [em] at h1 h2
    have e4 : FL n f (i + 1) = (FL n f i).flatMap (widerL m) := by
      show (FL n f i).flatMap (widerL (n - i - 1)) = _
      rw [show n - i - 1 = m from by omega]
    rw [e4]
    refine ⟨fun p hp => ?_, ?_⟩
    · obtain ⟨q, hq, hpq⟩ := List.mem_flatMap.mp hp
      obtain ⟨a, ha, e⟩ := List.mem_map.mp hpq
      refine ⟨(h1 q hq).1.wider hpq, ?_⟩
      rw [← e, List.length_cons, (h1 q hq).2]
    · refine Nat.le_trans ?_ h2
      clear h2
      generalize FL n f i = L at h1
      induction L with
      | nil => exact Nat.zero_le _
      | cons p L ih =>
        have ih := ih fun q hq => h1 q (List.mem_cons_of_mem _ hq)
        have hp := (h1 p List.mem_cons_self).1
        have p0 := Nat.two_pow_pos m
        have e2 : 2 ^ (m + 1) = 2 ^ m + 2 ^ m := by rw [Nat.pow_succ]; omega
        have el : lowA m p.2 % 2 = 0 := by
          have := hp.ev (2 ^ (m + 1) - 1) (by omega)
          have := hp.ev (2 ^ m - 1) (by omega)
          unfold lowA
          omega
        unfold phi at ih ⊢
        rw [List.flatMap_cons, List.map_append, List.sum_append, List.map_cons, List.sum_cons]
        refine Nat.add_le_add ?_ ih
        by_cases c : lowA m p.2 ≤ p.2 (2 ^ m)
        · exact phi_wider hp.mn (hp.ev _ (by omega)) el c
        · have : widerL m p = [] := by
            unfold widerL evs
            have he := hp.ev (2 ^ m) (by omega)
            rw [show ((p.2 (2 ^ m) - lowA m p.2) / 2 + 1).toNat = 0 from by omega]; rfl
          rw [this]; exact Nat.zero_le _
end Bd
namespace Bd
/-! how many fillings there are, by how wide each room is -/
def widN (m : Nat) (f : Nat → Int) (j : Nat) : Int := f (2 ^ j) + f (2 ^ m - 1 - 2 ^ j) - f (2 ^ m - 1)
def prC (c : Nat → Nat) (n : Nat) : Nat → Nat
  | 0 => 1
  | i + 1 => prC c n i * (c (n - 1 - i) + 1)
theorem prC_mono {c : Nat → Nat} {n : Nat} : ∀ {i k : Nat}, i ≤ k → prC c n i ≤ prC c n k
  | i, 0, h => by
    have : i = 0 := by omega
    rw [this]; exact Nat.le_refl _
  | i, k + 1, h => by
    by_cases e : i = k + 1
    · rw [e]; exact Nat.le_refl _
    · have ih := prC_mono (c := c) (n := n) (i := i) (k := k) (by omega)
      show prC c n i ≤ prC c n k * (c (n - 1 - k) + 1)
      exact Nat.le_trans ih (Nat.le_mul_of_pos_right _ (Nat.succ_pos _))
theorem flat_mul {α β : Type} {g : α → List β} {c : Nat} : ∀ {L : List α}, (∀ a ∈ L, (g a).length ≤ c) → (L.flatMap g).length ≤ L.length * c
  | [], _ => by simp
  | a :: L, h => by
    have ih := flat_mul (L := L) fun b hb => h b (List.mem_cons_of_mem _ hb)
    have := h a List.mem_cons_self
    rw [List.flatMap_cons, List.length_append, List.length_cons, Nat.succ_mul]
    omega
theorem wid_red {m : Nat} {f : Nat → Int} {a : Int} (h0 : lowA m f ≤ a) {j : Nat} (hj : j < m) : widN m (red m f a) j ≤ widN (m + 1) f j := by
  have e2 : 2 ^ (m + 1) = 2 ^ m + 2 ^ m := by rw [Nat.pow_succ]; omega
  have pj : 2 ^ j < 2 ^ m := Nat.pow_lt_pow_right (by decide) hj
  have p0 := Nat.two_pow_pos j
  have r1 := (red_le (n := m) (f := f) (a := a) (2 ^ j)).1
  have r2 := (red_le (n := m) (f := f) (a := a) (2 ^ m - 1 - 2 ^ j)).2
  have r3 : f (2 ^ (m + 1) - 1) - a ≤ red m f a (2 ^ m - 1) := by
    refine le_red ?_ ?_
    · unfold lowA at h0; omega
    · rw [show 2 ^ m - 1 + 2 ^ m = 2 ^ (m + 1) - 1 from by omega]
      exact Int.le_refl _
  rw [show 2 ^ m - 1 - 2 ^ j + 2 ^ m = 2 ^ (m + 1) - 1 - 2 ^ j from by omega] at r2
  unfold widN
  omega
theorem wider_len {m : Nat} {p : Pw} {c : Nat} (h : widN (m + 1) p.2 m ≤ 2 * c) : (widerL m p).length ≤ c + 1 := by
  have e2 : 2 ^ (m + 1) = 2 ^ m + 2 ^ m := by rw [Nat.pow_succ]; omega
  have p0 := Nat.two_pow_pos m
  unfold widN at h
  rw [show 2 ^ (m + 1) - 1 - 2 ^ m = 2 ^ m - 1 from by omega] at h
  unfold widerL evs lowA
  rw [List.length_map, List.length_map, List.length_range]
  omega
theorem FL_wid {n : Nat} {f : Nat → Int} {c : Nat → Nat} (h : ∀ j, j < n → widN n f j ≤ 2 * c j) : ∀ i, i ≤ n → (∀ p ∈ FL n f i, p.1.length = i ∧ ∀ j, j < n - i → widN (n - i) p.2 j ≤ 2 * c j) ∧ (FL n f i).length ≤ prC c n i
  | 0, _ => by
    refine ⟨fun p hp => ?_, Nat.le_refl _⟩
    have : p = ([], f) := List.mem_singleton.mp hp
    subst this
    exact ⟨rfl, h⟩
  | i + 1, hi => by
    obtain ⟨h1, h2⟩ := FL_wid h i (by omega)
    have em : n - i = (n - (i + 1)) + 1 := by omega
    have eF : FL n f (i + 1) = (FL n f i).flatMap (widerL (n - (i + 1))) := rfl
    generalize hm : n - (i + 1) = m at em eF
    have ec : n - 1 - i = m := by omega
    refine ⟨fun p hp => ?_, ?_⟩
    · rw [eF] at hp
      obtain ⟨q, hq, hpq⟩ := List.mem_flatMap.mp hp
      obtain ⟨q1, q2⟩ := h1 q hq
      unfold widerL at hpq
      obtain ⟨a, ha, rfl⟩ := List.mem_map.mp hpq
      obtain ⟨a1, _, _⟩ := mem_evs.mp ha
      refine ⟨by rw [List.length_cons, q1], fun j hj => ?_⟩
      have := q2 j (by omega)
      rw [em] at this
      exact Int.le_trans (wid_red a1 hj) this
    · rw [eF]
      have : ((FL n f i).flatMap (widerL m)).length ≤ (FL n f i).length * (c m + 1) := flat_mul fun q hq => by
        have := (h1 q hq).2 m (by omega)
        rw [em] at this
        exact wider_len this
      show _ ≤ prC c n i * (c (n - 1 - i) + 1)
      rw [ec]
      exact Nat.le_trans this (Nat.mul_le_mul_right _ h2)
end Bd
namespace Bd
/-! no vector is told twice -/
theorem nodup_flat {α β : Type} {g : α → List β} : ∀ {L : List α}, L.Nodup → (∀ a ∈ L, (g a).Nodup) → (∀ a ∈ L, ∀ b ∈ L, ∀ x, x ∈ g a → x ∈ g b → a = b) → (L.flatMap g).Nodup
  | [], _, _, _ => List.nodup_nil
  | a :: L, nd, hg, hd => by
    obtain ⟨n1, n2⟩ := List.nodup_cons.mp nd
    rw [List.flatMap_cons, List.nodup_append]
    refine ⟨hg a List.mem_cons_self, nodup_flat n2 (fun b hb => hg b (List.mem_cons_of_mem _ hb)) fun b hb c hc => hd b (List.mem_cons_of_mem _ hb) c (List.mem_cons_of_mem _ hc), fun x hx y hy e => ?_⟩
    subst e
    obtain ⟨b, hb, hxb⟩ := List.mem_flatMap.mp hy
    have := hd a List.mem_cons_self b (List.mem_cons_of_mem _ hb) x hx hxb
    subst this
    exact n1 hb
theorem nodup_map {α β : Type} {f : α → β} : ∀ {L : List α}, L.Nodup → (∀ a ∈ L, ∀ b ∈ L, f a = f b → a = b) → (L.map f).Nodup
  | [], _, _ => List.nodup_nil
  | a :: L, nd, h => by
    obtain ⟨n1, n2⟩ := List.nodup_cons.mp nd
    rw [List.map_cons, List.nodup_cons]
    refine ⟨fun hm => ?_, nodup_map n2 fun b hb c hc => h b (List.mem_cons_of_mem _ hb) c (List.mem_cons_of_mem _ hc)⟩
    obtain ⟨b, hb, e⟩ := List.mem_map.mp hm
    have := h b (List.mem_cons_of_mem _ hb) a List.mem_cons_self e
    subst this
    exact n1 hb
theorem evs_nodup (lo hi : Int) : (evs lo hi).Nodup := by
  unfold evs
  refine nodup_map List.nodup_range fun a _ b _ e => ?_
  omega
theorem leaves_nodup : ∀ (n : Nat) (f : Nat → Int), (leaves n f).Nodup
  | 0, f => by
    show ([[]] : List (List Int)).Nodup
    simp
  | n + 1, f => by
    show ((evs (lowA n f) (f (2 ^ n))).flatMap fun a => (leaves n (red n f a)).map (· ++ [a])).Nodup
    refine nodup_flat (evs_nodup _ _) (fun a _ => nodup_map (leaves_nodup n _) fun l _ m _ e => ?_) fun a _ b _ x hx hy => ?_
    · exact (List.append_inj' e rfl).1
    · obtain ⟨l, _, rfl⟩ := List.mem_map.mp hx
      obtain ⟨m, _, e⟩ := List.mem_map.mp hy
      have := (List.append_inj' e rfl).2
      injection this with h1 _
      exact h1.symm
end Bd
namespace Bd
/-! a table that is submodular has a vector; rooms and doors in balance -/
theorem exists_base : ∀ (n : Nat) (f : Nat → Int), Sub n f → ∃ x, Base n f x
  | 0, f, S => ⟨fun _ => 0, fun k hk => by
      have : k = 0 := by omega
      subst this
      show (0 : Int) ≤ f 0
      rw [S.zero]; exact Int.le_refl _, by show (0 : Int) = f 0; rw [S.zero], fun i hi => absurd hi (Nat.not_lt_zero _)⟩
  | n + 1, f, S => by
    have e2 : 2 ^ (n + 1) = 2 ^ n + 2 ^ n := by rw [Nat.pow_succ]; omega
    have p0 := Nat.two_pow_pos n
    have S' : Sub n f := ⟨fun a b ha hb => S.sub a b (by omega) (by omega), fun k hk => S.ev k (by omega), S.zero⟩
    obtain ⟨x, b⟩ := exists_base n f S'
    have low : ∀ k, ssum n (fun i => if i < n then x i else f (2 ^ (n + 1) - 1) - f (2 ^ n - 1)) k = ssum n x k := fun k => ssum_congr fun i hi => by rw [if_pos hi]
    have step : ∀ k, ssum (n + 1) (fun i => if i < n then x i else f (2 ^ (n + 1) - 1) - f (2 ^ n - 1)) k = ssum n x k + if k.testBit n then f (2 ^ (n + 1) - 1) - f (2 ^ n - 1) else 0 := fun k => by
      show ssum n _ k + (if k.testBit n then (if n < n then x n else _) else 0) = _
      rw [low, if_neg (Nat.lt_irrefl n)]
    refine ⟨fun i => if i < n then x i else f (2 ^ (n + 1) - 1) - f (2 ^ n - 1), fun k hk => ?_, ?_, fun i hi => ?_⟩
    · rw [step]
      cases hb : k.testBit n with
      | false =>
        have hk' : k < 2 ^ n := by
          refine Nat.lt_of_not_le fun c => ?_
          have : k.testBit n = true := by
            rw [Nat.testBit_eq_decide_div_mod_eq]
            have hd : k / 2 ^ n = 1 := by
              rw [Nat.div_eq_iff p0]
              omega
            rw [hd]; rfl
          rw [this] at hb; cases hb
        have := b.le k hk'
        simp
        omega
      | true =>
        obtain ⟨j, hj, rfl⟩ : ∃ j, j < 2 ^ n ∧ k = j + 2 ^ n := by
          refine ⟨k - 2 ^ n, by omega, ?_⟩
          have : 2 ^ n ≤ k := Nat.le_of_not_lt fun c => by
            rw [bit_hi c (Nat.le_refl _)] at hb; cases hb
          omega
        have e1 : (j + 2 ^ n) ||| (2 ^ n - 1) = 2 ^ (n + 1) - 1 := by
          refine eq_bits (n := n + 1) (Nat.or_lt_two_pow hk (by omega)) (by omega) fun i hi => ?_
          rw [Nat.testBit_or, full_bit hi]
          by_cases c : i < n
          · rw [full_bit c, Bool.or_true]
          · have : i = n := by omega
            subst this
            rw [hb, Bool.true_or]
        have e3 : (j + 2 ^ n) &&& (2 ^ n - 1) = j := by
          refine eq_bits (n := n + 1) (Nat.lt_of_le_of_lt Nat.and_le_left hk) (by omega) fun i hi => ?_
          rw [Nat.testBit_and]
          by_cases c : i < n
          · rw [full_bit c, Bool.and_true, add_bit c]
          · rw [bit_hi (n := n) (k := 2 ^ n - 1) (by omega) (by omega), Bool.and_false, bit_hi hj (by omega)]
        have h1 := S.sub (j + 2 ^ n) (2 ^ n - 1) hk (by omega)
        rw [e1, e3] at h1
        have h2 := b.le j hj
        have h3 : ssum n x (j + 2 ^ n) = ssum n x j := ssum_bits fun i hi => add_bit hi
        rw [h3]
        simp
        omega
    · rw [step, full_bit (Nat.lt_succ_self n)]
      have h1 := b.all
      have h3 : ssum n x (2 ^ (n + 1) - 1) = ssum n x (2 ^ n - 1) := ssum_bits fun i hi => by rw [full_bit (by omega : i < n + 1), full_bit hi]
      rw [h3, h1]
      simp
      omega
    · by_cases c : i < n
      · show (if i < n then x i else _) % 2 = 0
        rw [if_pos c]; exact b.ev i c
      · show (if i < n then x i else _) % 2 = 0
        rw [if_neg c]
        have h1 := S.ev (2 ^ (n + 1) - 1) (by omega)
        have h2 := S.ev (2 ^ n - 1) (by omega)
        omega
/-! doors as pairs -/
def cE (k : Nat) (e : Nat × Nat) : Int := if (k.testBit e.1 != k.testBit e.2) = true then 1 else 0
def dE (v : Nat) (e : Nat × Nat) : Int := (if e.1 = v then 1 else 0) + (if e.2 = v then 1 else 0)
def cutE (E : List (Nat × Nat)) (k : Nat) : Int := (E.map (cE k)).sum
def degE (E : List (Nat × Nat)) (v : Nat) : Int := (E.map (dE v)).sum
theorem cutE_cons (e : Nat × Nat) (E : List (Nat × Nat)) (k : Nat) : cutE (e :: E) k = cE k e + cutE E k := by unfold cutE; rw [List.map_cons, List.sum_cons]
theorem degE_cons (e : Nat × Nat) (E : List (Nat × Nat)) (v : Nat) : degE (e :: E) v = dE v e + degE E v := by unfold degE; rw [List.map_cons, List.sum_cons]
theorem sum_erase (f : Nat × Nat → Int) {a : Nat × Nat} : ∀ {L : List (Nat × Nat)}, a ∈ L → (L.map f).sum = f a + ((L.erase a).map f).sum
  | [], h => nomatch h
  | b :: L, h => by
    by_cases c : b = a
    · subst c
      rw [List.erase_cons_head, List.map_cons, List.sum_cons]
    · have hm : a ∈ L := (List.mem_cons.mp h).resolve_left fun e => c e.symm
      have ih := sum_erase f hm
      rw [List.erase_cons_tail (by simpa using c), List.map_cons, List.map_cons, List.sum_cons, List.sum_cons, ih]
      omega
theorem deg_zero {v : Nat} : ∀ {E : List (Nat × Nat)}, (∀ e ∈ E, e.1 ≠ v ∧ e.2 ≠ v) → degE E v = 0
  | [], _ => rfl
  | e :: E, h => by
    have h1 := h e List.mem_cons_self
    rw [degE_cons, deg_zero fun e' he => h e' (List.mem_cons_of_mem _ he)]
    unfold dE
    rw [if_neg h1.1, if_neg h1.2]; rfl
theorem cE_swap (k a b : Nat) : cE k (a, b) = cE k (b, a) := by unfold cE; dsimp only; cases k.testBit a <;> cases k.testBit b <;> rfl
theorem dE_swap (v a b : Nat) : dE v (a, b) = dE v (b, a) := by unfold dE; dsimp only; omega
theorem cE_tri (k v p q : Nat) : cE k (p, q) ≤ cE k (v, p) + cE k (v, q) := by
  unfold cE
  dsimp only
  cases k.testBit v <;> cases k.testBit p <;> cases k.testBit q <;> decide
theorem cE_pos (k : Nat) (e : Nat × Nat) : 0 ≤ cE k e ∧ cE k e ≤ 1 := by unfold cE; split <;> decide
theorem bal : ∀ (m : Nat) (E : List (Nat × Nat)), E.length ≤ m → (∀ e ∈ E, e.1 ≠ e.2) → ∃ x : Nat → Int, (∀ v, x v = 0 ∨ x v = 1 ∨ x v = -1) ∧ (∀ v, (x v - degE E v) % 2 = 0) ∧
    ∀ n k, (∀ e ∈ E, e.1 < n ∧ e.2 < n) → -(cutE E k) ≤ ssum n x k ∧ ssum n x k ≤ cutE E k
  | m, [], _, _ => ⟨fun _ => 0, fun _ => .inl rfl, fun v => rfl, fun n k _ => by rw [ssum_nil]; exact ⟨Int.le_refl _, Int.le_refl _⟩⟩
  | 0, e :: E, h, _ => by simp at h
  | m + 1, e :: E, h, hne => by
    rw [List.length_cons] at h
    by_cases sh : ∃ e' ∈ E, e'.1 = e.1 ∨ e'.1 = e.2 ∨ e'.2 = e.1 ∨ e'.2 = e.2
    · obtain ⟨e', he', hs⟩ := sh
      have n1 := hne e List.mem_cons_self
      have n2 := hne e' (List.mem_cons_of_mem _ he')
      obtain ⟨v, p, q, h1, h2⟩ : ∃ v p q, (e = (v, p) ∨ e = (p, v)) ∧ (e' = (v, q) ∨ e' = (q, v)) := by
        rcases hs with g | g | g | g
        · exact ⟨e.1, e.2, e'.2, .inl rfl, .inl (by rw [← g])⟩
        · exact ⟨e.2, e.1, e'.2, .inr rfl, .inl (by rw [← g])⟩
        · exact ⟨e.1, e.2, e'.1, .inl rfl, .inr (by rw [← g])⟩
        · exact ⟨e.2, e.1, e'.1, .inr rfl, .inr (by rw [← g])⟩
      have c1 : ∀ k, cE k e = cE k (v, p) := fun k => by rcases h1 with g | g <;> rw [g]; exact cE_swap k p v
      have c2 : ∀ k, cE k e' = cE k (v, q) := fun k => by rcases h2 with g | g <;> rw [g]; exact cE_swap k q v
      have d1 : ∀ w, dE w e = dE w (v, p) := fun w => by rcases h1 with g | g <;> rw [g]; exact dE_swap w p v
      have d2 : ∀ w, dE w e' = dE w (v, q) := fun w => by rcases h2 with g | g <;> rw [g]; exact dE_swap w q v
      have ct : ∀ k, cutE (e :: E) k = cE k (v, p) + (cE k (v, q) + cutE (E.erase e') k) := fun k => by
        rw [cutE_cons, c1, ← c2]
        unfold cutE
        rw [sum_erase _ he']
      have dg : ∀ w, degE (e :: E) w = dE w (v, p) + (dE w (v, q) + degE (E.erase e') w) := fun w => by
        rw [degE_cons, d1, ← d2]
        unfold degE
        rw [sum_erase _ he']
      have el := List.length_erase_of_mem he'
      have pos := List.length_pos_of_mem he'
      by_cases pq : p = q
      · subst pq
        obtain ⟨x, x1, x2, x3⟩ := bal m (E.erase e') (by omega) fun g hg => hne g (List.mem_cons_of_mem _ (List.mem_of_mem_erase hg))
        refine ⟨x, x1, fun w => ?_, fun n k hn => ?_⟩
        · have := x2 w
          rw [dg]; omega
        · obtain ⟨y1, y2⟩ := x3 n k fun g hg => hn g (List.mem_cons_of_mem _ (List.mem_of_mem_erase hg))
          have := (cE_pos k (v, p)).1
          rw [ct]; omega
      · obtain ⟨x, x1, x2, x3⟩ := bal m ((p, q) :: E.erase e') (by rw [List.length_cons]; omega) fun g hg => by
          rcases List.mem_cons.mp hg with hg | hg
          · rw [hg]; exact pq
          · exact hne g (List.mem_cons_of_mem _ (List.mem_of_mem_erase hg))
        refine ⟨x, x1, fun w => ?_, fun n k hn => ?_⟩
        · have := x2 w
          rw [degE_cons] at this
          rw [dg]
          unfold dE at this ⊢
          dsimp only at this ⊢
          omega
        · have b1 := hn e List.mem_cons_self
          have b2 := hn e' (List.mem_cons_of_mem _ he')
          obtain ⟨y1, y2⟩ := x3 n k fun g hg => by
            rcases List.mem_cons.mp hg with hg | hg
            · rw [hg]
              refine ⟨?_, ?_⟩
              · rcases h1 with g | g <;> rw [g] at b1
                · exact b1.2
                · exact b1.1
              · rcases h2 with g | g <;> rw [g] at b2
                · exact b2.2
                · exact b2.1
            · exact hn g (List.mem_cons_of_mem _ (List.mem_of_mem_erase hg))
          have := cE_tri k v p q
          rw [cutE_cons] at y1 y2
          rw [ct]; omega
    · obtain ⟨x, x1, x2, x3⟩ := bal m E (by omega) fun g hg => hne g (List.mem_cons_of_mem _ hg)
      have n1 := hne e List.mem_cons_self
      have no : ∀ g ∈ E, g.1 ≠ e.1 ∧ g.1 ≠ e.2 ∧ g.2 ≠ e.1 ∧ g.2 ≠ e.2 := fun g hg => ⟨fun z => sh ⟨g, hg, .inl z⟩, fun z => sh ⟨g, hg, .inr (.inl z)⟩, fun z => sh ⟨g, hg, .inr (.inr (.inl z))⟩, fun z => sh ⟨g, hg, .inr (.inr (.inr z))⟩⟩
      have z1 : x e.1 = 0 := by
        have := x2 e.1
        rw [deg_zero fun g hg => ⟨(no g hg).1, (no g hg).2.2.1⟩] at this
        have := x1 e.1
        omega
      have z2 : x e.2 = 0 := by
        have := x2 e.2
        rw [deg_zero fun g hg => ⟨(no g hg).2.1, (no g hg).2.2.2⟩] at this
        have := x1 e.2
        omega
      refine ⟨fun v => x v + (unit e.1 1 v + unit e.2 (-1) v), fun v => ?_, fun v => ?_, fun n k hn => ?_⟩
      · unfold unit
        dsimp only
        have := x1 v
        by_cases g1 : v = e.1
        · subst g1
          rw [if_pos rfl, if_neg n1, z1]; exact .inr (.inl rfl)
        · by_cases g2 : v = e.2
          · subst g2
            rw [if_neg g1, if_pos rfl, z2]; exact .inr (.inr rfl)
          · rw [if_neg g1, if_neg g2, Int.add_zero, Int.add_zero]; exact this
      · have := x2 v
        rw [degE_cons]
        unfold unit dE
        dsimp only
        by_cases g1 : v = e.1
        · subst g1
          rw [if_pos rfl, if_neg n1, if_neg (fun z => n1 z.symm)]
          omega
        · by_cases g2 : v = e.2
          · subst g2
            rw [if_neg g1, if_pos rfl, if_neg (fun z => g1 z.symm), if_pos rfl]
            omega
          · rw [if_neg g1, if_neg g2, if_neg (fun z => g1 z.symm), if_neg (fun z => g2 z.symm)]
            omega
      · obtain ⟨y1, y2⟩ := x3 n k fun g hg => hn g (List.mem_cons_of_mem _ hg)
        have b1 := hn e List.mem_cons_self
        rw [ssum_add, ssum_add, ssum_unit n e.1 1 k b1.1, ssum_unit n e.2 (-1) k b1.2, cutE_cons]
        unfold cE
        cases k.testBit e.1 <;> cases k.testBit e.2 <;> simp <;> omega
def oddE (z : List Dc) : List (Nat × Nat) := (z.filter fun x => decide (x.2 % 2 = 1)).map (·.1)
theorem odd_cut (k : Nat) : ∀ {z : List Dc}, (∀ x ∈ z, 0 ≤ x.2) → cutE (oddE z) k ≤ cutv z k
  | [], _ => Int.le_refl _
  | x :: z, h => by
    have ih := odd_cut k (z := z) fun y hy => h y (List.mem_cons_of_mem _ hy)
    have h0 := h x List.mem_cons_self
    rw [cutv_cons]
    unfold oddE
    rw [List.filter_cons]
    by_cases c : x.2 % 2 = 1
    · rw [if_pos (decide_eq_true c), List.map_cons, cutE_cons]
      have : cE k x.1 ≤ cut1 k x := by
        unfold cE cut1
        split <;> omega
      unfold oddE at ih
      omega
    · rw [if_neg (by rw [decide_eq_false c]; simp)]
      have : 0 ≤ cut1 k x := by
        unfold cut1
        split <;> omega
      unfold oddE at ih
      omega
theorem odd_deg (v : Nat) : ∀ {z : List Dc}, (degE (oddE z) v - metAt z v) % 2 = 0
  | [] => rfl
  | x :: z => by
    have ih := odd_deg v (z := z)
    rw [met_cons]
    unfold oddE
    rw [List.filter_cons]
    by_cases c : x.2 % 2 = 1
    · rw [if_pos (decide_eq_true c), List.map_cons, degE_cons]
      unfold oddE at ih
      unfold dE
      split <;> split <;> omega
    · rw [if_neg (by rw [decide_eq_false c]; simp)]
      unfold oddE at ih
      split <;> split <;> omega
theorem bal_z {n : Nat} {z : List Dc} (hz : ∀ x ∈ z, x.1.1 < n ∧ x.1.2 < n ∧ x.1.1 ≠ x.1.2) (h0 : ∀ x ∈ z, 0 ≤ x.2) : ∃ x : Nat → Int, (∀ v, x v = 0 ∨ x v = 1 ∨ x v = -1) ∧ (∀ v, (x v - metAt z v) % 2 = 0) ∧ ∀ k, -(cutv z k) ≤ ssum n x k ∧ ssum n x k ≤ cutv z k := by
  have hm : ∀ e ∈ oddE z, e.1 < n ∧ e.2 < n ∧ e.1 ≠ e.2 := fun e he => by
    obtain ⟨x, hx, rfl⟩ := List.mem_map.mp he
    exact hz x (List.mem_filter.mp hx).1
  obtain ⟨x, x1, x2, x3⟩ := bal _ (oddE z) (Nat.le_refl _) fun e he => (hm e he).2.2
  refine ⟨x, x1, fun v => ?_, fun k => ?_⟩
  · have h1 := x2 v
    have h2 := odd_deg v (z := z)
    omega
  · obtain ⟨y1, y2⟩ := x3 n k fun e he => ⟨(hm e he).1, (hm e he).2.1⟩
    have := odd_cut k h0
    omega
end Bd
namespace Bd
open PySem PySem.Spec PyProof.Rows L2 HT
/-! lists of numbers in their order -/
def tupI (l : List Int) : PyData := .tuple (l.map .int)
def ltI (l m : List Int) : Bool := PySem.W.dataLt (intsD l) (intsD m)
theorem ltI_toks (l m : List Int) : ltI l m = PyProof.Rows.lexLt itemOrd (PySem.W.keyToksAll (l.map .int)) (PySem.W.keyToksAll (m.map .int)) := PySem.W.dataLt_list _ _
theorem ltI_tup (l m : List Int) : PySem.W.dataLt (tupI l) (tupI m) = ltI l m := (PySem.W.dataLt_tuple _ _).trans (ltI_toks l m).symm
theorem ltI_cons (a b : Int) (l m : List Int) : ltI (a :: l) (b :: m) = if a = b then ltI l m else decide (a < b) := by
  rw [ltI_toks, ltI_toks]
  have e : ∀ (c : Int) (l : List Int), PySem.W.keyToksAll ((c :: l).map .int) = .inl 1 :: .inl c :: PySem.W.keyToksAll (l.map .int) := fun c l => by simp [PySem.W.keyToksAll, PySem.W.keyToks]
  rw [e, e, PyProof.Rows.lex_self (O := itemOrd)]
  by_cases h : a = b
  · rw [if_pos h, h, PyProof.Rows.lex_self (O := itemOrd)]
  · rw [if_neg h]
    exact PyProof.Rows.lex_diff (O := itemOrd) (fun z => h (by injection z))
theorem ltI_anti {l m : List Int} (h1 : ltI l m = false) (h2 : ltI m l = false) : l = m := Classical.byContradiction fun ne => by
  have := lt_of_not h2 ne
  unfold ltI at h1
  rw [h1] at this
  cases this
def RiseI (ls : List (List Int)) : Prop := ls.Pairwise fun a b => ltI b a = false
theorem sorted_ext : ∀ {ls ms : List (List Int)}, ls.Nodup → ms.Nodup → (∀ x, x ∈ ls ↔ x ∈ ms) → RiseI ls → RiseI ms → ls = ms
  | [], [], _, _, _, _, _ => rfl
  | [], b :: ms, _, _, h, _, _ => absurd ((h b).mpr List.mem_cons_self) (by simp)
  | a :: ls, [], _, _, h, _, _ => absurd ((h a).mp List.mem_cons_self) (by simp)
  | a :: ls, b :: ms, n1, n2, h, s1, s2 => by
    obtain ⟨p1, q1⟩ := List.pairwise_cons.mp s1
    obtain ⟨p2, q2⟩ := List.pairwise_cons.mp s2
    obtain ⟨a1, a2⟩ := List.nodup_cons.mp n1
    obtain ⟨b1, b2⟩ := List.nodup_cons.mp n2
    have e : a = b := by
      rcases List.mem_cons.mp ((h a).mp List.mem_cons_self) with e | hm
      · exact e
      rcases List.mem_cons.mp ((h b).mpr List.mem_cons_self) with e | hl
      · exact e.symm
      exact ltI_anti (p2 a hm) (p1 b hl)
    subst e
    rw [sorted_ext a2 b2 (fun x => ?_) q1 q2]
    constructor
    · intro hx
      rcases List.mem_cons.mp ((h x).mp (List.mem_cons_of_mem _ hx)) with e | hm
      · subst e; exact absurd hx a1
      · exact hm
    · intro hx
      rcases List.mem_cons.mp ((h x).mpr (List.mem_cons_of_mem _ hx)) with e | hm
      · subst e; exact absurd hx b1
      · exact hm
/-- a row less, place by place -/
def minL (l m : List Int) : List Int := (l.zip m).map fun p => p.1 - p.2
theorem ltI_min : ∀ {l m b : List Int}, l.length = b.length → m.length = b.length → ltI (minL l b) (minL m b) = ltI l m
  | [], [], [], _, _ => rfl
  | x :: l, y :: m, c :: b, h1, h2 => by
    have ih := ltI_min (l := l) (m := m) (b := b) (by simpa using h1) (by simpa using h2)
    show ltI ((x - c) :: minL l b) ((y - c) :: minL m b) = _
    rw [ltI_cons, ltI_cons, ih]
    by_cases e : x = y
    · rw [if_pos e, if_pos (by omega)]
    · rw [if_neg e, if_neg (by omega)]
      exact decide_eq_decide.mpr (by omega)
  | [], _ :: _, [], _, h => by simp at h
  | _ :: _, _, [], h, _ => by simp at h
  | [], _, _ :: _, h, _ => by simp at h
  | _ :: _, [], _ :: _, _, h => by simp at h
theorem shp_tupI {n : Nat} (l : List Int) : Shp (n + 1) (tupI l) := shp_tup fun d hd => by
  obtain ⟨i, _, rfl⟩ := List.mem_map.mp hd
  exact shp_int i
theorem shp_tups {n : Nat} (ls : List (List Int)) : Shp (n + 2) (.list (ls.map tupI)) := shp_mapL ls fun l => shp_tupI l
theorem eqv_intsI : ∀ a b : List Int, PyData.eqvAll (a.map .int) (b.map .int) = decide (a = b)
  | [], [] => by simp [PyData.eqvAll]
  | [], y :: b => by simp [PyData.eqvAll]
  | x :: a, [] => by simp [PyData.eqvAll]
  | x :: a, y :: b => by
    show ((x == y) && PyData.eqvAll (a.map .int) (b.map .int)) = _
    rw [eqv_intsI a b]
    by_cases h1 : x = y <;> by_cases h2 : a = b <;> simp [h1, h2]
theorem eqv_tupI (a b : List Int) : PyData.eqv (tupI a) (tupI b) = decide (a = b) := eqv_intsI a b
theorem eqv_intsD (a b : List Int) : PyData.eqv (intsD a) (intsD b) = decide (a = b) := eqv_intsI a b
theorem eqv_tups : ∀ a b : List (List Int), PyData.eqvAll (a.map tupI) (b.map tupI) = decide (a = b)
  | [], [] => by simp [PyData.eqvAll]
  | [], y :: b => by simp [PyData.eqvAll]
  | x :: a, [] => by simp [PyData.eqvAll]
  | x :: a, y :: b => by
    show (PyData.eqv (tupI x) (tupI y) && PyData.eqvAll (a.map tupI) (b.map tupI)) = _
    rw [eqv_tupI, eqv_tups a b]
    by_cases h1 : x = y <;> by_cases h2 : a = b <;> simp [h1, h2]
theorem eqv_lists : ∀ a b : List (List Int), PyData.eqvAll (a.map intsD) (b.map intsD) = decide (a = b)
  | [], [] => by simp [PyData.eqvAll]
  | [], y :: b => by simp [PyData.eqvAll]
  | x :: a, [] => by simp [PyData.eqvAll]
  | x :: a, y :: b => by
    show (PyData.eqv (intsD x) (intsD y) && PyData.eqvAll (a.map intsD) (b.map intsD)) = _
    rw [eqv_intsD, eqv_lists a b]
    by_cases h1 : x = y <;> by_cases h2 : a = b <;> simp [h1, h2]
theorem in_tups (ls : List (List Int)) (x : List Int) : ((ls.map tupI).any fun z => PyData.eqv z (tupI x)) = decide (x ∈ ls) := by
  induction ls with
  | nil => rfl
  | cons y ls ih =>
    rw [List.map_cons, List.any_cons, ih, eqv_tupI]
    by_cases h1 : y = x
    · rw [decide_eq_true h1, Bool.true_or]
      exact (decide_eq_true (by rw [h1]; exact List.mem_cons_self)).symm
    · rw [decide_eq_false h1, Bool.false_or]
      exact decide_eq_decide.mpr ⟨fun h => List.mem_cons_of_mem _ h, fun h => (List.mem_cons.mp h).resolve_left fun e => h1 e.symm⟩
def unT : PyData → List Int
  | .tuple xs => xs.map fun | .int i => i | _ => 0
  | _ => []
theorem unT_tup (l : List Int) : unT (tupI l) = l := by
  show (l.map PyData.int).map _ = l
  rw [List.map_map]
  conv => rhs; rw [← List.map_id l]
  exact List.map_congr_left fun x _ => rfl
theorem perm_tup {ys : List PyData} {L : List (List Int)} (h : ys.Perm (L.map tupI)) : ∃ ls : List (List Int), ys = ls.map tupI ∧ ls.Perm L := by
  refine ⟨ys.map unT, ?_, ?_⟩
  · rw [List.map_map]
    conv => lhs; rw [← List.map_id ys]
    refine List.map_congr_left fun y hy => ?_
    obtain ⟨l, _, rfl⟩ := List.mem_map.mp (h.mem_iff.mp hy)
    show tupI l = tupI (unT (tupI l))
    rw [unT_tup]
  · have := h.map unT
    rw [List.map_map] at this
    have e : L.map (unT ∘ tupI) = L := by
      conv => rhs; rw [← List.map_id L]
      exact List.map_congr_left fun l _ => unT_tup l
    rwa [e] at this
/-- tuples of numbers, sorted -/
theorem do_sortedT {K : PySem.W.Frag} {W : Wd} {ρ : List Sl} {ν : Nat} {te : TE} {Ψ : Nat → List PyData → Prop} (h : DeL K W ρ ν te fun ν1 xs => ∃ L : List (List Int), xs = L.map tupI ∧ (∀ l ∈ L, l ≠ []) ∧ ∀ zs : List (List Int), zs.Perm L → RiseI zs → Ψ ν1 (zs.map tupI)) : Do K W ρ ν (tCB (rSortedW K) (tCons te tNil)) Ψ :=
  do_sortedW (De.imp h fun _ x hx => by
    obtain ⟨xs, e, L, e2, ne, q⟩ := hx
    refine ⟨xs, e, ?_⟩
    subst e2
    refine ⟨fun d hd d' hd' => ?_, .inl fun d hd => ?_, fun d hd => ?_, fun ys hys hw => ?_⟩
    · obtain ⟨l, _, rfl⟩ := List.mem_map.mp hd
      obtain ⟨l', _, rfl⟩ := List.mem_map.mp hd'
      exact alike_ints l l'
    · obtain ⟨l, hl, rfl⟩ := List.mem_map.mp hd
      cases l with
      | nil => exact absurd rfl (ne _ hl)
      | cons x l => exact ⟨.int x, l.map .int, rfl⟩
    · obtain ⟨l, _, rfl⟩ := List.mem_map.mp hd
      exact Nat.le_trans (shp_tupI (n := 0) l).2 (by decide)
    · obtain ⟨zs, e1, e2⟩ := perm_tup hys
      subst e1
      refine q zs e2 ((List.pairwise_map.mp hw).imp fun h => ?_)
      rwa [ltI_tup] at h)
end Bd
namespace Bd
open PySem PySem.Spec PyProof.Rows L2 HT
local macro_rules | `(tactic| walk_at "de1") => `(tactic| (with_reducible first
  | refine dI_var rfl ?_ | refine dI_c ?_ | refine dI_op0 ?_ | refine dI_op ?_ | refine dI_un ?_ | refine dI_ixO rfl ?_ | refine dI_ixT ?_ | refine dI_ixL ?_ | refine dI_if ?_ | refine dI_lenO rfl ?_ | refine dI_lenL ?_ | refine dI_abs ?_ | refine dI_two ?_ | refine dI_intB ?_
  | refine dB_var rfl ?_ | refine dB_c ?_ | refine dB_op0 ?_ | refine dB_eqI ?_ | refine dB_neI ?_ | refine dB_inI ?_ | refine dB_not ?_ | refine dB_and ?_ | refine dB_or ?_ | refine dB_chain ?_ | refine dB_eqD ?_ | refine dB_neD ?_ | refine dB_isi ?_
  | refine dL_var rfl ?_ | refine dL_ixO rfl ?_ | refine dL_ixT ?_ | refine dL_ixL ?_ | refine dL_o ?_
  | refine dT_var rfl ?_ | refine dT_ixL ?_ | refine dT_ixT ?_ | refine dT_tup ?_ | refine dT_slT ?_ | refine dT_catT ?_
  | refine de_var rfl ?_ | refine dX_ixO rfl ?_ | refine dX_ixT ?_ | refine dX_ixL ?_ | refine de_tup ?_ | refine de_c rfl ?_ | refine de_if ?_ | refine Do.de (do_lst ?_) | refine de_catTT ?_ | refine de_slTT ?_
  | refine dI_e (dI_op0 ?_) | refine dI_e (dI_op ?_) | refine dI_e (dI_un ?_) | refine dI_e (dI_lenO rfl ?_) | refine dI_e (dI_lenL ?_) | refine dI_e (dI_abs ?_) | refine dI_e (dI_two ?_) | refine dI_e (dI_intB ?_)
  | refine dB_e (dB_op0 ?_) | refine dB_e (dB_eqI ?_) | refine dB_e (dB_neI ?_) | refine dB_e (dB_inI ?_) | refine dB_e (dB_not ?_) | refine dB_e (dB_and ?_) | refine dB_e (dB_or ?_) | refine dB_e (dB_chain ?_) | refine dB_e (dB_eqD ?_) | refine dB_e (dB_neD ?_)
  | refine dt_tB ?_ | refine dt_tTest ?_ | refine dt_not ?_ | refine dt_and ?_ | refine dt_or ?_ | refine dt_yes ?_
  | refine da_nil ?_ | refine da_cons ?_ | refine dp_no ?_ | refine dp_partI ?_
  | refine di_rngI ?_ | refine di_listL ?_ | refine di_zipL ?_ | refine di_enumL ?_
  | refine do_lck rfl ?_ | refine do_lst ?_ | refine do_catL ?_ | refine do_slLL ?_ | refine do_revL ?_
  | refine dg_nm rfl ?_ | refine dg_name rfl (by simp) ?_ | refine dg_tup rfl ?_ | refine dgs_cons ?_ | refine dgs_nil ?_))
local macro_rules | `(tactic| walk_at "de") => `(tactic| (repeat (first | walk_at "de1" | (refine ⟨_, rfl, ?_⟩))))
local macro_rules | `(tactic| walk_at "nrm") => `(tactic| (try dsimp only [List.set, toD, wipeR, List.map, pairD, beadD, lookD]))

def topS (i : Nat) : Stmt := PySem.Challenge.pw_bothdoors_k24_whole_back_and_in_pieces.main.body.getD i (.Pass ⟨0, 0, 0, 0⟩)
abbrev sLawTake : Stmt := topS 26
theorem scLawTake : FnScope ["purse", "many", "found", "square"] ["purse", "many"] (defScope sLawTake) := ⟨rfl, rfl, rfl, by decide +kernel, rfl, by decide +kernel, by decide +kernel⟩
abbrev sLawPurse : Stmt := topS 25
theorem scLawPurse : FnScope ["script", "great", "stir", "cell"] ["script"] (defScope sLawPurse) := ⟨rfl, rfl, rfl, by decide +kernel, rfl, by decide +kernel, by decide +kernel⟩
/-! ### the purse: great numbers, then a stirred one -/
def purM (g : Addr) (m n : Int) : List V := [.ref g, .int m, .int n]
structure PurI (p g : Addr) (H : Hp) : Prop where
  ok : ∃ (ls : List Int) (m n : Int), H p = some (.lst (purM g m n)) ∧ H g = some (.lst (ls.map V.int)) ∧ ls.length ≤ 63 ∧ 0 ≤ m ∧ m < 2 ^ 90
  ne : p ≠ g
def Wp (G : Hp) (p g : Addr) : Wd where
  J := [p, g]
  I := fun _ H => PurI p g H
  hI := fun {ν H H'} h i => by
    obtain ⟨⟨ls, m, n, h1, h2, h3⟩, ne⟩ := i
    exact ⟨⟨ls, m, n, (h p (by simp)).trans h1, (h g (by simp)).trans h2, h3⟩, ne⟩
  hJ := fun {ν H} i a ha => by
    obtain ⟨⟨ls, m, n, h1, h2, h3⟩, ne⟩ := i
    simp only [List.mem_cons, List.not_mem_nil, or_false] at ha
    rcases ha with rfl | rfl
    · exact ⟨_, h1⟩
    · exact ⟨_, h2⟩
  G := G
def spP {ι : Type} (K : PySem.W.Frag) (arg : ι → List PyData) (pre : ι → Nat → Prop) (post : ι → Nat → Nat → Sl → Prop) : Sp := fun vs H Q E => ∃ (G : Hp) (p g : Addr), spD K (Wp G p g) [.ref p] arg pre post vs H Q E
def spTake : Sp := fun vs H Q _ => ∃ (p g : Addr) (m : Int), vs = [.ref p, .int m] ∧ PurI p g H ∧ 0 < m ∧ m < 2 ^ 1000 ∧
  ∀ r H', 0 ≤ r → r < m → PurI p g H' → Kp [p, g] H H' → Q (.int r) H'
section
variable {P : Program} {w : World} {K : PySem.W.Frag} {mg : Str → Option Value} {base : Heap}
theorem ok_take {f : Addr} {fd : FuncData} (F : Fun K "_law_take" "_law_take" sLawTake f fd) : FnG P w K mg base 1 f fd ["purse", "many"] spTake := by
  have sc := scLawTake
  refine fnG_of F scLawTake (fun vs H Q E h => ?_) (fun cdv A outer s H vs Q E hr hg h => ?_)
  · obtain ⟨a, g, m, rfl, _⟩ := h
    rfl
  · obtain ⟨a, g, m, rfl, hB, hm0, hm1, q⟩ := h
    refine ⟨_, (pss_cons (ps_while PassesOwn.never (PW.pt (pw_and (pt_cmpR (op_neD hr.units) (pe_ix ix_list (pv 0) pe_int (fun _ _ => rfl)) (pe_lst pa_nil) (nomark _)) (pw_and1 (pt_cmpR op_eq (pe_ix ix_list (pe_ix ix_list (pv 0) pe_int (fun _ _ => rfl)) pe_int (fun _ _ => rfl)) pe_int (nomark _)))))
    (pss_one (ps_expr (pe_bm PySem.F.plainAttrs_list PySem.F.slot_list_pop PySem.F.type_list_pop mt_popAt (pe_ix ix_list (pv 0) pe_int (fun _ _ => rfl)) (pa_cons pe_int pa_nil)))))
  (pss_cons (ps_if (pt_cmpR (op_neD hr.units) (pe_ix ix_list (pv 0) pe_int (fun _ _ => rfl)) (pe_lst pa_nil) (nomark _))
    (pss_cons (ps_set (i := 2) sc.nd rfl (.inl rfl) (pe_op op_mod (pe_ix ix_list (pe_ix ix_list (pv 0) pe_int (fun _ _ => rfl)) pe_int (fun _ _ => rfl)) (pv 1)))
  (pss_cons (ps_asg (pe_op op_fdivW (pe_ix ix_list (pe_ix ix_list (pv 0) pe_int (fun _ _ => rfl)) pe_int (fun _ _ => rfl)) (pv 1)) (pg_sub (pe_ix ix_list (pv 0) pe_int (fun _ _ => rfl)) pe_int set_list))
  (pss_one (ps_ret (pv 2)))))
    pss_nil)
  (pss_cons (ps_asg (pe_op op_add (pe_ix ix_list (pv 0) pe_int (fun _ _ => rfl)) pe_int) (pg_sub (pv 0) pe_int set_list))
  (pss_cons (ps_set (i := 3) sc.nd rfl (.inl rfl) (pe_op op_add (pe_op op_add (pe_op op_mulW (pe_ix ix_list (pv 0) pe_int (fun _ _ => rfl)) (pe_ix ix_list (pv 0) pe_int (fun _ _ => rfl))) (pe_op op_mul (pe_op op_add (pe_ix ix_list (pv 0) pe_int (fun _ _ => rfl)) (pe_ix ix_list (pv 0) pe_int (fun _ _ => rfl))) pe_int)) (pe_op op_mul pe_int (pe_ix ix_list (pv 0) pe_int (fun _ _ => rfl)))))
  (pss_cons (ps_asg (pe_op op_mod (pv 3) pe_int) (pg_sub (pv 0) pe_int set_list))
  (pss_one (ps_ret (pe_op op_mod (pe_op op_fdiv (pe_ix ix_list (pv 0) pe_int (fun _ _ => rfl)) pe_int) (pv 1))))))))), ?_⟩
    dsimp only [cxOf, L2.Cx.nox]
    obtain ⟨⟨ls, x0, n0, hA, hC, hls, hx0, hx1⟩, hne⟩ := hB
    have oA : a ∈ [a, g] := by simp
    have oG : g ∈ [a, g] := by simp
    refine ⟨fun n σ H' => ∃ ls : List Int, σ = [some (.ref a), some (.int m), none, none] ∧ n = ls.length ∧ ls.length ≤ 63 ∧ H' a = some (.lst (purM g x0 n0)) ∧ H' g = some (.lst (ls.map V.int)) ∧ Kp [a, g] H H',
      ⟨_, ls, rfl, rfl, hls, hA, hC, Kp.refl⟩, ?_⟩
    rintro n σ H1 ⟨ls, rfl, rfl, hls, hA, hC, k1⟩
    have sA : SqL K H1 a (purM g x0 n0) := .inl (.inl hA)
    have sC : SqL K H1 g (ls.map V.int) := .inl (.inl hC)
    -- purse[0] != []
    refine ⟨_, rfl, _, _, _, _, rfl, rfl, sA, rfl, Nat.zero_le _, fun N0 nN0 => ?_⟩
    have hA' := (same_new (o := .lst []) nN0) _ _ hA
    have hC' := (same_new (o := .lst []) nN0) _ _ hC
    have hN : (upd H1 N0 (.lst [])) N0 = some (.lst []) := upd_same
    have k1 : Kp [a, g] H (upd H1 N0 (.lst [])) := k1.trans (Kp.same (same_new nN0))
    generalize upd H1 N0 (.lst []) = H2 at hA' hC' hN k1 ⊢
    have sA' : SqL K H2 a (purM g x0 n0) := .inl (.inl hA')
    have sC' : SqL K H2 g (ls.map V.int) := .inl (.inl hC')
    refine ⟨.list (ls.map .int), .list [], mk_ints hC', .lst (.inl (.inl hN)) .nil, (shp_ints (n := 0) ls).ok (by decide), rfl, _, rfl, ?_⟩
    rw [eqv_nil]
    cases ls with
    | nil =>
      refine ifF (by decide) (ifF (by decide) ?_)
      refine ⟨_, rfl, _, _, _, _, rfl, rfl, sA', rfl, Nat.zero_le _, fun N1 nN1 => ?_⟩
      have hA3 := (same_new (o := .lst []) nN1) _ _ hA'
      have hC3 := (same_new (o := .lst []) nN1) _ _ hC'
      have hM : (upd H2 N1 (.lst [])) N1 = some (.lst []) := upd_same
      have k3 : Kp [a, g] H (upd H2 N1 (.lst [])) := k1.trans (Kp.same (same_new nN1))
      generalize upd H2 N1 (.lst []) = H3 at hA3 hC3 hM k3 ⊢
      refine ⟨.list (([] : List Int).map .int), .list [], mk_ints hC3, .lst (.inl (.inl hM)) .nil, (shp_ints (n := 0) ([] : List Int)).ok (by decide), rfl, _, rfl, ?_⟩
      rw [eqv_nil]
      refine ifF (by decide) ?_
      have sA3 : SqL K H3 a (purM g x0 n0) := .inl (.inl hA3)
      refine ⟨_, rfl, _, _, _, _, rfl, rfl, sA3, rfl, _, _, rfl, rfl, _, rfl, _, _, _, 2, rfl, rfl, hA3, rfl, ?_⟩
      have hA4 : (upd H3 a (.lst (purM g x0 (n0 + 1)))) a = some (.lst (purM g x0 (n0 + 1))) := upd_same
      have hC4 : (upd H3 a (.lst (purM g x0 (n0 + 1)))) g = some (.lst (([] : List Int).map V.int)) := by rw [upd_ne (Ne.symm hne)]; exact hC3
      have k4 : Kp [a, g] H (upd H3 a (.lst (purM g x0 (n0 + 1)))) := k3.wr oA
      show tSeq _ _ _ _ (upd H3 a (.lst (purM g x0 (n0 + 1))))
      generalize upd H3 a (.lst (purM g x0 (n0 + 1))) = H4 at hA4 hC4 k4 ⊢
      have sA4 : SqL K H4 a (purM g x0 (n0 + 1)) := .inl (.inl hA4)
      have hlg : x0.natAbs.log2 < 90 := PySem.Flt.log2_lt_of (by decide) (by omega)
      refine ⟨_, rfl, _, _, _, _, rfl, rfl, sA4, rfl, _, rfl, _, _, _, _, rfl, rfl, sA4, rfl, _, _, rfl, rfl, (by show x0.natAbs.log2 + x0.natAbs.log2 < 1000000; omega), _, rfl, _, _, _, _, rfl, rfl, sA4, rfl, _, rfl, _, _, _, _, rfl, rfl, sA4, rfl, _, _, rfl, rfl, _, _, rfl, rfl, .inr ⟨by decide, by decide⟩, _, _, rfl, rfl, _, rfl, _, _, _, _, rfl, rfl, sA4, rfl, _, _, rfl, rfl, .inl ⟨by decide, by decide⟩, _, _, rfl, rfl, ?_⟩
      refine ⟨_, rfl, _, _, rfl, rfl, (by show (0 : Int) < 618970019642690137449562111; decide), _, rfl, _, _, _, 1, rfl, rfl, hA4, rfl, ?_⟩
      obtain ⟨x1, ex1, y0, y1⟩ : ∃ x1 : Int, (x0 * x0 + (x0 + (n0 + 1)) * 7919 + 104729 * (n0 + 1)) % 618970019642690137449562111 = x1 ∧ 0 ≤ x1 ∧ x1 < 2 ^ 90 :=
        ⟨_, rfl, Int.emod_nonneg _ (by decide), Int.lt_of_lt_of_le (Int.emod_lt_of_pos _ (by decide)) (by decide)⟩
      dsimp only [purM, List.set]
      rw [ex1]
      have hA5 : (upd H4 a (.lst (purM g x1 (n0 + 1)))) a = some (.lst (purM g x1 (n0 + 1))) := upd_same
      have hC5 : (upd H4 a (.lst (purM g x1 (n0 + 1)))) g = some (.lst (([] : List Int).map V.int)) := by rw [upd_ne (Ne.symm hne)]; exact hC4
      have k5 : Kp [a, g] H (upd H4 a (.lst (purM g x1 (n0 + 1)))) := k4.wr oA
      show tRet _ _ _ (upd H4 a (.lst (purM g x1 (n0 + 1))))
      generalize upd H4 a (.lst (purM g x1 (n0 + 1))) = H5 at hA5 hC5 k5 ⊢
      refine ⟨_, rfl, _, _, _, _, rfl, rfl, .inl (.inl hA5), rfl, _, _, rfl, rfl, ⟨by decide, by decide⟩, _, rfl, _, _, rfl, rfl, hm0, ?_⟩
      exact q _ _ (Int.emod_nonneg _ (by omega)) (Int.emod_lt_of_pos _ hm0) ⟨⟨[], x1, n0 + 1, hA5, hC5, by decide, y0, y1⟩, hne⟩ k5
    | cons v ls =>
      refine ifT (by simp) ?_
      have at0 : atI ((v :: ls).map V.int) 0 = some (.int v) := atI_nat (j := 0) rfl
      refine ⟨_, rfl, _, _, _, _, rfl, rfl, sA', rfl, _, _, _, _, rfl, rfl, sC', at0, ?_⟩
      refine ⟨rfl, _, rfl, ite2 (fun e => ?_) (fun e => ?_)⟩
      · refine ⟨fun σ' H' => ∃ ls' : List Int, σ' = [some (.ref a), some (.int m), none, none] ∧ ls'.length < (v :: ls).length ∧ ls'.length ≤ 63 ∧ H' a = some (.lst (purM g x0 n0)) ∧ H' g = some (.lst (ls'.map V.int)) ∧ Kp [a, g] H H', fun σ' H' ⟨ls', h1, h2, h3⟩ => ⟨_, h2, ls', h1, rfl, h3⟩, ?_⟩
        refine ⟨_, rfl, _, _, _, _, rfl, rfl, sA', rfl, .inl ⟨rfl, _, sC'⟩, g, _, 0, 0, .int v, rfl, rfl, hC', by decide, by decide, ?_, rfl, ?_⟩
        · rw [List.length_map, List.length_cons]; exact seqIndex_of (by decide) (by omega)
        · refine ⟨ls, rfl, by rw [List.length_cons]; omega, by rw [List.length_cons] at hls; omega, by rw [upd_ne hne]; exact hA', by rw [upd_same]; rfl, k1.wr oG⟩
      · refine ⟨_, rfl, _, _, _, _, rfl, rfl, sA', rfl, Nat.zero_le _, fun N1 nN1 => ?_⟩
        have hA3 := (same_new (o := .lst []) nN1) _ _ hA'
        have hC3 := (same_new (o := .lst []) nN1) _ _ hC'
        have hM : (upd H2 N1 (.lst [])) N1 = some (.lst []) := upd_same
        have k3 : Kp [a, g] H (upd H2 N1 (.lst [])) := k1.trans (Kp.same (same_new nN1))
        generalize upd H2 N1 (.lst []) = H3 at hA3 hC3 hM k3 ⊢
        refine ⟨.list ((v :: ls).map .int), .list [], mk_ints hC3, .lst (.inl (.inl hM)) .nil, (shp_ints (n := 0) (v :: ls)).ok (by decide), rfl, _, rfl, ?_⟩
        rw [eqv_nil]
        refine ifT (by simp) ?_
        have sA3 : SqL K H3 a (purM g x0 n0) := .inl (.inl hA3)
        have sC3 : SqL K H3 g ((v :: ls).map V.int) := .inl (.inl hC3)
        refine ⟨_, rfl, _, _, _, _, rfl, rfl, sA3, rfl, _, _, _, _, rfl, rfl, sC3, at0, _, rfl, _, _, rfl, rfl, hm0, ?_⟩
        refine ⟨_, rfl, _, _, _, _, rfl, rfl, sA3, rfl, _, _, _, _, rfl, rfl, sC3, at0, _, rfl, _, _, rfl, rfl, wide_div hm0 (b := 1000) (by omega) (by decide) (by decide), _, rfl, _, _, _, _, rfl, rfl, sA3, rfl, _, _, _, 0, rfl, rfl, hC3, ?_, ?_⟩
        · rw [List.length_map, List.length_cons]; exact ixN_nat (j := 0) (by omega)
        refine ⟨_, rfl, q _ _ (Int.emod_nonneg _ (by omega)) (Int.emod_lt_of_pos _ hm0) ⟨⟨(v / m) :: ls, x0, n0, by rw [upd_ne hne]; exact hA3, by rw [upd_same]; rfl, by rw [List.length_cons] at hls ⊢; omega, hx0, hx1⟩, hne⟩ (k3.wr oG)⟩
def spPurse (K : PySem.W.Frag) : Sp := fun vs H Q _ => ∃ (a : Addr) (ns : List Int), vs = [.ref a] ∧ SqL K H a (ns.map V.int) ∧ ns.length ≤ 63 ∧
  ∀ p g H', Same H H' → H p = none → H g = none → PurI p g H' → Q (.ref p) H'
theorem ok_purse {f : Addr} {fd : FuncData} (F : Fun K "_law_purse" "_law_purse" sLawPurse f fd) (m_abs : mg "abs" = none) : FnG P w K mg base 1 f fd ["script"] (spPurse K) := by
  have sc := scLawPurse
  refine fnG_of F scLawPurse (fun vs H Q E h => ?_) (fun cdv A outer s H vs Q E hr hg h => ?_)
  · obtain ⟨a, ns, rfl, _⟩ := h
    rfl
  · obtain ⟨a, ns, rfl, hS, hlen, q⟩ := h
    refine ⟨_, (pss_cons (ps_setLc (i := 1) (own := [("cell", 3)]) (g := gName 3)  (by rfl) sc.nd rfl rfl (sw_true rfl rfl rfl (by decide +kernel)) (pi_list (pe_slice sl_list (pv 0) po_none (po_some pe_int))) (blkOk_by (own := [("cell", 3)]) (N := ["script", "great", "stir", "cell"]) (sc := defScope sLawPurse) (by decide +kernel)) (fun _ _ _ _ _ => (pg_name (i := 3) sc.nd rfl (.inl rfl))) (fun _ _ _ _ _ => (pts_one (pt_cmpR op_ge (pe_callB call_abs (by rfl) m_abs (by decide +kernel) (pa_cons (pv 3) pa_nil)) (pe_op op_pow pe_int pe_int) (nomark _)))) (fun _ _ _ _ _ => (pe_callB call_abs (by rfl) m_abs (by decide +kernel) (pa_cons (pv 3) pa_nil))))
  (pss_cons (ps_set (i := 2) sc.nd rfl (.inl rfl) pe_int)
  (pss_cons (ps_for PassesOwn.never rfl (pi_list (pe_slice sl_list (pv 0) po_none (po_some pe_int))) (pg_name (i := 3) sc.nd rfl (.inl rfl))
    (pss_one (ps_set (i := 2) sc.nd rfl (.inl rfl) (pe_op op_mod (pe_op op_add (pe_op op_add (pe_op op_mul (pv 2) pe_int) (pe_op op_mul (pe_op op_mod (pv 3) (pe_op op_pow pe_int pe_int)) pe_int)) pe_int) pe_int))))
  (pss_one (ps_ret (pe_lst (pa_cons (pv 1) (pa_cons (pv 2) (pa_cons pe_int pa_nil))))))))), ?_⟩
    dsimp only [cxOf, L2.Cx.nox]
    refine ⟨_, rfl, 63, rfl, a, ns.map V.int, rfl, hS, fun D nD => ?_⟩
    obtain ⟨ms, em, lm⟩ := cut_ints ns none (some 63)
    rw [em]
    have k1 : Same H (upd H D (.lst (ms.map V.int))) := same_new nD
    have hD1 : (upd H D (.lst (ms.map V.int))) D = some (.lst (ms.map V.int)) := upd_same
    generalize upd H D (.lst (ms.map V.int)) = H1 at k1 hD1 ⊢
    refine ⟨D, rfl, ⟨_, .inl (.inl hD1)⟩, fun G nG => lc_list (K := K) (a := D) (xs := ms.map V.int) (fun i H2 => ∃ gs : List Int, H2 G = some (.lst (gs.map V.int)) ∧ gs.length ≤ i ∧ H2 D = some (.lst (ms.map V.int)) ∧ Same H H2)
      ⟨[], upd_same, Nat.le_refl _, same_new nG _ _ hD1, k1.trans (same_new nG)⟩ (fun i H2 _ ⟨_, _, _, h, _⟩ => .inl (.inl h)) ?_ ?_⟩
    · rintro i x H2 hx ⟨gs, hG2, hl, hD2, k2⟩
      obtain ⟨z, rfl, hz⟩ := ints_at hx
      refine ⟨rfl, _, rfl, z, rfl, _, _, rfl, rfl, ⟨by decide, by decide, by decide⟩, _, _, rfl, rfl, _, rfl, ite2 (fun e => ?_) (fun e => ?_)⟩
      · refine ⟨_, rfl, z, rfl, gs.map V.int, hG2, by rw [List.length_map]; exact small1000 (by have := lt_of_at hz; omega), gs ++ [if z < 0 then -z else z], by rw [upd_same, List.map_append]; rfl, by rw [List.length_append]; show gs.length + 1 ≤ i + 1; omega, by rw [upd_ne (ne_new hD1 nG).symm]; exact hD2, fun b o e => ?_⟩
        rw [upd_ne (fun (z : b = G) => by rw [z] at e; rw [k1 _ _ e] at nG; cases nG)]
        exact k2 b o e
      · exact ⟨gs, hG2, by omega, hD2, k2⟩
    · rintro H2 ⟨gs, hG2, hl, hD2, k2⟩
      rw [List.length_map] at hl
      have nG0 : H G = none := by
        cases c : H G with
        | none => rfl
        | some o => rw [k1 _ _ c] at nG; cases nG
      refine ⟨_, rfl, 63, rfl, a, ns.map V.int, rfl, k2.seq hS, fun D2 nD2 => ?_⟩
      rw [em]
      have k3 : Same H (upd H2 D2 (.lst (ms.map V.int))) := k2.trans (same_new nD2)
      have hD3 : (upd H2 D2 (.lst (ms.map V.int))) D2 = some (.lst (ms.map V.int)) := upd_same
      have hG3 : (upd H2 D2 (.lst (ms.map V.int))) G = some (.lst (gs.map V.int)) := same_new nD2 _ _ hG2
      generalize upd H2 D2 (.lst (ms.map V.int)) = H3 at k3 hD3 hG3 ⊢
      refine ⟨D2, rfl, ⟨_, .inl (.inl hD3)⟩, for_list (K := K) (a := D2) (xs := ms.map V.int) (fun i σ H4 => ∃ (s0 : Int) (u : Option V), σ = [some (.ref a), some (.ref G), some (.int s0), u] ∧ 0 ≤ s0 ∧ s0 < 2 ^ 90 ∧ H4 = H3)
        ⟨90001, _, rfl, by decide, by decide, rfl⟩ (fun i σ H4 _ ⟨_, _, _, _, _, h⟩ => .inl (.inl (by rw [h]; exact hD3))) ?_ ?_⟩
      · rintro i x σ H4 hx ⟨s0, u, rfl, h0, h1, rfl⟩
        obtain ⟨z, rfl, hz⟩ := ints_at hx
        refine ⟨_, rfl, _, _, rfl, rfl, .inr ⟨by decide, by decide⟩, _, rfl, _, _, rfl, rfl, ⟨by decide, by decide, by decide⟩, _, _, rfl, rfl, (by show (0 : Int) < 10 ^ Int.toNat 40; decide), _, _, rfl, rfl, .inr ⟨by decide, by decide⟩, _, _, rfl, rfl, _, _, rfl, rfl, _, _, rfl, rfl, (by show (0 : Int) < 618970019642690137449562111; decide), ?_⟩
        exact ⟨(s0 * 2862933 + z % 10 ^ Int.toNat 40 * 2 + 3037) % 618970019642690137449562111, _, rfl, Int.emod_nonneg _ (by decide), Int.lt_of_lt_of_le (Int.emod_lt_of_pos _ (by decide)) (by decide), rfl⟩
      · rintro σ H4 ⟨s0, u, rfl, h0, h1, rfl⟩
        refine ⟨_, rfl, _, rfl, (by show 3 ≤ sizeLine; decide), fun p np => ?_⟩
        refine q p G _ (k3.trans (same_new np)) ?_ nG0 ⟨⟨gs, s0, 0, upd_same, by rw [upd_ne (ne_new hG3 np).symm]; exact hG3, by omega, h0, h1⟩, ne_new hG3 np⟩
        cases c : H p with
        | none => rfl
        | some o => rw [k3 _ _ c] at np; cases np
end
section
variable {K : PySem.W.Frag} {G : Hp} {p g : Addr} {ρ : List Sl} {ν : Nat} {te : TE} {tr : TA} {k : Nat → Int → Prop} {Ψ : Nat → List PyData → Prop} {Φ : Nat → PyData → Prop}
theorem dI_take {n : Nat} (hj : ρ[n]? = some (.at (.ref p))) (h : DeI K (Wp G p g) ρ ν te fun ν1 m => 0 < m ∧ m < 2 ^ 1000 ∧ ∀ r, 0 ≤ r → r < m → k ν1 r) : DeI K (Wp G p g) ρ ν (tCall spTake [] E0 (tCons (tVar n) (tCons te tNil))) k := fun S B σ H Q st q => by
  obtain ⟨u, eu, e1⟩ := st.sl n _ hj
  subst e1
  refine ⟨_, eu, h S B σ H _ st fun ν1 v H1 x k1 i1 d1 ⟨m, ex, h0, h1, hk⟩ => ?_⟩
  subst ex; cases d1
  refine ⟨p, g, m, rfl, i1, h0, h1, fun r H2 r0 r1 i2 k2 => ?_⟩
  exact q ν1 _ H2 _ (k1.trans k2) i2 (.int r) ⟨r, rfl, hk r r0 r1⟩
theorem de_callP {ι : Type} {arg : ι → List PyData} {pre : ι → Nat → Prop} {post : ι → Nat → Nat → Sl → Prop} {n : Nat} (hj : ρ[n]? = some (.at (.ref p))) (h : Da K (Wp G p g) ρ ν tr fun ν1 xs => ∃ i, xs = arg i ∧ pre i ν1 ∧ ∀ ν2 s, post i ν1 ν2 s → ∃ y, s = .d y ∧ Φ ν2 y) : De K (Wp G p g) ρ ν (tCall (spP K arg pre post) [] E0 (tCons (tVar n) tr)) Φ := de_call (fun vs H Q h => ⟨G, p, g, h⟩) hj h
theorem do_callP {ι : Type} {arg : ι → List PyData} {pre : ι → Nat → Prop} {post : ι → Nat → Nat → Sl → Prop} {n : Nat} (hj : ρ[n]? = some (.at (.ref p))) (h : Da K (Wp G p g) ρ ν tr fun ν1 xs => ∃ i, xs = arg i ∧ pre i ν1 ∧ ∀ ν2 s, post i ν1 ν2 s → ∃ a ys, s = .own a ys ∧ Ψ ν2 ys) : Do K (Wp G p g) ρ ν (tCall (spP K arg pre post) [] E0 (tCons (tVar n) tr)) Ψ := do_call (fun vs H Q h => ⟨G, p, g, h⟩) hj h
/-- the purse is made: from now on it may be changed -/
theorem ds_purse {n i : Nat} {a : Addr} {ns : List Int} {u : TS} {P : Po} (hj : ρ[n]? = some (.at (.ref a))) (hG : SqL K G a (ns.map V.int)) (hl : ns.length ≤ 63) (ni : nOwn ρ i = true) (h : ∀ p g, Ds K (Wp G p g) (ρ.set i (.at (.ref p))) 0 u P) :
    Ds K (Wg G) ρ ν (tSeq (tAsg (tCall (spPurse K) [] E0 (tCons (tVar n) tNil)) (gName i)) u) P := fun S B σ H D st e => by
  obtain ⟨w, ew, e1⟩ := st.sl n _ hj
  subst e1
  refine ⟨_, ew, a, ns, rfl, (st.G.trans hid_same).seq hG, hl, fun p g H' sm np ng hI => ?_⟩
  have k : Kp (Wg G).J H H' := Kp.same sm
  have st1 := (st.keep (ν' := 0) k trivial).setS (s := .at (.ref p)) (u := some (.ref p)) ni rfl rfl
  have fp := st.fresh np
  have fg := st.fresh ng
  have eo : ownA (ρ.set i (.at (.ref p))) = ownA ρ := ownA_set ni rfl
  have sub : ∀ {T : List Addr}, Same (hid T H) (hid (p :: g :: T) H') := fun {T} b o eb => by
    obtain ⟨q1, q2⟩ := of_hid eb
    refine hid_of (sm b o q1) ?_
    simp only [List.mem_cons, not_or]
    exact ⟨(fun z => by rw [z, np] at q1; cases q1), (fun z => by rw [z, ng] at q1; cases q1), q2⟩
  have sl2 : ∀ (j : Nat) (s : Sl), (ρ.set i (.at (.ref p)))[j]? = some s → ∃ u, (σ.set i (some (.ref p)))[j]? = some u ∧ SlOk K (hid ((p :: g :: S) ++ ownA (ρ.set i (.at (.ref p)))) H') H' s u := fun j s es => by
    obtain ⟨u, eu, ok⟩ := st1.sl j s es
    refine ⟨u, eu, ?_⟩
    rcases get_set es with ⟨_, rfl⟩ | ⟨nj, es'⟩
    · exact ok
    · obtain ⟨u', eu', ok'⟩ := st.sl j s es'
      have : u' = u := by
        rw [List.getElem?_set_ne nj, eu'] at eu
        exact Option.some.inj eu
      subst this
      rw [eo]
      cases s with
      | un => trivial
      | d x => obtain ⟨v, e1, d⟩ := ok'; exact ⟨v, e1, d.same (sub (T := S ++ ownA ρ))⟩
      | own b ys => obtain ⟨e1, us, e2, d⟩ := ok'; exact ⟨e1, us, sm _ _ e2, d.same (sub (T := S ++ ownA ρ))⟩
      | «at» v => exact ok'
  have st2 : Sta K (Wp G p g) (p :: g :: S) B (ρ.set i (.at (.ref p))) (σ.set i (some (.ref p))) H' 0 := by
    refine ⟨st1.len, sl2, st1.nd, fun b hb z => ?_, fun b hb => ?_, ?_, hI, fun b hb => ?_, st.gb⟩
    · rw [eo] at hb
      rcases List.mem_cons.mp z with rfl | z
      · exact fp.2.1 hb
      · rcases List.mem_cons.mp z with rfl | z
        · exact fg.2.1 hb
        · exact st.out b hb z
    · have hb' : b = p ∨ b = g := by simpa [Wp] using hb
      rcases hb' with rfl | rfl <;> simp
    · rw [eo]
      exact st.fr.trans (sub (T := ownA ρ))
    · rcases List.mem_cons.mp hb with rfl | hb
      · exact .inl (by simp [Wp])
      · rcases List.mem_cons.mp hb with rfl | hb
        · exact .inl (by simp [Wp])
        · rcases st.al b hb with z | z
          · exact (nomatch z)
          · exact .inr z
  have back : ∀ {ρ' σ' H2 ν'}, Sta K (Wp G p g) (p :: g :: S) B ρ' σ' H2 ν' → Sta K (Wg G) S B ρ' σ' H2 ν' := fun {ρ' σ' H2 ν'} s2 => by
    have sm2 : Same (hid ((p :: g :: S) ++ ownA ρ') H2) (hid (S ++ ownA ρ') H2) := hid_sub fun b hb => List.mem_cons_of_mem _ (List.mem_cons_of_mem _ hb)
    refine ⟨s2.len, fun j r er => ?_, s2.nd, fun b hb z => s2.out b hb (List.mem_cons_of_mem _ (List.mem_cons_of_mem _ z)), st.js, s2.fr.trans (hid_sub fun b hb => List.mem_cons_of_mem _ (List.mem_cons_of_mem _ hb)), trivial, st.al, s2.gb⟩
    obtain ⟨u, eu, h⟩ := s2.sl j r er
    refine ⟨u, eu, ?_⟩
    cases r with
    | un => trivial
    | d x => obtain ⟨v, e1, d⟩ := h; exact ⟨v, e1, d.same sm2⟩
    | own b ys => obtain ⟨e1, us, e2, d⟩ := h; exact ⟨e1, us, e2, d.same sm2⟩
    | «at» v => exact h
  have backR : ∀ {s v H2 ν'}, RetOk K (Wp G p g) (p :: g :: S) B s v H2 ν' → RetOk K (Wg G) S B s v H2 ν' := fun {s v H2 ν'} r => by
    obtain ⟨r1, r2, r3⟩ := r
    refine ⟨r1.trans (hid_sub fun b hb => (nomatch hb)), trivial, ?_⟩
    cases s with
    | un => trivial
    | d x => exact r3.same (hid_sub fun b hb => List.mem_cons_of_mem _ (List.mem_cons_of_mem _ hb))
    | «at» w => exact r3
    | own b ys =>
      obtain ⟨q1, q2, q3, vs, q4, q5⟩ := r3
      refine ⟨q1, fun z => q2 (List.mem_cons_of_mem _ (List.mem_cons_of_mem _ z)), q3, vs, q4, q5.same (hid_sub fun c hc => ?_)⟩
      rcases List.mem_cons.mp hc with rfl | hc
      · exact List.mem_cons_self
      · exact List.mem_cons_of_mem _ (List.mem_cons_of_mem _ (List.mem_cons_of_mem _ hc))
  exact h p g (p :: g :: S) B _ H' D st2 ⟨fun _ ρ' σ' H2 s2 h2 => e.nx _ ρ' σ' H2 (back s2) h2, fun _ s v H2 r h2 => e.rt _ s v H2 (backR r) h2, fun _ ρ' σ' H2 s2 h2 => e.bk _ ρ' σ' H2 (back s2) h2, fun _ ρ' σ' H2 s2 h2 => e.ct _ ρ' σ' H2 (back s2) h2⟩
/-- how many numbers the script has -/
theorem dI_lenG {n : Nat} {a : Addr} {ns : List Int} {W : Wd} {k : Nat → Int → Prop} (hj : ρ[n]? = some (.at (.ref a))) (hG : SqL K W.G a (ns.map V.int)) (h : k ν (ns.length : Int)) : DeI K W ρ ν (tCB (fun as H Q => ∃ p ys, as = [.ref p] ∧ (SqL K H p ys ∨ SqT K H p ys) ∧ Q (.int ys.length) H) (tCons (tVar n) tNil)) k := fun S B σ H Q st q => by
  obtain ⟨u, eu, e1⟩ := st.sl n _ hj
  subst e1
  refine ⟨_, eu, a, _, rfl, .inl ((st.G.trans hid_same).seq hG), ?_⟩
  rw [List.length_map]
  exact q ν _ H _ Kp.refl st.inv (.int _) ⟨_, rfl, h⟩
end
/-- the law's own def -/
theorem law_runP {K : PySem.W.Frag} {N : List Str} {a : Addr} {ns : List Int} {H : Hp} {Q : VK} {t : TS} (hS : SqL K H a (ns.map V.int)) (q : ∀ H', Q (.bl true) H')
    (hd : ∀ G, SqL K G a (ns.map V.int) → Ds K (Wg G) (.at (.ref a) :: List.replicate (N.length - 1) .un) 0 t ⟨fun _ _ => False, fun _ s => s = .d (.bool true), fun _ _ => False, fun _ _ => False⟩) :
    t { nx := fun _ H' => Q .non H', rt := Q } (L2.start N [.ref a]) H := by
  have eo : ownA (.at (.ref a) :: List.replicate (N.length - 1) .un) = [] := ownA_start [.ref a] [] (N.length - 1)
  have al := (AllSl.jss (K := K) (Hh := hid [] H) (H := H) [.ref a]).app (AllSl.un (N.length - 1))
  refine hd H hS [] H _ H _ ⟨al.1, fun j s e => ?_, fun j k b xs ys e => ?_, fun b hb => ?_, fun b hb => (nomatch hb), ?_, trivial, fun b hb => (nomatch hb), fun _ _ h => h⟩ ⟨fun _ _ _ _ _ h => h.elim, fun _ s v H' r h => ?_, fun _ _ _ _ _ h => h.elim, fun _ _ _ _ _ h => h.elim⟩
  · rw [eo]; exact al.2 j s e
  · have : b ∈ ownA (.at (.ref a) :: List.replicate (N.length - 1) .un) := mem_ownA.mpr ⟨_, _, e⟩
    rw [eo] at this; cases this
  · rw [eo] at hb; cases hb
  · rw [eo]; exact fun b o h => hid_of h (by simp [Wg])
  · subst h
    have d : Dd K (hid [] H') v (.bool true) := r.2.2
    cases d
    exact q H'
end Bd
namespace Bd
open PySem PySem.Spec PyProof.Rows L2 HT
local macro_rules | `(tactic| walk_at "de1") => `(tactic| (with_reducible first
  | refine dI_var rfl ?_ | refine dI_c ?_ | refine dI_op0 ?_ | refine dI_op ?_ | refine dI_un ?_ | refine dI_ixO rfl ?_ | refine dI_ixT ?_ | refine dI_ixL ?_ | refine dI_if ?_ | refine dI_lenO rfl ?_ | refine dI_lenL ?_ | refine dI_abs ?_ | refine dI_two ?_ | refine dI_intB ?_
  | refine dB_var rfl ?_ | refine dB_c ?_ | refine dB_op0 ?_ | refine dB_eqI ?_ | refine dB_neI ?_ | refine dB_inI ?_ | refine dB_not ?_ | refine dB_and ?_ | refine dB_or ?_ | refine dB_chain ?_ | refine dB_eqD ?_ | refine dB_neD ?_ | refine dB_isi ?_
  | refine dL_var rfl ?_ | refine dL_ixO rfl ?_ | refine dL_ixT ?_ | refine dL_ixL ?_ | refine dL_o ?_
  | refine dT_var rfl ?_ | refine dT_ixL ?_ | refine dT_ixT ?_ | refine dT_tup ?_ | refine dT_slT ?_ | refine dT_catT ?_
  | refine de_var rfl ?_ | refine dX_ixO rfl ?_ | refine dX_ixT ?_ | refine dX_ixL ?_ | refine de_tup ?_ | refine de_c rfl ?_ | refine de_if ?_ | refine Do.de (do_lst ?_) | refine de_catTT ?_ | refine de_slTT ?_
  | refine dI_e (dI_op0 ?_) | refine dI_e (dI_op ?_) | refine dI_e (dI_un ?_) | refine dI_e (dI_lenO rfl ?_) | refine dI_e (dI_lenL ?_) | refine dI_e (dI_abs ?_) | refine dI_e (dI_two ?_) | refine dI_e (dI_intB ?_)
  | refine dB_e (dB_op0 ?_) | refine dB_e (dB_eqI ?_) | refine dB_e (dB_neI ?_) | refine dB_e (dB_inI ?_) | refine dB_e (dB_not ?_) | refine dB_e (dB_and ?_) | refine dB_e (dB_or ?_) | refine dB_e (dB_chain ?_) | refine dB_e (dB_eqD ?_) | refine dB_e (dB_neD ?_)
  | refine dt_tB ?_ | refine dt_tTest ?_ | refine dt_not ?_ | refine dt_and ?_ | refine dt_or ?_ | refine dt_yes ?_
  | refine da_nil ?_ | refine da_cons ?_ | refine dp_no ?_ | refine dp_partI ?_
  | refine di_rngI ?_ | refine di_listL ?_ | refine di_zipL ?_ | refine di_enumL ?_
  | refine do_lck rfl ?_ | refine do_lst ?_ | refine do_catL ?_ | refine do_slLL ?_ | refine do_revL ?_
  | refine dg_nm rfl ?_ | refine dg_name rfl (by simp) ?_ | refine dg_tup rfl ?_ | refine dgs_cons ?_ | refine dgs_nil ?_))
local macro_rules | `(tactic| walk_at "de") => `(tactic| (repeat (first | walk_at "de1" | (refine ⟨_, rfl, ?_⟩))))
local macro_rules | `(tactic| walk_at "nrm") => `(tactic| (try dsimp only [List.set, toD, wipeR, List.map, pairD, beadD, lookD]))

abbrev sThrough : Stmt := topS 3
theorem scThrough : FnScope ["house", "door", "way", "a", "b"] ["house", "door", "way"] (defScope sThrough) := ⟨rfl, rfl, rfl, by decide +kernel, rfl, by decide +kernel, by decide +kernel⟩
abbrev sGo : Stmt := topS 4
theorem scGo : FnScope ["house", "numbers", "door", "way", "out", "into"] ["house", "numbers", "door", "way"] (defScope sGo) := ⟨rfl, rfl, rfl, by decide +kernel, rfl, by decide +kernel, by decide +kernel⟩
/-- a going, its door and its way -/
abbrev Gg := Int × Int
abbrev ggD (x : Gg) : PyData := .tuple [.int x.1, .int x.2]
structure Th where
  rooms : Nat
  ds : List (Nat × Nat)
  d : Int
  w : Int
def wayIn (ds : List (Nat × Nat)) (d w : Int) : Prop := 0 ≤ d ∧ d < ds.length ∧ 0 ≤ w ∧ w ≤ 1
/-- the room that is left, and the other one -/
def outOf (ds : List (Nat × Nat)) (x : Gg) : Nat := let p := ds.getD x.1.toNat (0, 0); if x.2 = 0 then p.1 else p.2
def intoOf (ds : List (Nat × Nat)) (x : Gg) : Nat := let p := ds.getD x.1.toNat (0, 0); if x.2 = 0 then p.2 else p.1
def stepTo (ds : List (Nat × Nat)) (F : List Int) (x : Gg) : List Int :=
  let F1 := F.set (outOf ds x) (F.getD (outOf ds x) 0 - 1)
  F1.set (intoOf ds x) (F1.getD (intoOf ds x) 0 + 1)
theorem door_at {ds : List (Nat × Nat)} {x : Gg} (h0 : 0 ≤ x.1) (h1 : x.1 < ds.length) : atD (ds.map pairD) x.1 = some (pairD (ds.getD x.1.toNat (0, 0))) := by
  obtain ⟨a, e, e'⟩ := at_lt (f := pairD) h0 h1
  rw [e, List.getD_eq_getElem?_getD, e']; rfl
theorem rooms_of {rooms : Nat} {ds : List (Nat × Nat)} (hD : Doors rooms ds) {x : Gg} (h0 : 0 ≤ x.1) (h1 : x.1 < ds.length) : outOf ds x < rooms ∧ intoOf ds x < rooms := by
  obtain ⟨a, e, e'⟩ := at_lt (f := pairD) h0 h1
  have := hD a (List.mem_of_getElem? e')
  unfold outOf intoOf
  rw [List.getD_eq_getElem?_getD, e']
  show (if x.2 = 0 then a.1 else a.2) < rooms ∧ (if x.2 = 0 then a.2 else a.1) < rooms
  split <;> exact ⟨by omega, by omega⟩
def spThrough (K : PySem.W.Frag) : Sp := spD (ι := Th) K Wn [] (fun t => [houseD t.rooms t.ds, .int t.d, .int t.w]) (fun t _ => 0 ≤ t.d ∧ t.d < t.ds.length) (fun t _ _ s => s = .d (.tuple [.int (outOf t.ds (t.d, t.w)), .int (intoOf t.ds (t.d, t.w))]))
structure Gos where
  rooms : Nat
  ds : List (Nat × Nat)
  F : List Int
  d : Int
  w : Int
def spGo (K : PySem.W.Frag) : Sp := spO1 (ι := Gos) K (fun t => houseD t.rooms t.ds) (fun t => [.int t.d, .int t.w]) (fun t => t.F.map .int) (fun t => Doors t.rooms t.ds ∧ t.F.length = t.rooms ∧ 0 ≤ t.d ∧ t.d < t.ds.length) (fun t ys => ys = (stepTo t.ds t.F (t.d, t.w)).map .int)
section
variable {P : Program} {w : World} {K : PySem.W.Frag} {mg : Str → Option Value} {base : Heap}
theorem ok_through {f : Addr} {fd : FuncData} (F : Fun K "through" "through" sThrough f fd) : FnG P w K mg base 1 f fd ["house", "door", "way"] (spThrough K) := by
  have sc := scThrough
  refine fnG_of F scThrough (fun vs H Q E h => spD_len h fun i => rfl) (fun cdv A outer s H vs Q E hr hg h => ?_)
  refine ⟨_, (pss_cons (ps_asg (pe_ix ix_list (pe_ix ix_tup (pv 0) pe_int (fun _ _ => rfl)) (pv 1) (fun _ _ => rfl)) (pg_tup (by rfl) (pgs_cons (pg_name (i := 3) sc.nd rfl (.inl rfl)) (pgs_cons (pg_name (i := 4) sc.nd rfl (.inl rfl)) pgs_nil))))
  (pss_one (ps_ret (pe_ifExp (pt_cmpR op_eq (pv 2) pe_int (nomark _)) (pe_tup (pa_cons (pv 3) (pa_cons (pv 4) pa_nil))) (pe_tup (pa_cons (pv 4) (pa_cons (pv 3) pa_nil))))))), ?_⟩
  dsimp only [cxOf, L2.Cx.nox]
  refine fn_ds (fun t => [.d (houseD t.rooms t.ds), .d (.int t.d), .d (.int t.w), .un, .un]) h (fun i => rfl) fun t ν hp => ?_
  obtain ⟨h0, h1⟩ := hp
  refine ds_seq (ds_asg ?_)
  walk_at "de"
  refine ⟨_, door_at (x := (t.d, t.w)) h0 h1, ?_⟩
  walk_at "nrm"
  walk_at "de"
  walk_at "nrm"
  refine ds_ret (de_if ?_)
  walk_at "de"
  refine ⟨fun e => ?_, fun e => ?_⟩
  · have e := of_decide_eq_true e
    walk_at "de"
    refine ⟨szd rfl, ?_⟩
    show Sl.d _ = Sl.d _
    unfold outOf intoOf
    rw [if_pos (show (t.d, t.w).2 = 0 from e), if_pos (show (t.d, t.w).2 = 0 from e)]
  · have e := of_decide_eq_false e
    walk_at "de"
    refine ⟨szd rfl, ?_⟩
    show Sl.d _ = Sl.d _
    unfold outOf intoOf
    rw [if_neg (show ¬ (t.d, t.w).2 = 0 from e), if_neg (show ¬ (t.d, t.w).2 = 0 from e)]
theorem ok_go {f : Addr} {fd : FuncData} (F : Fun K "go" "go" sGo f fd) (cal_through : Cg P w K mg base 1 "through" (spThrough K)) : FnG P w K mg base 2 f fd ["house", "numbers", "door", "way"] (spGo K) := by
  have sc := scGo
  refine fnG_of F scGo (fun vs H Q E h => spO1_len h fun i => rfl) (fun cdv A outer s H vs Q E hr hg h => ?_)
  refine ⟨_, (pss_cons (ps_asg (pe_g cal_through hg hr (by first | decide | exact Nat.le_refl _ | omega) (by rfl) (pa_cons (pv 0) (pa_cons (pv 2) (pa_cons (pv 3) pa_nil)))) (pg_tup (by rfl) (pgs_cons (pg_name (i := 4) sc.nd rfl (.inl rfl)) (pgs_cons (pg_name (i := 5) sc.nd rfl (.inl rfl)) pgs_nil))))
  (pss_cons (ps_augS (pv 1) (pv 4) get_list pe_int ip_sub set_list)
  (pss_one (ps_augS (pv 1) (pv 5) get_list pe_int ip_add set_list)))), ?_⟩
  dsimp only [cxOf, L2.Cx.nox]
  refine fn_dsO (fun t a => [.d (houseD t.rooms t.ds), .own a (t.F.map .int), .d (.int t.d), .d (.int t.w), .un, .un]) h (fun i a => rfl) fun t a hp => ?_
  obtain ⟨hD, hF, h0, h1⟩ := hp
  obtain ⟨o1, o2⟩ := rooms_of hD (x := (t.d, t.w)) h0 h1
  refine ds_seq (ds_asg (de_call0 ?_))
  walk_at "de"
  refine ⟨⟨t.rooms, t.ds, t.d, t.w⟩, rfl, ⟨h0, h1⟩, fun n s hs => ⟨_, hs, ?_⟩⟩
  walk_at "nrm"
  walk_at "de"
  walk_at "nrm"
  have get : ∀ {F : List Int} {i : Nat}, i < F.length → (F.map PyData.int)[i]? = some (.int (F.getD i 0)) := fun {F i} h => by
    rw [List.getElem?_map, List.getD_eq_getElem?_getD, List.getElem?_eq_getElem h]; rfl
  refine ds_seq (ds_augSI rfl ?_)
  walk_at "de"
  refine ⟨_, _, rfl, get (by rw [hF]; exact o1), ?_⟩
  walk_at "de"
  rw [show (t.F.map PyData.int).set (outOf t.ds (t.d, t.w)) (.int (t.F.getD (outOf t.ds (t.d, t.w)) 0 - 1)) = (t.F.set (outOf t.ds (t.d, t.w)) (t.F.getD (outOf t.ds (t.d, t.w)) 0 - 1)).map .int from (List.map_set ..).symm]
  walk_at "nrm"
  refine ds_augSI rfl ?_
  walk_at "de"
  refine ⟨_, _, rfl, get (by rw [List.length_set, hF]; exact o2), ?_⟩
  walk_at "de"
  show _ = (stepTo t.ds t.F (t.d, t.w)).map PyData.int
  simp only [stepTo, List.map_set]
/-- what is wrong with a row, by the law's own order -/
theorem step_len {ds : List (Nat × Nat)} {F : List Int} {x : Gg} : (stepTo ds F x).length = F.length := by
  unfold stepTo; rw [List.length_set, List.length_set]
end
end Bd
namespace Bd
open PySem PySem.Spec PyProof.Rows L2 HT
local macro_rules | `(tactic| walk_at "de1") => `(tactic| (with_reducible first
  | refine dI_var rfl ?_ | refine dI_c ?_ | refine dI_op0 ?_ | refine dI_op ?_ | refine dI_un ?_ | refine dI_ixO rfl ?_ | refine dI_ixT ?_ | refine dI_ixL ?_ | refine dI_if ?_ | refine dI_lenO rfl ?_ | refine dI_lenL ?_ | refine dI_abs ?_ | refine dI_two ?_ | refine dI_intB ?_
  | refine dB_var rfl ?_ | refine dB_c ?_ | refine dB_op0 ?_ | refine dB_eqI ?_ | refine dB_neI ?_ | refine dB_inI ?_ | refine dB_not ?_ | refine dB_and ?_ | refine dB_or ?_ | refine dB_chain ?_ | refine dB_eqD ?_ | refine dB_neD ?_ | refine dB_isi ?_
  | refine dL_var rfl ?_ | refine dL_ixO rfl ?_ | refine dL_ixT ?_ | refine dL_ixL ?_ | refine dL_o ?_
  | refine dT_var rfl ?_ | refine dT_ixL ?_ | refine dT_ixT ?_ | refine dT_tup ?_ | refine dT_slT ?_ | refine dT_catT ?_
  | refine de_var rfl ?_ | refine dX_ixO rfl ?_ | refine dX_ixT ?_ | refine dX_ixL ?_ | refine de_tup ?_ | refine de_c rfl ?_ | refine de_if ?_ | refine Do.de (do_lst ?_) | refine de_catTT ?_ | refine de_slTT ?_
  | refine dI_e (dI_op0 ?_) | refine dI_e (dI_op ?_) | refine dI_e (dI_un ?_) | refine dI_e (dI_lenO rfl ?_) | refine dI_e (dI_lenL ?_) | refine dI_e (dI_abs ?_) | refine dI_e (dI_two ?_) | refine dI_e (dI_intB ?_)
  | refine dB_e (dB_op0 ?_) | refine dB_e (dB_eqI ?_) | refine dB_e (dB_neI ?_) | refine dB_e (dB_inI ?_) | refine dB_e (dB_not ?_) | refine dB_e (dB_and ?_) | refine dB_e (dB_or ?_) | refine dB_e (dB_chain ?_) | refine dB_e (dB_eqD ?_) | refine dB_e (dB_neD ?_)
  | refine dt_tB ?_ | refine dt_tTest ?_ | refine dt_not ?_ | refine dt_and ?_ | refine dt_or ?_ | refine dt_yes ?_
  | refine da_nil ?_ | refine da_cons ?_ | refine dp_no ?_ | refine dp_partI ?_
  | refine di_rngI ?_ | refine di_listL ?_ | refine di_zipL ?_ | refine di_enumL ?_
  | refine do_lck rfl ?_ | refine do_lst ?_ | refine do_catL ?_ | refine do_slLL ?_ | refine do_revL ?_
  | refine dg_nm rfl ?_ | refine dg_name rfl (by simp) ?_ | refine dg_tup rfl ?_ | refine dgs_cons ?_ | refine dgs_nil ?_))
local macro_rules | `(tactic| walk_at "de") => `(tactic| (repeat (first | walk_at "de1" | (refine ⟨_, rfl, ?_⟩))))
local macro_rules | `(tactic| walk_at "nrm") => `(tactic| (try dsimp only [List.set, toD, wipeR, List.map, pairD, beadD, lookD]))

abbrev sGoingsFault : Stmt := topS 19
theorem scGoingsFault : FnScope ["house", "begin", "counts", "end", "row", "doors", "at", "door", "way", "numbers", "passed", "count", "room", "number"] ["house", "begin", "counts", "end", "row"] (defScope sGoingsFault) := ⟨rfl, rfl, rfl, by decide +kernel, rfl, by decide +kernel, by decide +kernel⟩
def badWay (ds : List (Nat × Nat)) (x : Gg) : Bool := !(decide (0 ≤ x.1) && decide (x.1 < ds.length) && decide (0 ≤ x.2) && decide (x.2 ≤ 1))
theorem badWay_in {ds : List (Nat × Nat)} {x : Gg} (h : badWay ds x = false) : 0 ≤ x.1 ∧ x.1 < ds.length ∧ 0 ≤ x.2 ∧ x.2 ≤ 1 := by
  unfold badWay at h
  simp only [Bool.not_eq_false', Bool.and_eq_true, decide_eq_true_eq] at h
  exact ⟨h.1.1.1, h.1.1.2, h.1.2, h.2⟩
/-- the first of these, with its place -/
def firstAt {α : Type} (p : α → Bool) : List α → Nat → Option Nat
  | [], _ => none
  | x :: xs, k => if p x then some k else firstAt p xs (k + 1)
/-- the numbers behind each door's goings, how often each was passed: the first empty one, or both -/
def goAll (ds : List (Nat × Nat)) : List Gg → Nat → List Int → List Int → Nat ⊕ (List Int × List Int)
  | [], _, F, M => .inr (F, M)
  | x :: xs, k, F, M => if F.getD (outOf ds x) 0 < 1 then .inl k else goAll ds xs (k + 1) (stepTo ds F x) (M.set x.1.toNat (M.getD x.1.toNat 0 + 1))
/-- the first place where two rows of numbers are not alike -/
def unlike : List Int → List Int → Nat → Option Nat
  | a :: as, b :: bs, k => if a ≠ b then some k else unlike as bs (k + 1)
  | _, _, _ => none
structure Fs where
  rooms : Nat
  ds : List (Nat × Nat)
  B : List Int
  C : List Int
  E : List Int
  row : List Gg
def tell (w : Str) (k : Nat) : PyData := .tuple [.str w, .int k]
def faultOf (t : Fs) : PyData := match firstAt (badWay t.ds) t.row 0 with
  | some k => tell "way" k
  | none => match goAll t.ds t.row 0 t.B (List.replicate t.ds.length 0) with
    | .inl k => tell "empty" k
    | .inr (F, M) => match unlike M t.C 0 with
      | some k => tell "count" k
      | none => match unlike F t.E 0 with
        | some k => tell "end" k
        | none => .none
structure Fs.Ok (t : Fs) : Prop where
  doors : Doors t.rooms t.ds
  r0 : t.rooms ≤ 100
  d0 : t.ds.length ≤ 100
  lB : t.B.length = t.rooms
  lC : t.C.length = t.ds.length
  lE : t.E.length = t.rooms
  lr : t.row.length ≤ 100000
def Fs.arg (t : Fs) : List PyData := [houseD t.rooms t.ds, intsD t.B, intsD t.C, intsD t.E, .list (t.row.map ggD)]
def spFault (K : PySem.W.Frag) : Sp := spD K Wn [] Fs.arg (fun t _ => t.Ok) (fun t _ _ s => s = .d (faultOf t))
theorem firstAt_none {α : Type} {p : α → Bool} : ∀ {xs : List α} {k : Nat}, (∀ x ∈ xs, p x = false) → firstAt p xs k = none
  | [], _, _ => rfl
  | x :: xs, k, h => by
    unfold firstAt
    rw [h x List.mem_cons_self, if_neg (by decide)]
    exact firstAt_none fun y hy => h y (List.mem_cons_of_mem _ hy)
theorem firstAt_some {α : Type} {p : α → Bool} : ∀ {xs : List α} {i : Nat} {x : α} (k : Nat), xs[i]? = some x → p x = true → (∀ y ∈ xs.take i, p y = false) → firstAt p xs k = some (k + i)
  | [], _, _, _, h, _, _ => by simp at h
  | y :: ys, 0, x, k, h, hp, _ => by
    cases h
    unfold firstAt
    rw [if_pos hp]; rfl
  | y :: ys, i + 1, x, k, h, hp, ht => by
    unfold firstAt
    rw [ht y (by simp), if_neg (by decide)]
    rw [firstAt_some (k + 1) (by simpa using h) hp (fun z hz => ht z (by simp [hz]))]
    congr 1; omega
/-- gone so far: what is left to go -/
theorem goAll_step {ds : List (Nat × Nat)} {xs : List Gg} {i : Nat} {x : Gg} {F M : List Int} (h : xs[i]? = some x) : goAll ds (xs.drop i) i F M = if F.getD (outOf ds x) 0 < 1 then .inl i else goAll ds (xs.drop (i + 1)) (i + 1) (stepTo ds F x) (M.set x.1.toNat (M.getD x.1.toNat 0 + 1)) := by
  have e : xs.drop i = x :: xs.drop (i + 1) := by
    rw [List.drop_eq_getElem_cons (lt_of_at h)]
    congr 1
    have := List.getElem?_eq_getElem (lt_of_at h)
    rw [h] at this
    exact (Option.some.inj this).symm
  rw [e]; rfl
theorem unlike_step {A C : List Int} {i : Nat} {a c : Int} (h : A[i]? = some a) (h' : C[i]? = some c) : unlike (A.drop i) (C.drop i) i = if a ≠ c then some i else unlike (A.drop (i + 1)) (C.drop (i + 1)) (i + 1) := by
  have e : A.drop i = a :: A.drop (i + 1) := by
    rw [List.drop_eq_getElem_cons (lt_of_at h)]
    congr 1
    have := List.getElem?_eq_getElem (lt_of_at h)
    rw [h] at this
    exact (Option.some.inj this).symm
  have e' : C.drop i = c :: C.drop (i + 1) := by
    rw [List.drop_eq_getElem_cons (lt_of_at h')]
    congr 1
    have := List.getElem?_eq_getElem (lt_of_at h')
    rw [h'] at this
    exact (Option.some.inj this).symm
  rw [e, e']; rfl
section
variable {P : Program} {w : World} {K : PySem.W.Frag} {mg : Str → Option Value} {base : Heap}
theorem ok_fault {f : Addr} {fd : FuncData} (F : Fun K "goings_fault" "goings_fault" sGoingsFault f fd) (cal_through : Cg P w K mg base 1 "through" (spThrough K)) (cal_go : Cg P w K mg base 2 "go" (spGo K)) (m_enumerate : mg "enumerate" = none) (m_len : mg "len" = none) (m_list : mg "list" = none) : FnG P w K mg base 3 f fd ["house", "begin", "counts", "end", "row"] (spFault K) := by
  have sc := scGoingsFault
  refine fnG_of F scGoingsFault (fun vs H Q E h => spD_len h fun i => rfl) (fun cdv A outer s H vs Q E hr hg h => ?_)
  refine ⟨_, (pss_cons (ps_set (i := 5) sc.nd rfl (.inl rfl) (pe_ix ix_tup (pv 0) pe_int (fun _ _ => rfl)))
  (pss_cons (ps_for PassesOwn.never rfl (pi_enum (by rfl) m_enumerate (pa_cons (pv 4) pa_nil)) (pg_tup (by rfl) (pgs_cons (pg_name (i := 6) sc.nd rfl (.inl rfl)) (pgs_cons (pg_tup (by rfl) (pgs_cons (pg_name (i := 7) sc.nd rfl (.inl rfl)) (pgs_cons (pg_name (i := 8) sc.nd rfl (.inl rfl)) pgs_nil))) pgs_nil)))
    (pss_one (ps_if (PW.pt (pw_or (pt_not (pt_chain op_le op_lt pe_int (pv 7) (pe_callB call_len_seq (by rfl) m_len PySem.boot_len (pa_cons (pv 5) pa_nil)))) (pw_or1 (pt_cmpR op_notIn_seq (pv 8) (pe_tup (pa_cons pe_int (pa_cons pe_int pa_nil))) rfl))))
    (pss_one (ps_ret (pe_tup (pa_cons pe_str (pa_cons (pv 6) pa_nil)))))
    pss_nil)))
  (pss_cons (ps_set (i := 9) sc.nd rfl (.inl rfl) (pe_callTy call_list_of (by rfl) m_list (by decide +kernel) (pa_cons (pv 1) pa_nil)))
  (pss_cons (ps_set (i := 10) sc.nd rfl (.inl rfl) (pe_op op_rep (pe_lst (pa_cons pe_int pa_nil)) (pe_callB call_len_seq (by rfl) m_len PySem.boot_len (pa_cons (pv 5) pa_nil))))
  (pss_cons (ps_for PassesOwn.never rfl (pi_enum (by rfl) m_enumerate (pa_cons (pv 4) pa_nil)) (pg_tup (by rfl) (pgs_cons (pg_name (i := 6) sc.nd rfl (.inl rfl)) (pgs_cons (pg_tup (by rfl) (pgs_cons (pg_name (i := 7) sc.nd rfl (.inl rfl)) (pgs_cons (pg_name (i := 8) sc.nd rfl (.inl rfl)) pgs_nil))) pgs_nil)))
    (pss_cons (ps_if (pt_cmpR op_lt (pe_ix ix_list (pv 9) (pe_ix ix_tup (pe_g cal_through hg hr (by first | decide | exact Nat.le_refl _ | omega) (by rfl) (pa_cons (pv 0) (pa_cons (pv 7) (pa_cons (pv 8) pa_nil)))) pe_int (fun _ _ => rfl)) (fun _ _ => rfl)) pe_int (nomark _))
    (pss_one (ps_ret (pe_tup (pa_cons pe_str (pa_cons (pv 6) pa_nil)))))
    pss_nil)
  (pss_cons (ps_expr (pe_g cal_go hg hr (by first | decide | exact Nat.le_refl _ | omega) (by rfl) (pa_cons (pv 0) (pa_cons (pv 9) (pa_cons (pv 7) (pa_cons (pv 8) pa_nil))))))
  (pss_one (ps_augS (pv 10) (pv 7) get_list pe_int ip_add set_list)))))
  (pss_cons (ps_for PassesOwn.never rfl (pi_enum (by rfl) m_enumerate (pa_cons (pv 2) pa_nil)) (pg_tup (by rfl) (pgs_cons (pg_name (i := 7) sc.nd rfl (.inl rfl)) (pgs_cons (pg_name (i := 11) sc.nd rfl (.inl rfl)) pgs_nil)))
    (pss_one (ps_if (pt_cmpR op_ne (pe_ix ix_list (pv 10) (pv 7) (fun _ _ => rfl)) (pv 11) (nomark _))
    (pss_one (ps_ret (pe_tup (pa_cons pe_str (pa_cons (pv 7) pa_nil)))))
    pss_nil)))
  (pss_cons (ps_for PassesOwn.never rfl (pi_enum (by rfl) m_enumerate (pa_cons (pv 3) pa_nil)) (pg_tup (by rfl) (pgs_cons (pg_name (i := 12) sc.nd rfl (.inl rfl)) (pgs_cons (pg_name (i := 13) sc.nd rfl (.inl rfl)) pgs_nil)))
    (pss_one (ps_if (pt_cmpR op_ne (pe_ix ix_list (pv 9) (pv 12) (fun _ _ => rfl)) (pv 13) (nomark _))
    (pss_one (ps_ret (pe_tup (pa_cons pe_str (pa_cons (pv 12) pa_nil)))))
    pss_nil)))
  (pss_one (ps_ret pe_non))))))))), ?_⟩
  dsimp only [cxOf, L2.Cx.nox]
  refine fn_ds (fun t => [.d (houseD t.rooms t.ds), .d (intsD t.B), .d (intsD t.C), .d (intsD t.E), .d (.list (t.row.map ggD)), .un, .un, .un, .un, .un, .un, .un, .un, .un]) h (fun i => rfl) fun t ν ok => ?_
  refine ds_seq (ds_set rfl ?_)
  walk_at "de"
  walk_at "nrm"
  refine ds_seq (ds_fork ?_)
  walk_at "de"
  rw [enumD_map]
  refine forW [6, 7, 8] (fun p : Gg × Nat => .tuple [.int (p.2 : Int), ggD p.1]) t.row.zipIdx rfl 0 (fun i r => (∀ y ∈ t.row.take i, badWay t.ds y = false) ∧ r = [.d (houseD t.rooms t.ds), .d (intsD t.B), .d (intsD t.C), .d (intsD t.E), .d (.list (t.row.map ggD)), .d (doorsD t.ds), .un, .un, .un, .un, .un, .un, .un, .un]) rfl ⟨fun y hy => by simp at hy, rfl⟩ (fun i p ν1 r0 hp hν hI => ?_) (fun ν2 ρ' hν hv hI => ?_)
  · obtain ⟨hI, rfl⟩ := hI
    obtain ⟨⟨dr, wy⟩, k⟩ := p
    obtain ⟨ep, ek⟩ := zipIdx_at hp
    dsimp only at ep ek
    subst ek
    have fin : badWay t.ds (dr, wy) = true → Sl.d (.tuple [.str "way", .int (k : Int)]) = Sl.d (faultOf t) := fun hb => by
      unfold faultOf
      rw [firstAt_some 0 ep hb hI, Nat.zero_add]
      rfl
    have go : badWay t.ds (dr, wy) = false → ∀ y ∈ t.row.take (k + 1), badWay t.ds y = false := fun hb y hy => by
      rw [take_snoc ep] at hy
      rcases List.mem_append.mp hy with h | h
      · exact hI y h
      · rw [List.mem_singleton] at h; rw [h]; exact hb
    walk_at "de"
    walk_at "nrm"
    refine ds_if (dt_or (dt_not ?_))
    walk_at "de"
    refine ⟨fun e1 => ?_, fun e1 => ⟨fun _ => ⟨fun _ => ds_ret (de_tup (da_cons (de_c rfl (da_cons (de_var rfl (da_nil ⟨szd rfl, fin ?_⟩)))))), fun z => by cases z⟩, fun z => by cases z⟩⟩
    · have e1 := of_decide_eq_true e1
      walk_at "de"
      rw [List.length_map]
      refine ⟨fun e2 => ⟨fun _ => ds_ret (de_tup (da_cons (de_c rfl (da_cons (de_var rfl (da_nil ⟨szd rfl, fin ?_⟩)))))), fun z => by cases z⟩, fun e2 => ?_⟩
      · unfold badWay; simp at e2; simp; omega
      · walk_at "de"
        refine ⟨szd rfl, [0, 1], .inr rfl, fun e3 => ds_ret (de_tup (da_cons (de_c rfl (da_cons (de_var rfl (da_nil ⟨szd rfl, fin ?_⟩)))))), fun e3 => ds_next ⟨by omega, rfl, go ?_, rfl⟩⟩
        · unfold badWay; simp at e3; simp; omega
        · unfold badWay; simp at e2 e3; simp; omega
    · unfold badWay; simp at e1; simp; omega
  · obtain ⟨hI, eR⟩ := hI
    rw [List.length_zipIdx, List.take_of_length_le (Nat.le_refl _)] at hI
    have f1 : firstAt (badWay t.ds) t.row 0 = none := firstAt_none hI
    refine ds_wipe [6, 7, 8] hv ?_
    rw [eR]
    refine ds_seq (ds_setO rfl (by simp) (do_list (de_var rfl ⟨_, .inl rfl, fun An => ?_⟩)))
    walk_at "nrm"
    refine ds_seq (ds_setO rfl (by simp) (do_rep ?_))
    walk_at "de"
    refine ⟨szd rfl, ?_⟩
    refine dI_e ?_
    walk_at "de"
    rw [List.length_map]
    have d0 := ok.d0
    refine ⟨[.int 0], _, rfl, rfl, by omega, by omega, by rw [Int.toNat_natCast]; show 1 * t.ds.length ≤ sizeLine; unfold sizeLine; omega, fun Ap => ?_⟩
    rw [Int.toNat_natCast, flat_rep0]
    walk_at "nrm"
    refine ds_seq (ds_fork ?_)
    walk_at "de"
    rw [enumD_map]
    refine forW [6, 7, 8] (fun p : Gg × Nat => .tuple [.int (p.2 : Int), ggD p.1]) t.row.zipIdx rfl 0 (fun i r => ∃ F M : List Int, goAll t.ds t.row 0 t.B (List.replicate t.ds.length 0) = goAll t.ds (t.row.drop i) i F M ∧ F.length = t.rooms ∧ M.length = t.ds.length ∧ r = [.d (houseD t.rooms t.ds), .d (intsD t.B), .d (intsD t.C), .d (intsD t.E), .d (.list (t.row.map ggD)), .d (doorsD t.ds), .un, .un, .un, .own An (F.map .int), .own Ap (M.map .int), .un, .un, .un]) rfl ⟨t.B, _, rfl, ok.lB, List.length_replicate, rfl⟩ (fun i p ν1 r0 hp hν hI => ?_) (fun ν3 ρ' hν hv hI => ?_)
    · obtain ⟨F, M, hg, hF, hM, rfl⟩ := hI
      obtain ⟨⟨dr, wy⟩, k⟩ := p
      obtain ⟨ep, ek⟩ := zipIdx_at hp
      dsimp only at ep ek
      subst ek
      obtain ⟨q1, q2, q3, q4⟩ := badWay_in (hI _ (List.mem_of_getElem? ep))
      obtain ⟨o1, o2⟩ := rooms_of ok.doors (x := (dr, wy)) q1 q2
      rw [goAll_step ep] at hg
      walk_at "de"
      walk_at "nrm"
      refine ds_seq (ds_if (dt_tTest (dB_op0 (dI_ixO rfl (dI_ixT (dT_call0 ?_))))))
      walk_at "de"
      refine ⟨⟨t.rooms, t.ds, dr, wy⟩, rfl, ⟨q1, q2⟩, fun n s hs => ⟨_, hs, ?_⟩⟩
      walk_at "de"
      refine ⟨_, atD_ints (by rw [hF]; exact o1), ?_⟩
      walk_at "de"
      refine ⟨fun e => ds_ret (de_tup (da_cons (de_c rfl (da_cons (de_var rfl (da_nil ⟨szd rfl, ?_⟩)))))), fun e => ds_next ?_⟩
      · rw [if_pos (of_decide_eq_true e)] at hg
        show Sl.d _ = Sl.d (faultOf t)
        unfold faultOf
        rw [f1]
        show _ = Sl.d (match goAll t.ds t.row 0 t.B (List.replicate t.ds.length 0) with | .inl k => tell "empty" k | .inr (F, M) => _)
        rw [hg]
        rfl
      · rw [if_neg (of_decide_eq_false e)] at hg
        refine ds_seq (ds_callO rfl ?_)
        walk_at "de"
        refine ⟨⟨t.rooms, t.ds, F, dr, wy⟩, rfl, rfl, rfl, ⟨ok.doors, hF, q1, q2⟩, fun ys hy => ?_⟩
        rw [hy]
        walk_at "nrm"
        refine ds_augSI rfl ?_
        walk_at "de"
        refine ⟨dr.toNat, _, by show dr = _; omega, get_ints (by omega), ?_⟩
        walk_at "de"
        rw [← List.map_set]
        exact ⟨by omega, rfl, stepTo t.ds F (dr, wy), _, hg, by rw [step_len, hF], by rw [List.length_set]; exact hM, rfl⟩
    · obtain ⟨F, M, hg, hF, hM, eR⟩ := hI
      rw [List.length_zipIdx, List.drop_of_length_le (Nat.le_refl _)] at hg
      have hg : goAll t.ds t.row 0 t.B (List.replicate t.ds.length 0) = .inr (F, M) := hg
      refine ds_wipe [6, 7, 8] hv ?_
      rw [eR]
      refine ds_seq (ds_fork ?_)
      walk_at "de"
      rw [enumD_map]
      refine forW [7, 11] (fun p : Int × Nat => .tuple [.int (p.2 : Int), .int p.1]) t.C.zipIdx rfl 0 (fun i r => unlike M t.C 0 = unlike (M.drop i) (t.C.drop i) i ∧ r = [.d (houseD t.rooms t.ds), .d (intsD t.B), .d (intsD t.C), .d (intsD t.E), .d (.list (t.row.map ggD)), .d (doorsD t.ds), .un, .un, .un, .own An (F.map .int), .own Ap (M.map .int), .un, .un, .un]) rfl ⟨rfl, rfl⟩ (fun i p ν1 r0 hp hν hI => ?_) (fun ν3 ρ' hν hv hI => ?_)
      · obtain ⟨hu, rfl⟩ := hI
        obtain ⟨c, k⟩ := p
        obtain ⟨ep, ek⟩ := zipIdx_at hp
        dsimp only at ep ek
        subst ek
        have hk : k < M.length := by have := lt_of_at ep; rw [hM, ← ok.lC]; exact this
        rw [unlike_step (getD_some hk) ep] at hu
        walk_at "de"
        walk_at "nrm"
        refine ds_if ?_
        walk_at "de"
        refine ⟨_, atD_ints hk, ?_⟩
        walk_at "de"
        refine ⟨fun e => ds_ret (de_tup (da_cons (de_c rfl (da_cons (de_var rfl (da_nil ⟨szd rfl, ?_⟩)))))), fun e => ds_next ⟨by omega, rfl, ?_, rfl⟩⟩
        · rw [if_pos (by simpa using e)] at hu
          show Sl.d _ = Sl.d (faultOf t)
          unfold faultOf
          simp only [f1, hg, hu]
          rfl
        · rw [if_neg (by simpa using e)] at hu
          exact hu
      · obtain ⟨hu, eR⟩ := hI
        rw [List.length_zipIdx, List.drop_of_length_le (by rw [hM, ok.lC]; exact Nat.le_refl _), List.drop_of_length_le (Nat.le_refl _)] at hu
        have hu : unlike M t.C 0 = none := hu
        refine ds_wipe [7, 11] hv ?_
        rw [eR]
        refine ds_seq (ds_fork ?_)
        walk_at "de"
        rw [enumD_map]
        refine forW [12, 13] (fun p : Int × Nat => .tuple [.int (p.2 : Int), .int p.1]) t.E.zipIdx rfl 0 (fun i r => unlike F t.E 0 = unlike (F.drop i) (t.E.drop i) i ∧ r = [.d (houseD t.rooms t.ds), .d (intsD t.B), .d (intsD t.C), .d (intsD t.E), .d (.list (t.row.map ggD)), .d (doorsD t.ds), .un, .un, .un, .own An (F.map .int), .own Ap (M.map .int), .un, .un, .un]) rfl ⟨rfl, rfl⟩ (fun i p ν1 r0 hp hν hI => ?_) (fun ν3 ρ' hν hv hI => ?_)
        · obtain ⟨hw, rfl⟩ := hI
          obtain ⟨c, k⟩ := p
          obtain ⟨ep, ek⟩ := zipIdx_at hp
          dsimp only at ep ek
          subst ek
          have hk : k < F.length := by have := lt_of_at ep; rw [hF, ← ok.lE]; exact this
          rw [unlike_step (getD_some hk) ep] at hw
          walk_at "de"
          walk_at "nrm"
          refine ds_if ?_
          walk_at "de"
          refine ⟨_, atD_ints hk, ?_⟩
          walk_at "de"
          refine ⟨fun e => ds_ret (de_tup (da_cons (de_c rfl (da_cons (de_var rfl (da_nil ⟨szd rfl, ?_⟩)))))), fun e => ds_next ⟨by omega, rfl, ?_, rfl⟩⟩
          · rw [if_pos (by simpa using e)] at hw
            show Sl.d _ = Sl.d (faultOf t)
            unfold faultOf
            simp only [f1, hg, hu, hw]
            rfl
          · rw [if_neg (by simpa using e)] at hw
            exact hw
        · obtain ⟨hw, eR⟩ := hI
          rw [List.length_zipIdx, List.drop_of_length_le (by rw [hF, ok.lE]; exact Nat.le_refl _), List.drop_of_length_le (Nat.le_refl _)] at hw
          have hw : unlike F t.E 0 = none := hw
          refine ds_ret (de_c rfl ?_)
          show Sl.d _ = Sl.d (faultOf t)
          unfold faultOf
          simp only [f1, hg, hu, hw]
          rfl
end
end Bd
namespace Bd
open PySem PySem.Spec PyProof.Rows L2 HT
local macro_rules | `(tactic| walk_at "de1") => `(tactic| (with_reducible first
  | refine dI_var rfl ?_ | refine dI_c ?_ | refine dI_op0 ?_ | refine dI_op ?_ | refine dI_un ?_ | refine dI_ixO rfl ?_ | refine dI_ixT ?_ | refine dI_ixL ?_ | refine dI_if ?_ | refine dI_lenO rfl ?_ | refine dI_lenL ?_ | refine dI_abs ?_ | refine dI_two ?_ | refine dI_intB ?_
  | refine dB_var rfl ?_ | refine dB_c ?_ | refine dB_op0 ?_ | refine dB_eqI ?_ | refine dB_neI ?_ | refine dB_inI ?_ | refine dB_not ?_ | refine dB_and ?_ | refine dB_or ?_ | refine dB_chain ?_ | refine dB_eqD ?_ | refine dB_neD ?_ | refine dB_isi ?_
  | refine dL_var rfl ?_ | refine dL_ixO rfl ?_ | refine dL_ixT ?_ | refine dL_ixL ?_ | refine dL_o ?_
  | refine dT_var rfl ?_ | refine dT_ixL ?_ | refine dT_ixT ?_ | refine dT_tup ?_ | refine dT_slT ?_ | refine dT_catT ?_
  | refine de_var rfl ?_ | refine dX_ixO rfl ?_ | refine dX_ixT ?_ | refine dX_ixL ?_ | refine de_tup ?_ | refine de_c rfl ?_ | refine de_if ?_ | refine Do.de (do_lst ?_) | refine de_catTT ?_ | refine de_slTT ?_
  | refine dI_e (dI_op0 ?_) | refine dI_e (dI_op ?_) | refine dI_e (dI_un ?_) | refine dI_e (dI_lenO rfl ?_) | refine dI_e (dI_lenL ?_) | refine dI_e (dI_abs ?_) | refine dI_e (dI_two ?_) | refine dI_e (dI_intB ?_)
  | refine dB_e (dB_op0 ?_) | refine dB_e (dB_eqI ?_) | refine dB_e (dB_neI ?_) | refine dB_e (dB_inI ?_) | refine dB_e (dB_not ?_) | refine dB_e (dB_and ?_) | refine dB_e (dB_or ?_) | refine dB_e (dB_chain ?_) | refine dB_e (dB_eqD ?_) | refine dB_e (dB_neD ?_)
  | refine dt_tB ?_ | refine dt_tTest ?_ | refine dt_not ?_ | refine dt_and ?_ | refine dt_or ?_ | refine dt_yes ?_
  | refine da_nil ?_ | refine da_cons ?_ | refine dp_no ?_ | refine dp_partI ?_
  | refine di_rngI ?_ | refine di_listL ?_ | refine di_zipL ?_ | refine di_enumL ?_
  | refine do_lck rfl ?_ | refine do_lst ?_ | refine do_catL ?_ | refine do_slLL ?_ | refine do_revL ?_
  | refine dg_nm rfl ?_ | refine dg_name rfl (by simp) ?_ | refine dg_tup rfl ?_ | refine dgs_cons ?_ | refine dgs_nil ?_))
local macro_rules | `(tactic| walk_at "de") => `(tactic| (repeat (first | walk_at "de1" | (refine ⟨_, rfl, ?_⟩))))
local macro_rules | `(tactic| walk_at "nrm") => `(tactic| (try dsimp only [List.set, toD, wipeR, List.map, pairD, beadD, lookD]))

local macro_rules | `(tactic| walk_at "dp") => `(tactic| (repeat (first | walk_at "de1" | (refine ⟨_, rfl, ?_⟩) | (refine dI_take rfl ?_) | (refine dI_e (dI_take rfl ?_)) | (refine ⟨by omega, by omega, fun r h0 h1 => ?_⟩) | (refine ⟨szd rfl, ?_⟩) | (refine ⟨(⟨by decide, by decide, by decide⟩ : CPow _ _), ?_⟩))))

abbrev sLawHome : Stmt := topS 27
theorem scLawHome : FnScope ["purse", "most", "doors", "rooms", "found", "k", "one"] ["purse", "most", "doors"] (defScope sLawHome) := ⟨rfl, rfl, rfl, by decide +kernel, rfl, by decide +kernel, by decide +kernel⟩
abbrev sLawFolk : Stmt := topS 28
theorem scLawFolk : FnScope ["purse", "rooms", "found", "room", "some"] ["purse", "rooms"] (defScope sLawFolk) := ⟨rfl, rfl, rfl, by decide +kernel, rfl, by decide +kernel, by decide +kernel⟩
abbrev sLawWhole : Stmt := topS 31
theorem scLawWhole : FnScope ["thing"] ["thing"] (defScope sLawWhole) := ⟨rfl, rfl, rfl, by decide +kernel, rfl, by decide +kernel, by decide +kernel⟩
abbrev sLawSteps : Stmt := topS 29
theorem scLawSteps : FnScope ["home", "now", "found", "door", "way"] ["home", "now"] (defScope sLawSteps) := ⟨rfl, rfl, rfl, by decide +kernel, rfl, by decide +kernel, by decide +kernel⟩
def spHome (K : PySem.W.Frag) : Sp := spP (ι := Nat × Nat) K (fun i => [.int (i.1 : Int), .int (i.2 : Int)]) (fun i n => 1 ≤ i.1 ∧ i.1 ≤ 10 ∧ i.2 ≤ 24) (fun i n n' s => ∃ rooms ds, s = .d (houseD rooms ds) ∧ 0 < rooms ∧ rooms ≤ i.1 ∧ ds.length ≤ i.2 ∧ Doors rooms ds)
def spFolkP (K : PySem.W.Frag) : Sp := spP (ι := Nat) K (fun i => [.int (i : Int)]) (fun i n => i ≤ 100) (fun i n n' s => ∃ B : List Int, s = .d (intsD B) ∧ B.length = i ∧ ∀ x ∈ B, 0 ≤ x)
def spWholeI (K : PySem.W.Frag) : Sp := spD (ι := Int) K Wn [] (fun i => [.int i]) (fun _ _ => True) (fun _ _ _ s => s = .d (.bool true))
structure St1 where
  rooms : Nat
  ds : List (Nat × Nat)
  F : List Int
def spSteps (K : PySem.W.Frag) : Sp := spV1 (ι := St1) K (fun t => houseD t.rooms t.ds) (fun t => t.F) (fun t => Doors t.rooms t.ds ∧ t.F.length = t.rooms ∧ t.ds.length ≤ 100) (fun t ys => ∃ gs : List Gg, ys = gs.map ggD ∧ gs.length ≤ 2 * t.ds.length ∧ ∀ x ∈ gs, 0 ≤ x.1 ∧ x.1 < t.ds.length ∧ 0 ≤ x.2 ∧ x.2 ≤ 1 ∧ 0 < t.F.getD (outOf t.ds x) 0)
theorem next_ofP {o g : Int} {r : Nat} (h0 : 0 ≤ o) (h1 : o < r) (g0 : 0 ≤ g) (g1 : g < (r : Int) - 1) : 0 ≤ (o + 1 + g) % r ∧ (o + 1 + g) % r < r ∧ (o + 1 + g) % r ≠ o := by
  have hr : (0 : Int) < r := by omega
  have a0 := Int.emod_nonneg (o + 1 + g) (show (r : Int) ≠ 0 by omega)
  have a1 := Int.emod_lt_of_pos (o + 1 + g) hr
  refine ⟨a0, a1, fun z => ?_⟩
  by_cases c : o + 1 + g < r
  · rw [Int.emod_eq_of_lt (by omega) c] at z; omega
  · have e : (o + 1 + g) % r = (o + 1 + g - r) % r := by rw [Int.sub_emod_right]
    rw [e, Int.emod_eq_of_lt (by omega) (by omega)] at z; omega
section
variable {P : Program} {w : World} {K : PySem.W.Frag} {mg : Str → Option Value} {base : Heap}
theorem ok_home {f : Addr} {fd : FuncData} (F : Fun K "_law_home" "_law_home" sLawHome f fd) (cal_law_take : Cg P w K mg base 1 "_law_take" spTake) (m_range : mg "range" = none) (m_int : mg "int" = none) (m_min : mg "min" = none) : FnG P w K mg base 2 f fd ["purse", "most", "doors"] (spHome K) := by
  have sc := scLawHome
  refine fnG_of F scLawHome (fun vs H Q E h => by obtain ⟨G, p, g, h⟩ := h; exact spD_len h fun i => rfl) (fun cdv A outer s H vs Q E hr hg h => ?_)
  obtain ⟨G, p, g, h⟩ := h
  refine ⟨_, (pss_cons (ps_set (i := 3) sc.nd rfl (.inl rfl) (pe_op op_add pe_int (pe_g cal_law_take hg hr (by first | decide | exact Nat.le_refl _ | omega) (by rfl) (pa_cons (pv 0) (pa_cons (pv 1) pa_nil)))))
  (pss_cons (ps_set (i := 4) sc.nd rfl (.inl rfl) (pe_lst pa_nil))
  (pss_cons (ps_for PassesOwn.never rfl (pi_range1 (by rfl) m_range (pa_cons (pe_op op_mul (pe_g cal_law_take hg hr (by first | decide | exact Nat.le_refl _ | omega) (by rfl) (pa_cons (pv 0) (pa_cons (pe_op op_add (pe_ix ix_list (pe_lst (pa_cons (pe_callB (call_min2 rfl) (by rfl) m_min (by decide +kernel) (pa_cons pe_int (pa_cons (pv 2) pa_nil))) (pa_cons (pv 2) pa_nil))) (pe_g cal_law_take hg hr (by first | decide | exact Nat.le_refl _ | omega) (by rfl) (pa_cons (pv 0) (pa_cons pe_int pa_nil))) (fun _ _ => rfl)) pe_int) pa_nil))) (pe_callTy call_int1 (by rfl) m_int (by decide +kernel) (pa_cons (pe_cmpR op_gt (pv 3) pe_int (nomark _)) pa_nil))) pa_nil)) (pg_name (i := 5) sc.nd rfl (.inl rfl))
    (pss_cons (ps_set (i := 6) sc.nd rfl (.inl rfl) (pe_g cal_law_take hg hr (by first | decide | exact Nat.le_refl _ | omega) (by rfl) (pa_cons (pv 0) (pa_cons (pv 3) pa_nil))))
  (pss_one (ps_expr (pe_bm PySem.F.plainAttrs_list PySem.F.slot_list_append PySem.F.type_list_append mt_append (pv 4) (pa_cons (pe_tup (pa_cons (pv 6) (pa_cons (pe_op op_mod (pe_op op_add (pe_op op_add (pv 6) pe_int) (pe_g cal_law_take hg hr (by first | decide | exact Nat.le_refl _ | omega) (by rfl) (pa_cons (pv 0) (pa_cons (pe_op op_sub (pv 3) pe_int) pa_nil)))) (pv 3)) pa_nil))) pa_nil))))))
  (pss_one (ps_ret (pe_tup (pa_cons (pv 3) (pa_cons (pv 4) pa_nil)))))))), ?_⟩
  dsimp only [cxOf, L2.Cx.nox]
  refine fn_ds (fun i => [.at (.ref p), .d (.int (i.1 : Int)), .d (.int (i.2 : Int)), .un, .un, .un, .un]) h (fun i => rfl) fun i ν hp => ?_
  obtain ⟨m, w⟩ := i
  obtain ⟨m0, m1, w1⟩ := hp
  dsimp only at m0 m1 w1 ⊢
  refine ds_seq (ds_set rfl (dI_e ?_))
  walk_at "dp"
  rename_i r1 r1a r1b
  obtain ⟨rooms, er, q0, q1⟩ : ∃ rooms : Nat, 1 + r1 = (rooms : Int) ∧ 0 < rooms ∧ rooms ≤ m := ⟨(1 + r1).toNat, by omega, by omega, by omega⟩
  rw [er]
  walk_at "nrm"
  refine ds_seq (ds_setO rfl (by simp) ?_)
  walk_at "dp"
  intro D
  walk_at "nrm"
  refine ds_seq (ds_fork ?_)
  walk_at "dp"
  rename_i r2 r2a r2b
  obtain ⟨c, ec, c0, c1⟩ : ∃ c : Int, atD [.int (if (w : Int) < 8 then (w : Int) else 8), .int (w : Int)] r2 = some (.int c) ∧ 0 ≤ c ∧ c ≤ w := by
    rcases (by omega : r2 = 0 ∨ r2 = 1) with rfl | rfl
    · exact ⟨_, rfl, by split <;> omega, by split <;> omega⟩
    · exact ⟨_, rfl, by omega, by omega⟩
  refine ⟨_, ec, ?_⟩
  walk_at "dp"
  rename_i r4 r4a r4b
  obtain ⟨n, en, hn1, hn2⟩ : ∃ n : Nat, r4 * (if decide ((1 : Int) < (rooms : Int)) = true then 1 else 0) = (n : Int) ∧ n ≤ w ∧ (0 < n → 1 < rooms) := by
    by_cases h : (1 : Int) < (rooms : Int)
    · exact ⟨r4.toNat, by rw [if_pos (decide_eq_true h), Int.mul_one]; omega, by omega, fun _ => by omega⟩
    · exact ⟨0, by rw [if_neg (by rw [decide_eq_false h]; decide), Int.mul_zero]; rfl, by omega, fun h => absurd h (by decide)⟩
  rw [en]
  refine ⟨.inr (by split <;> exact ⟨by decide, by decide⟩), by omega, by omega, ?_⟩
  rw [Int.toNat_natCast, rngD_map]
  refine forW [5, 6] (fun (i : Nat) => PyData.int (i : Int)) (List.range n) rfl 0 (fun i r => ∃ ds : List (Nat × Nat), r = [.at (.ref p), .d (.int m), .d (.int w), .d (.int rooms), .own D (ds.map pairD), .un, .un] ∧ ds.length = i ∧ Doors rooms ds)
    rfl ⟨[], rfl, rfl, fun d hd => by cases hd⟩ (fun i a ν1 r0 ha hν hI => ?_) (fun ν2 ρ' hν hv hI => ?_)
  · obtain ⟨ds, rfl, hl, hok⟩ := hI
    have hi : i < n := by have := lt_of_at ha; rw [List.length_range] at this; exact this
    have rm : 1 < rooms := hn2 (by omega)
    refine dg_nm rfl ?_
    walk_at "nrm"
    refine ds_seq (ds_set rfl ?_)
    walk_at "dp"
    walk_at "nrm"
    rename_i o oa ob
    refine ds_append rfl ?_
    walk_at "dp"
    rename_i u ua ub
    refine ⟨by omega, ?_⟩
    walk_at "dp"
    refine ⟨szL (n := (ds.map pairD).length) (by rw [List.length_map]; omega), ?_⟩
    walk_at "nrm"
    obtain ⟨e1, e2, e3⟩ := next_ofP (g := u) (r := rooms) oa ob ua (by omega)
    refine ⟨by omega, rfl, ds ++ [(o.toNat, ((o + 1 + u) % rooms).toNat)], ?_, by rw [List.length_append]; show ds.length + 1 = i + 1; omega, fun d hd => ?_⟩
    · rw [List.map_append]
      show _ = [_, _, _, _, Sl.own D (ds.map pairD ++ [.tuple [.int (o.toNat : Nat), .int (((o + 1 + u) % rooms).toNat : Nat)]]), _, _]
      rw [Int.toNat_of_nonneg oa, Int.toNat_of_nonneg e1]
    · rcases List.mem_append.mp hd with h | h
      · exact hok d h
      · rw [List.mem_singleton] at h
        subst h
        refine ⟨by show o.toNat < rooms; omega, by show ((o + 1 + u) % rooms).toNat < rooms; omega, by show o.toNat ≠ ((o + 1 + u) % rooms).toNat; omega⟩
  · obtain ⟨ds, eR, hl, hok⟩ := hI
    rw [List.length_range] at hl
    refine ds_wipe [5, 6] hv ?_
    rw [eR]
    refine ds_freeze 4 rfl ?_
    walk_at "nrm"
    refine ds_ret ?_
    walk_at "dp"
    exact ⟨rooms, ds, rfl, q0, q1, by show ds.length ≤ w; omega, hok⟩
theorem ok_folkP {f : Addr} {fd : FuncData} (F : Fun K "_law_folk" "_law_folk" sLawFolk f fd) (cal_law_take : Cg P w K mg base 1 "_law_take" spTake) (m_range : mg "range" = none) : FnG P w K mg base 2 f fd ["purse", "rooms"] (spFolkP K) := by
  have sc := scLawFolk
  refine fnG_of F scLawFolk (fun vs H Q E h => by obtain ⟨G, p, g, h⟩ := h; exact spD_len h fun i => rfl) (fun cdv A outer s H vs Q E hr hg h => ?_)
  obtain ⟨G, p, g, h⟩ := h
  refine ⟨_, (pss_cons (ps_set (i := 2) sc.nd rfl (.inl rfl) (pe_lst pa_nil))
  (pss_cons (ps_for PassesOwn.never rfl (pi_range1 (by rfl) m_range (pa_cons (pv 1) pa_nil)) (pg_name (i := 3) sc.nd rfl (.inl rfl))
    (pss_cons (ps_set (i := 4) sc.nd rfl (.inl rfl) (pe_lst (pa_cons pe_int (pa_cons pe_int (pa_cons pe_int (pa_cons pe_int (pa_cons pe_int (pa_cons (pe_g cal_law_take hg hr (by first | decide | exact Nat.le_refl _ | omega) (by rfl) (pa_cons (pv 0) (pa_cons pe_int pa_nil))) (pa_cons (pe_g cal_law_take hg hr (by first | decide | exact Nat.le_refl _ | omega) (by rfl) (pa_cons (pv 0) (pa_cons pe_int pa_nil))) (pa_cons (pe_op op_add (pe_op op_pow pe_int pe_int) (pe_g cal_law_take hg hr (by first | decide | exact Nat.le_refl _ | omega) (by rfl) (pa_cons (pv 0) (pa_cons pe_int pa_nil)))) pa_nil))))))))))
  (pss_one (ps_expr (pe_bm PySem.F.plainAttrs_list PySem.F.slot_list_append PySem.F.type_list_append mt_append (pv 2) (pa_cons (pe_ix ix_list (pv 4) (pe_g cal_law_take hg hr (by first | decide | exact Nat.le_refl _ | omega) (by rfl) (pa_cons (pv 0) (pa_cons pe_int pa_nil))) (fun _ _ => rfl)) pa_nil))))))
  (pss_one (ps_ret (pv 2))))), ?_⟩
  dsimp only [cxOf, L2.Cx.nox]
  refine fn_ds (fun (i : Nat) => [.at (.ref p), .d (.int (i : Int)), .un, .un, .un]) h (fun i => rfl) fun rooms ν hp => ?_
  refine ds_seq (ds_setO rfl (by simp) ?_)
  walk_at "dp"
  intro D
  walk_at "nrm"
  refine ds_seq (ds_fork ?_)
  walk_at "dp"
  refine ⟨by omega, by omega, ?_⟩
  rw [Int.toNat_natCast, rngD_map]
  refine forW [3, 4] (fun (i : Nat) => PyData.int (i : Int)) (List.range rooms) rfl 0 (fun i r => ∃ B : List Int, r = [.at (.ref p), .d (.int rooms), .own D (B.map .int), .un, .un] ∧ B.length = i ∧ ∀ x ∈ B, 0 ≤ x) rfl ⟨[], rfl, rfl, fun x hx => (nomatch hx)⟩ (fun i a ν1 r0 ha hν hI => ?_) (fun ν2 ρ' hν hv hI => ?_)
  · obtain ⟨B, rfl, hl, hb0⟩ := hI
    have hi : i < rooms := by have := lt_of_at ha; rw [List.length_range] at this; exact this
    refine dg_nm rfl ?_
    walk_at "nrm"
    refine ds_seq (ds_set rfl ?_)
    walk_at "dp"
    rename_i x xa xb y ya yb z za zb
    walk_at "nrm"
    refine ds_append rfl (dI_e ?_)
    walk_at "dp"
    rename_i r ra rb
    obtain ⟨c, ec, c0⟩ : ∃ c : Int, atD [.int 0, .int 0, .int 1, .int 1, .int 2, .int x, .int y, .int (10 ^ Int.toNat 19 + z)] r = some (.int c) ∧ 0 ≤ c := by
      have h19 : (0 : Int) ≤ 10 ^ Int.toNat 19 := by decide
      rcases (by omega : r = 0 ∨ r = 1 ∨ r = 2 ∨ r = 3 ∨ r = 4 ∨ r = 5 ∨ r = 6 ∨ r = 7) with rfl | rfl | rfl | rfl | rfl | rfl | rfl | rfl <;> exact ⟨_, rfl, by omega⟩
    refine ⟨_, ec, szL (n := (B.map PyData.int).length) (by rw [List.length_map]; have : rooms ≤ 100 := hp; omega), ?_⟩
    walk_at "nrm"
    exact ⟨by omega, rfl, B ++ [c], by rw [List.map_append]; rfl, by rw [List.length_append]; show B.length + 1 = i + 1; omega, fun q hq => (List.mem_append.mp hq).elim (hb0 q) fun h => by rw [List.mem_singleton.mp h]; exact c0⟩
  · obtain ⟨B, eR, hl, hb0⟩ := hI
    rw [List.length_range] at hl
    refine ds_wipe [3, 4] hv ?_
    rw [eR]
    refine ds_freeze 2 rfl ?_
    walk_at "nrm"
    refine ds_ret ?_
    walk_at "dp"
    exact ⟨hl, hb0⟩
theorem ok_wholeI {f : Addr} {fd : FuncData} (F : Fun K "_law_whole" "_law_whole" sLawWhole f fd) (m_isinstance : mg "isinstance" = none) (m_int : mg "int" = none) (m_bool : mg "bool" = none) : FnG P w K mg base 1 f fd ["thing"] (spWholeI K) := by
  have sc := scLawWhole
  refine fnG_of F scLawWhole (fun vs H Q E h => spD_len h fun i => rfl) (fun cdv A outer s H vs Q E hr hg h => ?_)
  refine ⟨_, (pss_one (ps_ret (pe_and (pe_callB call_isi (by rfl) m_isinstance (by decide +kernel) (pa_cons (pv 0) (pa_cons (pe_bltn (v := V.ty "int") (by rfl) m_int (by decide +kernel) rfl) pa_nil))) (pe_one (pe_not (pe_callB call_isi (by rfl) m_isinstance (by decide +kernel) (pa_cons (pv 0) (pa_cons (pe_bltn (v := V.ty "bool") (by rfl) m_bool (by decide +kernel) rfl) pa_nil)))))))), ?_⟩
  dsimp only [cxOf, L2.Cx.nox]
  refine fn_ds (fun t => [.d (.int t)]) h (fun i => rfl) fun t ν ok => ?_
  refine ds_ret (dB_e (dB_and ?_))
  walk_at "de"
  refine ⟨fun _ => ?_, fun z => by cases z⟩
  walk_at "de"
  rfl
theorem way_at {ds : List (Nat × Nat)} {d : Nat × Nat} {k : Nat} (h : ds[k]? = some d) {w : Int} (h0 : 0 ≤ w) (h1 : w ≤ 1) : atD [.int d.1, .int d.2] w = some (.int (outOf ds ((k : Int), w))) ∧ atD [.int d.1, .int d.2] (1 - w) = some (.int (intoOf ds ((k : Int), w))) := by
  unfold outOf intoOf
  rw [show (((k : Int), w) : Gg).1.toNat = k from Int.toNat_natCast k, List.getD_eq_getElem?_getD, h]
  rcases (by omega : w = 0 ∨ w = 1) with rfl | rfl
  · exact ⟨rfl, rfl⟩
  · exact ⟨rfl, rfl⟩
theorem ok_steps {f : Addr} {fd : FuncData} (F : Fun K "_law_steps" "_law_steps" sLawSteps f fd) (m_range : mg "range" = none) (m_len : mg "len" = none) : FnG P w K mg base 1 f fd ["home", "now"] (spSteps K) := by
  have sc := scLawSteps
  refine fnG_of F scLawSteps (fun vs H Q E h => spV1_len h) (fun cdv A outer s H vs Q E hr hg h => ?_)
  refine ⟨_, (pss_cons (ps_set (i := 2) sc.nd rfl (.inl rfl) (pe_lst pa_nil))
  (pss_cons (ps_for PassesOwn.never rfl (pi_range1 (by rfl) m_range (pa_cons (pe_callB call_len_seq (by rfl) m_len PySem.boot_len (pa_cons (pe_ix ix_tup (pv 0) pe_int (fun _ _ => rfl)) pa_nil)) pa_nil)) (pg_name (i := 3) sc.nd rfl (.inr rfl))
    (pss_one (ps_expr (pe_bm PySem.F.plainAttrs_list PySem.F.slot_list_extend PySem.F.type_list_extend mt_extend (pv 2) (pa_cons (pe_lc (own := [("way", 4)]) (g := gName 4)  (by rfl) sc.nd  (pi_range1 (by rfl) m_range (pa_cons pe_int pa_nil)) (blkOk_by (own := [("way", 4)]) (N := ["home", "now", "found", "door", "way"]) (sc := defScope sLawSteps) (by decide +kernel)) (fun _ _ _ _ _ => (pg_name (i := 4) sc.nd rfl (.inl rfl))) (fun _ _ _ _ _ => (pts_one (pt_cmpR op_gt (pe_ix (ixK (rIxL K) ix_list) (pv 1) (pe_ix (ixK (rIxT K) ix_tup) (pe_ix (ixK (rIxL K) ix_list) (pe_ix (ixK (rIxT K) ix_tup) (pv 0) pe_int (fun _ _ => rfl)) (pv 3) (fun _ _ => rfl)) (pv 4) (fun _ _ => rfl)) (fun _ _ => rfl)) pe_int (nomark _)))) (fun _ _ _ _ _ => (pe_tup (pa_cons (pv 3) (pa_cons (pv 4) pa_nil))))) pa_nil)))))
  (pss_one (ps_ret (pv 2))))), ?_⟩
  dsimp only [cxOf, L2.Cx.nox]
  refine fn_dsV h fun t a hp => ?_
  obtain ⟨hD, hF, hd⟩ := hp
  show Ds K (Wv a t.F) [.d (houseD t.rooms t.ds), .at (.ref a), .un, .un, .un] _ _ _
  refine ds_seq (ds_setO rfl (by simp) ?_)
  walk_at "de"
  refine ⟨szd rfl, fun D => ?_⟩
  walk_at "nrm"
  refine ds_seq (ds_fork ?_)
  walk_at "de"
  rw [List.length_map]
  refine ⟨by omega, by omega, ?_⟩
  rw [Int.toNat_natCast, rngD_map]
  refine forW [3, 4] (fun (i : Nat) => PyData.int (i : Int)) (List.range t.ds.length) rfl 0 (fun i r => ∃ gs : List Gg, r = [.d (houseD t.rooms t.ds), .at (.ref a), .own D (gs.map ggD), .un, .un] ∧ gs.length ≤ 2 * i ∧ ∀ x ∈ gs, 0 ≤ x.1 ∧ x.1 < t.ds.length ∧ 0 ≤ x.2 ∧ x.2 ≤ 1 ∧ 0 < t.F.getD (outOf t.ds x) 0) rfl ⟨[], rfl, by simp, fun x h => by cases h⟩ (fun i k ν1 r0 ha hν hI => ?_) (fun ν2 ρ' hν hv hI => ?_)
  · obtain ⟨gs, rfl, hl, hg⟩ := hI
    have hi : i < t.ds.length := by have := lt_of_at ha; rw [List.length_range] at this; exact this
    have hk : k = i := by rw [List.getElem?_range hi] at ha; exact (Option.some.inj ha).symm
    subst hk
    obtain ⟨d, ed⟩ : ∃ d, t.ds[k]? = some d := ⟨_, List.getElem?_eq_getElem hi⟩
    refine dg_nm rfl ?_
    walk_at "nrm"
    refine ds_extend rfl (dL_o (do_lck rfl ?_))
    walk_at "de"
    refine ⟨by decide, by decide, ?_⟩
    rw [show (2 : Int).toNat = 2 from rfl, rngD_map]
    refine lcF (fun (i : Nat) => PyData.int (i : Int)) (List.range 2) (fun i => decide (t.F.getD (outOf t.ds ((k : Int), (i : Int))) 0 > 0)) (fun i => ggD ((k : Int), (i : Int))) (szL (by simp)) rfl (fun i hi' => ?_) ?_
    · have hi2 : i < 2 := List.mem_range.mp hi'
      obtain ⟨w1, _⟩ := way_at ed (w := (i : Int)) (by omega) (by omega)
      obtain ⟨o1, o2⟩ := rooms_of hD (x := ((k : Int), (i : Int))) (by show (0 : Int) ≤ k; omega) (by show (k : Int) < _; omega)
      walk_at "nrm"
      refine dg_name rfl (by simp) (dt_tTest (dB_op0 (dI_ixV rfl ?_)))
      walk_at "nrm"
      walk_at "de"
      refine ⟨_, atD_map ed, ?_⟩
      walk_at "de"
      refine ⟨_, w1, _, atI_ints (by rw [hF]; exact o1), ?_⟩
      walk_at "de"
      refine ⟨rfl, rfl, fun _ => ?_⟩
      walk_at "de"
      exact ⟨szd rfl, rfl, rfl⟩
    · have hf := List.length_filter_le (fun i : Nat => decide (t.F.getD (outOf t.ds ((k : Int), (i : Int))) 0 > 0)) (List.range 2)
      rw [List.length_range] at hf
      refine ⟨by rw [List.length_map, List.length_map]; unfold sizeLine; omega, ?_⟩
      walk_at "nrm"
      refine ⟨by omega, rfl, gs ++ ((List.range 2).filter (fun i : Nat => decide (t.F.getD (outOf t.ds ((k : Int), (i : Int))) 0 > 0))).map (fun i : Nat => ((k : Int), (i : Int))), by rw [List.map_append, List.map_map]; rfl, by rw [List.length_append, List.length_map]; omega, fun x hx => ?_⟩
      rcases List.mem_append.mp hx with h | h
      · exact hg x h
      · obtain ⟨i, hi', rfl⟩ := List.mem_map.mp h
        have hi2 : i < 2 := List.mem_range.mp (List.mem_filter.mp hi').1
        exact ⟨by show (0 : Int) ≤ k; omega, by show (k : Int) < _; omega, by show (0 : Int) ≤ i; omega, by show (i : Int) ≤ 1; omega, of_decide_eq_true (List.mem_filter.mp hi').2⟩
  · obtain ⟨gs, eR, hl, hg⟩ := hI
    rw [List.length_range] at hl
    refine ds_wipe [3, 4] hv ?_
    rw [eR]
    exact ds_retV rfl ⟨D, _, rfl, gs, rfl, hl, hg⟩
end
end Bd
namespace Bd
open PySem PySem.Spec PyProof.Rows L2 HT
local macro_rules | `(tactic| walk_at "de1") => `(tactic| (with_reducible first
  | refine dI_var rfl ?_ | refine dI_c ?_ | refine dI_op0 ?_ | refine dI_op ?_ | refine dI_un ?_ | refine dI_ixO rfl ?_ | refine dI_ixT ?_ | refine dI_ixL ?_ | refine dI_if ?_ | refine dI_lenO rfl ?_ | refine dI_lenL ?_ | refine dI_abs ?_ | refine dI_two ?_ | refine dI_intB ?_
  | refine dB_var rfl ?_ | refine dB_c ?_ | refine dB_op0 ?_ | refine dB_eqI ?_ | refine dB_neI ?_ | refine dB_inI ?_ | refine dB_not ?_ | refine dB_and ?_ | refine dB_or ?_ | refine dB_chain ?_ | refine dB_eqD ?_ | refine dB_neD ?_ | refine dB_isi ?_
  | refine dL_var rfl ?_ | refine dL_ixO rfl ?_ | refine dL_ixT ?_ | refine dL_ixL ?_ | refine dL_o ?_
  | refine dT_var rfl ?_ | refine dT_ixL ?_ | refine dT_ixT ?_ | refine dT_tup ?_ | refine dT_slT ?_ | refine dT_catT ?_
  | refine de_var rfl ?_ | refine dX_ixO rfl ?_ | refine dX_ixT ?_ | refine dX_ixL ?_ | refine de_tup ?_ | refine de_c rfl ?_ | refine de_if ?_ | refine Do.de (do_lst ?_) | refine de_catTT ?_ | refine de_slTT ?_
  | refine dI_e (dI_op0 ?_) | refine dI_e (dI_op ?_) | refine dI_e (dI_un ?_) | refine dI_e (dI_lenO rfl ?_) | refine dI_e (dI_lenL ?_) | refine dI_e (dI_abs ?_) | refine dI_e (dI_two ?_) | refine dI_e (dI_intB ?_)
  | refine dB_e (dB_op0 ?_) | refine dB_e (dB_eqI ?_) | refine dB_e (dB_neI ?_) | refine dB_e (dB_inI ?_) | refine dB_e (dB_not ?_) | refine dB_e (dB_and ?_) | refine dB_e (dB_or ?_) | refine dB_e (dB_chain ?_) | refine dB_e (dB_eqD ?_) | refine dB_e (dB_neD ?_)
  | refine dt_tB ?_ | refine dt_tTest ?_ | refine dt_not ?_ | refine dt_and ?_ | refine dt_or ?_ | refine dt_yes ?_
  | refine da_nil ?_ | refine da_cons ?_ | refine dp_no ?_ | refine dp_partI ?_
  | refine di_rngI ?_ | refine di_listL ?_ | refine di_zipL ?_ | refine di_enumL ?_
  | refine do_lck rfl ?_ | refine do_lst ?_ | refine do_catL ?_ | refine do_slLL ?_ | refine do_revL ?_
  | refine dg_nm rfl ?_ | refine dg_name rfl (by simp) ?_ | refine dg_tup rfl ?_ | refine dgs_cons ?_ | refine dgs_nil ?_))
local macro_rules | `(tactic| walk_at "de") => `(tactic| (repeat (first | walk_at "de1" | (refine ⟨_, rfl, ?_⟩))))
local macro_rules | `(tactic| walk_at "nrm") => `(tactic| (try dsimp only [List.set, toD, wipeR, List.map, pairD, beadD, lookD]))

local macro_rules | `(tactic| walk_at "dg") => `(tactic| ((repeat (with_reducible first | refine dg_tup rfl ?_ | refine dgs_cons ?_ | refine dgs_nil ?_ | refine dg_name rfl (by simp) ?_)); walk_at "nrm"))
/-! ### houses and what was counted -/
def dcD (x : Dc) : PyData := .tuple [pairD x.1, .int x.2]
theorem zipD_dc : ∀ (ds : List (Nat × Nat)) (C : List Int), zipD (ds.map pairD) (C.map .int) = (ds.zip C).map dcD
  | [], C => rfl
  | d :: ds, [] => rfl
  | d :: ds, c :: C => by
    show PyData.tuple [pairD d, .int c] :: zipD (ds.map pairD) (C.map .int) = _
    rw [zipD_dc ds C]; rfl
structure Hc where
  rooms : Nat
  ds : List (Nat × Nat)
  C : List Int
structure Hc.Ok (t : Hc) : Prop where
  doors : Doors t.rooms t.ds
  r1 : t.rooms ≤ 10
  d1 : t.ds.length ≤ 100
  cl : t.C.length = t.ds.length
def Hc.z (t : Hc) : List Dc := t.ds.zip t.C
def Hc.arg (t : Hc) : List PyData := [houseD t.rooms t.ds, intsD t.C]
theorem Hc.Ok.lt {t : Hc} (h : t.Ok) {x : Dc} (hx : x ∈ t.z) : x.1.1 < t.rooms ∧ x.1.2 < t.rooms ∧ x.1.1 ≠ x.1.2 := h.doors _ (List.of_mem_zip (a := x.1) (b := x.2) hx).1
theorem Hc.Ok.zl {t : Hc} (h : t.Ok) : t.z.length = t.ds.length := by unfold Hc.z; rw [List.length_zip, h.cl, Nat.min_self]
structure Sl2 where
  F : List Int
  lot : List Nat
structure Lv1 where
  t : Hc
  lot : List Nat
def spMetD (K : PySem.W.Frag) : Sp := spD (ι := Hc) K Wn [] Hc.arg (fun t _ => t.Ok) (fun t _ _ s => ∃ a, s = .own a ((metL t.rooms t.z).map .int))
def spInD (K : PySem.W.Frag) : Sp := spD (ι := Sl2) K Wn [] (fun i => [intsD i.F, lotD i.lot]) (fun i _ => (∀ r ∈ i.lot, r < i.F.length) ∧ i.lot.length ≤ 100) (fun i _ _ s => s = .d (.int (sumM i.F i.lot)))
def spLeaveD (K : PySem.W.Frag) : Sp := spD (ι := Lv1) K Wn [] (fun i => i.t.arg ++ [lotD i.lot]) (fun i _ => i.t.Ok ∧ i.lot.length ≤ 100) (fun i _ _ s => s = .d (.int (leaveM i.t.z i.lot)))
def spLotsD (K : PySem.W.Frag) : Sp := spD (ι := Nat) K Wn [] (fun n => [.int (n : Int)]) (fun n _ => n ≤ 10) (fun n _ _ s => s = .d (lotsD (lotsN n)))
structure Df1 where
  t : Hc
  B : List Int
  E : List Int
  lot : List Nat
structure Df1.Ok (i : Df1) : Prop where
  t : i.t.Ok
  b : i.B.length = i.t.rooms
  e : i.E.length = i.t.rooms
  l : ∀ r ∈ i.lot, r < i.t.rooms
  l1 : i.lot.length ≤ 100
def Df1.arg (i : Df1) : List PyData := [houseD i.t.rooms i.t.ds, intsD i.B, intsD i.t.C, intsD i.E, lotD i.lot]
def absI (i : Int) : Int := if i < 0 then -i else i
def differsM (t : Hc) (B E : List Int) (lot : List Nat) : Bool := decide (absI (sumM B lot - sumM E lot) > leaveM t.z lot)
def spDiffersD (K : PySem.W.Frag) : Sp := spD (ι := Df1) K Wn [] Df1.arg (fun i _ => i.Ok) (fun i _ _ s => s = .d (.bool (differsM i.t i.B i.E i.lot)))
theorem lot_map (lot : List Nat) : (natsL lot).map PyData.int = lot.map fun (r : Nat) => PyData.int (r : Int) := by unfold natsL; rw [List.map_map]; rfl
theorem mem_pairI (r a b : Nat) : decide ((r : Int) ∈ [(a : Int), (b : Int)]) = (decide (r = a) || decide (r = b)) := by
  rw [← Bool.decide_or]
  apply decide_eq_decide.mpr
  simp only [List.mem_cons, List.not_mem_nil, or_false]
  omega
section
variable {P : Program} {w : World} {K : PySem.W.Frag} {mg : Str → Option Value} {base : Heap}
end
end Bd
namespace Bd
open PySem PySem.Spec PyProof.Rows L2 HT
local macro_rules | `(tactic| walk_at "de1") => `(tactic| (with_reducible first
  | refine dI_var rfl ?_ | refine dI_c ?_ | refine dI_op0 ?_ | refine dI_op ?_ | refine dI_un ?_ | refine dI_ixO rfl ?_ | refine dI_ixT ?_ | refine dI_ixL ?_ | refine dI_if ?_ | refine dI_lenO rfl ?_ | refine dI_lenL ?_ | refine dI_abs ?_ | refine dI_two ?_ | refine dI_intB ?_
  | refine dB_var rfl ?_ | refine dB_c ?_ | refine dB_op0 ?_ | refine dB_eqI ?_ | refine dB_neI ?_ | refine dB_inI ?_ | refine dB_not ?_ | refine dB_and ?_ | refine dB_or ?_ | refine dB_chain ?_ | refine dB_eqD ?_ | refine dB_neD ?_ | refine dB_isi ?_
  | refine dL_var rfl ?_ | refine dL_ixO rfl ?_ | refine dL_ixT ?_ | refine dL_ixL ?_ | refine dL_o ?_
  | refine dT_var rfl ?_ | refine dT_ixL ?_ | refine dT_ixT ?_ | refine dT_tup ?_ | refine dT_slT ?_ | refine dT_catT ?_
  | refine de_var rfl ?_ | refine dX_ixO rfl ?_ | refine dX_ixT ?_ | refine dX_ixL ?_ | refine de_tup ?_ | refine de_c rfl ?_ | refine de_if ?_ | refine Do.de (do_lst ?_) | refine de_catTT ?_ | refine de_slTT ?_
  | refine dI_e (dI_op0 ?_) | refine dI_e (dI_op ?_) | refine dI_e (dI_un ?_) | refine dI_e (dI_lenO rfl ?_) | refine dI_e (dI_lenL ?_) | refine dI_e (dI_abs ?_) | refine dI_e (dI_two ?_) | refine dI_e (dI_intB ?_)
  | refine dB_e (dB_op0 ?_) | refine dB_e (dB_eqI ?_) | refine dB_e (dB_neI ?_) | refine dB_e (dB_inI ?_) | refine dB_e (dB_not ?_) | refine dB_e (dB_and ?_) | refine dB_e (dB_or ?_) | refine dB_e (dB_chain ?_) | refine dB_e (dB_eqD ?_) | refine dB_e (dB_neD ?_)
  | refine dt_tB ?_ | refine dt_tTest ?_ | refine dt_not ?_ | refine dt_and ?_ | refine dt_or ?_ | refine dt_yes ?_
  | refine da_nil ?_ | refine da_cons ?_ | refine dp_no ?_ | refine dp_partI ?_
  | refine di_rngI ?_ | refine di_listL ?_ | refine di_zipL ?_ | refine di_enumL ?_
  | refine do_lck rfl ?_ | refine do_lst ?_ | refine do_catL ?_ | refine do_slLL ?_ | refine do_revL ?_
  | refine dg_nm rfl ?_ | refine dg_name rfl (by simp) ?_ | refine dg_tup rfl ?_ | refine dgs_cons ?_ | refine dgs_nil ?_))
local macro_rules | `(tactic| walk_at "de") => `(tactic| (repeat (first | walk_at "de1" | (refine ⟨_, rfl, ?_⟩))))
local macro_rules | `(tactic| walk_at "nrm") => `(tactic| (try dsimp only [List.set, toD, wipeR, List.map, pairD, beadD, lookD]))

local macro_rules | `(tactic| walk_at "dg") => `(tactic| ((repeat (with_reducible first | refine dg_tup rfl ?_ | refine dgs_cons ?_ | refine dgs_nil ?_ | refine dg_name rfl (by simp) ?_)); walk_at "nrm"))
abbrev sMet : Stmt := topS 5
theorem scMet : FnScope ["house", "counts", "rooms", "doors", "sums", "a", "b", "count"] ["house", "counts"] (defScope sMet) := ⟨rfl, rfl, rfl, by decide +kernel, rfl, by decide +kernel, by decide +kernel⟩
abbrev sLotOf : Stmt := topS 8
theorem scLotOf : FnScope ["rooms", "number", "room"] ["rooms", "number"] (defScope sLotOf) := ⟨rfl, rfl, rfl, by decide +kernel, rfl, by decide +kernel, by decide +kernel⟩
abbrev sOddOnes : Stmt := topS 10
theorem scOddOnes : FnScope ["house", "begin", "counts", "had", "passed"] ["house", "begin", "counts"] (defScope sOddOnes) := ⟨rfl, rfl, rfl, by decide +kernel, rfl, by decide +kernel, by decide +kernel⟩
abbrev sLotSums : Stmt := topS 9
theorem scLotSums : FnScope ["house", "counts", "weights", "rooms", "passed", "between", "sums", "room", "added", "lesser", "inner", "more", "before"] ["house", "counts", "weights"] (defScope sLotSums) := ⟨rfl, rfl, rfl, by decide +kernel, rfl, by decide +kernel, by decide +kernel⟩
theorem zipR {A B : List Int} {n : Nat} (ha : A.length = n) (hb : B.length = n) : zipD (A.map .int) (B.map .int) = (List.range n).map fun i => .tuple [.int (A.getD i 0), .int (B.getD i 0)] := by
  apply List.ext_getElem?
  intro i
  unfold zipD
  rw [List.getElem?_zipWith, List.getElem?_map, List.getElem?_map, List.getElem?_map]
  by_cases h : i < n
  · rw [List.getElem?_range h, List.getElem?_eq_getElem (by omega : i < A.length), List.getElem?_eq_getElem (by omega : i < B.length)]
    simp only [Option.map_some, List.getD_eq_getElem?_getD]
    rw [List.getElem?_eq_getElem (by omega : i < A.length), List.getElem?_eq_getElem (by omega : i < B.length)]
    rfl
  · rw [List.getElem?_eq_none (by omega : A.length ≤ i), List.getElem?_eq_none (l := List.range n) (by rw [List.length_range]; omega)]
    rfl
theorem zipWR {A B : List Int} {n : Nat} (ha : A.length = n) (hb : B.length = n) : List.zipWith (fun a b => a + b) A B = (List.range n).map fun i => A.getD i 0 + B.getD i 0 := by
  apply List.ext_getElem?
  intro i
  rw [List.getElem?_zipWith, List.getElem?_map]
  by_cases h : i < n
  · rw [List.getElem?_range h, getD_some (by omega : i < A.length), getD_some (by omega : i < B.length)]; rfl
  · rw [List.getElem?_eq_none (by omega : A.length ≤ i), List.getElem?_eq_none (l := List.range n) (by rw [List.length_range]; omega)]
    rfl
theorem enumR {A : List Int} {n : Nat} (ha : A.length = n) : enumD (A.map .int) = (List.range n).map fun (i : Nat) => .tuple [.int (i : Int), .int (A.getD i 0)] := by
  apply List.ext_getElem?
  intro i
  rw [List.getElem?_map]
  by_cases h : i < n
  · rw [enumD_at (get_ints (by omega)), List.getElem?_range h]; rfl
  · rw [List.getElem?_eq_none (by rw [enumD_len, List.length_map]; omega), List.getElem?_eq_none (by rw [List.length_range]; omega)]
    rfl
theorem mapR {A : List Int} {n : Nat} (ha : A.length = n) (f : Int → Int) : A.map f = (List.range n).map fun i => f (A.getD i 0) := by
  apply List.ext_getElem?
  intro i
  rw [List.getElem?_map, List.getElem?_map]
  by_cases h : i < n
  · rw [getD_some (by omega : i < A.length), List.getElem?_range h]; rfl
  · rw [List.getElem?_eq_none (by omega), List.getElem?_eq_none (by rw [List.length_range]; omega)]
    rfl
theorem getD_range {n i : Nat} {f : Nat → Int} (h : i < n) : ((List.range n).map f).getD i 0 = f i := by
  rw [List.getD_eq_getElem?_getD, List.getElem?_map, List.getElem?_range h]; rfl
theorem leave_nil (z : List Dc) : leaveM z [] = 0 := by
  unfold leaveM
  rw [List.filter_eq_nil_iff.mpr (fun x _ => by rw [lv_iff]; simp)]; rfl
theorem sumsL_zero (z : List Dc) (w : List Int) : sumsL 0 z w = [0] := by
  show [sumM w [] + leaveM z []] = [0]
  rw [leave_nil]; rfl
theorem addL_zero (z : List Dc) (c : Int) (r : Nat) : addL z c r 0 = [c] := by
  show [c - 2 * 0] = [c]
  rw [Int.mul_zero, Int.sub_zero]
def oddAt (t : Hc) (B : List Int) (r : Nat) : Int := (B.getD r 0 + metAt t.z r) % 2
def oddL (t : Hc) (B : List Int) : List Int := (List.range t.rooms).map (oddAt t B)
def oddR (t : Hc) (B E : List Int) : List Nat := (List.range t.rooms).filter fun r => decide ((B.getD r 0 + E.getD r 0 + metAt t.z r) % 2 = 1)
def btwD (t : Hc) : PyData := .list ((List.range t.rooms).map fun a => intsD ((List.range t.rooms).map fun b => btwAt t.z a b))
structure Hb1 where
  t : Hc
  B : List Int
structure Hb1.Ok (i : Hb1) : Prop where
  t : i.t.Ok
  b : i.B.length = i.t.rooms
structure He1 where
  t : Hc
  B : List Int
  E : List Int
structure He1.Ok (i : He1) : Prop where
  t : i.t.Ok
  b : i.B.length = i.t.rooms
  e : i.E.length = i.t.rooms
def He1.arg (i : He1) : List PyData := [houseD i.t.rooms i.t.ds, intsD i.B, intsD i.t.C, intsD i.E]
def spOddD (K : PySem.W.Frag) : Sp := spD (ι := Hb1) K Wn [] (fun i => [houseD i.t.rooms i.t.ds, intsD i.B, intsD i.t.C]) (fun i _ => i.Ok) (fun i _ _ s => ∃ a, s = .own a ((oddL i.t i.B).map .int))
def spOddRD (K : PySem.W.Frag) : Sp := spD (ι := He1) K Wn [] He1.arg (fun i _ => i.Ok) (fun i _ _ s => s = .d (lotD (oddR i.t i.B i.E)))
def spBtwD (K : PySem.W.Frag) : Sp := spD (ι := Hc) K Wn [] Hc.arg (fun t _ => t.Ok) (fun t _ _ s => s = .d (btwD t))
def spSumsD (K : PySem.W.Frag) : Sp := spD (ι := Hb1) K Wn [] (fun i => i.t.arg ++ [intsD i.B]) (fun i _ => i.Ok) (fun i _ _ s => s = .d (intsD (sumsL i.t.rooms i.t.z i.B)))
def spLotOfD (K : PySem.W.Frag) : Sp := spD (ι := Nat × Nat) K Wn [] (fun i => [.int (i.1 : Int), .int (i.2 : Int)]) (fun i _ => i.1 ≤ 10 ∧ i.2 < 2 ^ i.1) (fun i _ _ s => ∃ a l, s = .own a ((natsL l).map .int) ∧ (lotsN i.1)[i.2]? = some l)
section
variable {P : Program} {w : World} {K : PySem.W.Frag} {mg : Str → Option Value} {base : Heap}
theorem ok_metP {f : Addr} {fd : FuncData} (F : Fun K "met" "met" sMet f fd) (m_zip : mg "zip" = none) : FnG P w K mg base 1 f fd ["house", "counts"] (spMetD K) := by
  have sc := scMet
  refine fnG_of F scMet (fun vs H Q E h => spD_len h fun i => rfl) (fun cdv A outer s H vs Q E hr hg h => ?_)
  refine ⟨_, (pss_cons (ps_asg (pv 0) (pg_tup (by rfl) (pgs_cons (pg_name (i := 2) sc.nd rfl (.inl rfl)) (pgs_cons (pg_name (i := 3) sc.nd rfl (.inl rfl)) pgs_nil))))
  (pss_cons (ps_set (i := 4) sc.nd rfl (.inl rfl) (pe_op op_rep (pe_lst (pa_cons pe_int pa_nil)) (pv 2)))
  (pss_cons (ps_for PassesOwn.never rfl (pi_zip (by rfl) m_zip (pa_cons (pv 3) (pa_cons (pv 1) pa_nil))) (pg_tup (by rfl) (pgs_cons (pg_tup (by rfl) (pgs_cons (pg_name (i := 5) sc.nd rfl (.inl rfl)) (pgs_cons (pg_name (i := 6) sc.nd rfl (.inl rfl)) pgs_nil))) (pgs_cons (pg_name (i := 7) sc.nd rfl (.inl rfl)) pgs_nil)))
    (pss_cons (ps_augS (pv 4) (pv 5) get_list (pv 7) ip_add set_list)
  (pss_one (ps_augS (pv 4) (pv 6) get_list (pv 7) ip_add set_list))))
  (pss_one (ps_ret (pv 4)))))), ?_⟩
  try dsimp only [cxOf, L2.Cx.nox]
  refine fn_ds (fun t : Hc => [.d (houseD t.rooms t.ds), .d (intsD t.C), .un, .un, .un, .un, .un, .un]) h (fun i => rfl) fun t ν ht => ?_
  have hr1 := ht.r1
  refine ds_seq (ds_asg (de_var rfl (dg_tup rfl ?_)))
  walk_at "dg"
  refine ds_seq (ds_setO rfl (by simp) (do_rep ?_))
  walk_at "de"
  refine ⟨szd rfl, ?_⟩
  walk_at "de"
  refine ⟨[.int 0], _, rfl, rfl, by omega, by omega, by rw [Int.toNat_natCast]; show 1 * t.rooms ≤ sizeLine; unfold sizeLine; omega, fun An => ?_⟩
  rw [Int.toNat_natCast, flat_rep0]
  walk_at "nrm"
  refine ds_seq (ds_fork ?_)
  walk_at "de"
  refine forN [5, 6, 7] dcD t.z (zipD_dc _ _) (fun i r => r = [.d (houseD t.rooms t.ds), .d (intsD t.C), .d (.int t.rooms), .d (doorsD t.ds), .own An ((metL t.rooms (t.z.take i)).map .int), .un, .un, .un]) rfl (by rw [List.take_zero, metL_nil]; rfl) (fun i x ν1 r0 ha hI => ?_) (fun ν2 ρ' hv hI => ?_)
  · subst hI
    have hx := ht.lt (List.mem_of_getElem? ha)
    dsimp only [dcD, pairD]
    walk_at "dg"
    refine ds_seq (ds_augSI rfl ?_)
    walk_at "de"
    refine ⟨x.1.1, _, rfl, by rw [List.getElem?_map, metL_at _ hx.1]; rfl, ?_⟩
    walk_at "de"
    rw [← List.map_set]
    walk_at "nrm"
    refine ds_augSI rfl ?_
    walk_at "de"
    refine ⟨x.1.2, _, rfl, by rw [List.getElem?_map, List.getElem?_set_ne hx.2.2, metL_at _ hx.2.1]; rfl, ?_⟩
    walk_at "de"
    rw [← List.map_set]
    walk_at "nrm"
    rw [take_snoc ha, metL_snoc _ x hx.1 hx.2.1 hx.2.2]
    exact ⟨rfl, rfl⟩
  · rw [List.take_of_length_le (Nat.le_refl _)] at hI
    refine ds_wipe [5, 6, 7] hv ?_
    rw [hI]
    exact ds_retV rfl ⟨An, rfl⟩
theorem ok_lotOfD {f : Addr} {fd : FuncData} (F : Fun K "lot_of" "lot_of" sLotOf f fd) (m_range : mg "range" = none) : FnG P w K mg base 1 f fd ["rooms", "number"] (spLotOfD K) := by
  have sc := scLotOf
  refine fnG_of F scLotOf (fun vs H Q E h => spD_len h fun i => rfl) (fun cdv A outer s H vs Q E hr hg h => ?_)
  refine ⟨_, (pss_one (ps_ret (pe_lc (own := [("room", 2)]) (g := gName 2)  (by rfl) sc.nd  (pi_range1 (by rfl) m_range (pa_cons (pv 0) pa_nil)) (blkOk_by (own := [("room", 2)]) (N := ["rooms", "number", "room"]) (sc := defScope sLotOf) (by decide +kernel)) (fun _ _ _ _ _ => (pg_name (i := 2) sc.nd rfl (.inl rfl))) (fun _ _ _ _ _ => (pts_one (pt_tru rfl (pe_op op_band (pe_op op_shr (pv 1) (pv 2)) pe_int) (by intro _; rfl)))) (fun _ _ _ _ _ => (pv 2))))), ?_⟩
  try dsimp only [cxOf, L2.Cx.nox]
  refine fn_ds (fun i : Nat × Nat => [.d (.int (i.1 : Int)), .d (.int (i.2 : Int)), .un]) h (fun i => rfl) fun i ν hp => ?_
  obtain ⟨n, k⟩ := i
  obtain ⟨hn, hk⟩ := hp
  dsimp only at hn hk ⊢
  refine ds_retO (do_lck rfl ?_)
  walk_at "de"
  refine ⟨by omega, by omega, ?_⟩
  rw [Int.toNat_natCast, rngD_map]
  refine lcF (fun (r : Nat) => PyData.int (r : Int)) (List.range n) (fun r => k.testBit r) (fun (r : Nat) => .int (r : Int)) (szL (by rw [List.length_range]; omega)) rfl (fun r hr => ?_) ?_
  · walk_at "dg"
    refine dt_truI ?_
    walk_at "de"
    refine ⟨by omega, ?_⟩
    walk_at "de"
    refine ⟨rfl, ?_, fun _ => ?_⟩
    · rw [bitAnd_m1, Int.toNat_natCast]
      have e : ((k : Int) / 2 ^ r) % 2 = ((k / 2 ^ r % 2 : Nat) : Int) := by
        rw [Int.natCast_emod, Int.natCast_ediv, Int.natCast_pow]; rfl
      rw [e, Nat.testBit_eq_decide_div_mod_eq]
      have h2 := Nat.mod_two_eq_zero_or_one (k / 2 ^ r)
      rcases h2 with h2 | h2 <;> rw [h2] <;> rfl
    · walk_at "de"
      exact ⟨rfl, rfl⟩
  · intro a
    exact ⟨a, _, by rw [lot_map], lotsN_at n k hk⟩
theorem ok_oddD {f : Addr} {fd : FuncData} (F : Fun K "odd_ones" "odd_ones" sOddOnes f fd) (cal_met : Cg P w K mg base 1 "met" (spMetD K)) (m_zip : mg "zip" = none) : FnG P w K mg base 2 f fd ["house", "begin", "counts"] (spOddD K) := by
  have sc := scOddOnes
  refine fnG_of F scOddOnes (fun vs H Q E h => spD_len h fun i => rfl) (fun cdv A outer s H vs Q E hr hg h => ?_)
  refine ⟨_, (pss_one (ps_ret (pe_lc (own := [("had", 3), ("passed", 4)]) (g := gTup K 2 (gCons (gName 3) (gCons (gName 4) gNil))) (tt := tYes) (by rfl) sc.nd  (pi_zip (by rfl) m_zip (pa_cons (pv 1) (pa_cons (pe_g cal_met hg hr (by first | decide | exact Nat.le_refl _ | omega) (by rfl) (pa_cons (pv 0) (pa_cons (pv 2) pa_nil))) pa_nil))) (blkOk_by (own := [("had", 3), ("passed", 4)]) (N := ["house", "begin", "counts", "had", "passed"]) (sc := defScope sOddOnes) (by decide +kernel)) (fun _ _ _ _ _ => (pg_tup (by rfl) (pgs_cons (pg_name (i := 3) sc.nd rfl (.inl rfl)) (pgs_cons (pg_name (i := 4) sc.nd rfl (.inl rfl)) pgs_nil)))) (fun _ _ _ _ _ => pts_nil) (fun _ _ _ _ _ => (pe_op op_mod (pe_op op_add (pv 3) (pv 4)) pe_int))))), ?_⟩
  try dsimp only [cxOf, L2.Cx.nox]
  refine fn_ds (fun i : Hb1 => [.d (houseD i.t.rooms i.t.ds), .d (intsD i.B), .d (intsD i.t.C), .un, .un]) h (fun i => rfl) fun i ν ok => ?_
  obtain ⟨t, B⟩ := i
  obtain ⟨ht, hB⟩ := ok
  dsimp only at ht hB ⊢
  have hr1 := ht.r1
  refine ds_retO (do_lck rfl (di_zipL ?_))
  walk_at "de"
  refine do_call0 ?_
  walk_at "de"
  refine ⟨ht, fun n s hs => ?_⟩
  obtain ⟨a, rfl⟩ := hs
  refine ⟨a, _, rfl, ?_⟩
  refine lcM (fun (i : Nat) => PyData.tuple [.int (B.getD i 0), .int ((metL t.rooms t.z).getD i 0)]) (List.range t.rooms) (fun r => .int (oddAt t B r)) (szL (by rw [List.length_range]; omega)) (zipR hB (metL_len _ _)) (fun r hr => ?_) ?_
  · walk_at "dg"
    refine dI_e ?_
    walk_at "de"
    exact ⟨by decide, rfl, by unfold oddAt metL; rw [getD_range (List.mem_range.mp hr)]⟩
  · intro a
    exact ⟨a, by unfold oddL; rw [List.map_map]; rfl⟩
theorem ok_sumsD {f : Addr} {fd : FuncData} (F : Fun K "lot_sums" "lot_sums" sLotSums f fd) (cal_met : Cg P w K mg base 1 "met" (spMetD K)) (cal_between : Cg P w K mg base 1 "_between" (spBtwD K)) (m_range : mg "range" = none) (m_zip : mg "zip" = none) : FnG P w K mg base 2 f fd ["house", "counts", "weights"] (spSumsD K) := by
  have sc := scLotSums
  refine fnG_of F scLotSums (fun vs H Q E h => spD_len h fun i => rfl) (fun cdv A outer s H vs Q E hr hg h => ?_)
  refine ⟨_, (pss_cons (ps_set (i := 3) sc.nd rfl (.inl rfl) (pe_ix ix_tup (pv 0) pe_int (fun _ _ => rfl)))
  (pss_cons (ps_set (i := 4) sc.nd rfl (.inl rfl) (pe_g cal_met hg hr (by first | decide | exact Nat.le_refl _ | omega) (by rfl) (pa_cons (pv 0) (pa_cons (pv 1) pa_nil))))
  (pss_cons (ps_set (i := 5) sc.nd rfl (.inl rfl) (pe_g cal_between hg hr (by first | decide | exact Nat.le_refl _ | omega) (by rfl) (pa_cons (pv 0) (pa_cons (pv 1) pa_nil))))
  (pss_cons (ps_set (i := 6) sc.nd rfl (.inl rfl) (pe_lst (pa_cons pe_int pa_nil)))
  (pss_cons (ps_for PassesOwn.never rfl (pi_range1 (by rfl) m_range (pa_cons (pv 3) pa_nil)) (pg_name (i := 7) sc.nd rfl (.inl rfl))
    (pss_cons (ps_set (i := 8) sc.nd rfl (.inl rfl) (pe_lst (pa_cons (pe_op op_add (pe_ix ix_list (pv 2) (pv 7) (fun _ _ => rfl)) (pe_ix ix_list (pv 4) (pv 7) (fun _ _ => rfl))) pa_nil)))
  (pss_cons (ps_for PassesOwn.never rfl (pi_range1 (by rfl) m_range (pa_cons (pv 7) pa_nil)) (pg_name (i := 9) sc.nd rfl (.inl rfl))
    (pss_cons (ps_set (i := 10) sc.nd rfl (.inr rfl) (pe_op op_mul pe_int (pe_ix ix_list (pe_ix ix_list (pv 5) (pv 7) (fun _ _ => rfl)) (pv 9) (fun _ _ => rfl))))
  (pss_one (ps_set (i := 8) sc.nd rfl (.inl rfl) (pe_op op_cat (pv 8) (pe_lc (own := [("more", 11)]) (g := gName 11) (tt := tYes) (by rfl) sc.nd  (pi_list (pv 8)) (blkOk_by (own := [("more", 11)]) (N := ["house", "counts", "weights", "rooms", "passed", "between", "sums", "room", "added", "lesser", "inner", "more", "before"]) (sc := defScope sLotSums) (by decide +kernel)) (fun _ _ _ _ _ => (pg_name (i := 11) sc.nd rfl (.inl rfl))) (fun _ _ _ _ _ => pts_nil) (fun _ _ _ _ _ => (pe_op op_sub (pv 11) (pv 10)))))))))
  (pss_one (ps_set (i := 6) sc.nd rfl (.inl rfl) (pe_op op_cat (pv 6) (pe_lc (own := [("before", 12), ("more", 11)]) (g := gTup K 2 (gCons (gName 12) (gCons (gName 11) gNil))) (tt := tYes) (by rfl) sc.nd  (pi_zip (by rfl) m_zip (pa_cons (pv 6) (pa_cons (pv 8) pa_nil))) (blkOk_by (own := [("before", 12), ("more", 11)]) (N := ["house", "counts", "weights", "rooms", "passed", "between", "sums", "room", "added", "lesser", "inner", "more", "before"]) (sc := defScope sLotSums) (by decide +kernel)) (fun _ _ _ _ _ => (pg_tup (by rfl) (pgs_cons (pg_name (i := 12) sc.nd rfl (.inl rfl)) (pgs_cons (pg_name (i := 11) sc.nd rfl (.inl rfl)) pgs_nil)))) (fun _ _ _ _ _ => pts_nil) (fun _ _ _ _ _ => (pe_op op_add (pv 12) (pv 11))))))))))
  (pss_one (ps_ret (pv 6)))))))), ?_⟩
  try dsimp only [cxOf, L2.Cx.nox]
  refine fn_ds (fun i : Hb1 => [.d (houseD i.t.rooms i.t.ds), .d (intsD i.t.C), .d (intsD i.B), .un, .un, .un, .un, .un, .un, .un, .un, .un, .un]) h (fun i => rfl) fun i ν ok => ?_
  obtain ⟨t, B⟩ := i
  obtain ⟨ht, hB⟩ := ok
  dsimp only at ht hB ⊢
  have hr1 := ht.r1
  have hz : ∀ x ∈ t.z, x.1.1 ≠ x.1.2 := fun x hx => (ht.lt hx).2.2
  have p1024 : ∀ {k : Nat}, k ≤ 10 → 2 ^ k ≤ 1024 := fun {k} h => Nat.le_trans (Nat.pow_le_pow_right (by decide) h) (by decide)
  refine ds_seq (ds_set rfl ?_)
  walk_at "de"
  walk_at "nrm"
  refine ds_seq (ds_set rfl (Do.de (do_call0 ?_)))
  walk_at "de"
  refine ⟨ht, fun n s hs => ?_⟩
  obtain ⟨a, rfl⟩ := hs
  refine ⟨a, _, rfl, ?_⟩
  walk_at "nrm"
  refine ds_seq (ds_set rfl (de_call0 ?_))
  walk_at "de"
  refine ⟨ht, fun n s hs => ⟨_, hs, ?_⟩⟩
  walk_at "nrm"
  refine ds_seq (ds_set rfl (Do.de (do_lst ?_)))
  walk_at "de"
  refine ⟨szd rfl, ?_⟩
  walk_at "nrm"
  refine ds_seq (ds_fork ?_)
  walk_at "de"
  refine ⟨by omega, by omega, ?_⟩
  rw [Int.toNat_natCast, rngD_map]
  refine forN [7, 8, 9, 10] (fun (i : Nat) => PyData.int (i : Int)) (List.range t.rooms) rfl (fun i r => r = [.d (houseD t.rooms t.ds), .d (intsD t.C), .d (intsD B), .d (.int t.rooms), .d (intsD (metL t.rooms t.z)), .d (btwD t), .d (intsD (sumsL i t.z B)), .un, .un, .un, .un, .un, .un]) rfl (by rw [sumsL_zero]; rfl) (fun i k ν1 r0 ha hI => ?_) (fun ν2 ρ' hv hI => ?_)
  · subst hI
    have hi : i < t.rooms := by have := lt_of_at ha; rw [List.length_range] at this; exact this
    have hk : k = i := by rw [List.getElem?_range hi] at ha; exact (Option.some.inj ha).symm
    subst hk
    refine dg_nm rfl ?_
    walk_at "nrm"
    refine ds_seq (ds_set rfl (Do.de (do_lst ?_)))
    walk_at "de"
    refine ⟨_, atD_nat (get_ints (by omega)), ?_⟩
    walk_at "de"
    refine ⟨_, atD_nat (get_ints (by rw [metL_len]; omega)), ?_⟩
    walk_at "de"
    refine ⟨szd rfl, ?_⟩
    walk_at "nrm"
    have em : (metL t.rooms t.z).getD k 0 = metAt t.z k := by unfold metL; rw [getD_range hi]
    rw [em]
    generalize hc : B.getD k 0 + metAt t.z k = c
    refine ds_seq (ds_fork ?_)
    walk_at "de"
    refine ⟨by omega, by omega, ?_⟩
    rw [Int.toNat_natCast, rngD_map]
    refine forN [9, 10] (fun (i : Nat) => PyData.int (i : Int)) (List.range k) rfl (fun j r => r = [.d (houseD t.rooms t.ds), .d (intsD t.C), .d (intsD B), .d (.int t.rooms), .d (intsD (metL t.rooms t.z)), .d (btwD t), .d (intsD (sumsL k t.z B)), .d (.int k), .d (intsD (addL t.z c k j)), .un, .un, .un, .un]) rfl ?_ (fun j k' ν3 r1 hj hI => ?_) (fun ν3 ρ1 hv1 hI => ?_)
    · rw [addL_zero]; rfl
    · subst hI
      have hj2 : j < k := by have := lt_of_at hj; rw [List.length_range] at this; exact this
      have hk' : k' = j := by rw [List.getElem?_range hj2] at hj; exact (Option.some.inj hj).symm
      subst hk'
      refine dg_nm rfl ?_
      walk_at "nrm"
      refine ds_seq (ds_set rfl (dI_e ?_))
      walk_at "de"
      refine ⟨(List.range t.rooms).map fun b => PyData.int (btwAt t.z k b), ?_, ?_⟩
      · have e := atD_nat (xs := List.map (fun a => intsD (List.map (fun b => btwAt t.z a b) (List.range t.rooms))) (List.range t.rooms)) (j := k) (d := intsD ((List.range t.rooms).map fun b => btwAt t.z k b)) (by rw [List.getElem?_map, List.getElem?_range hi]; rfl)
        rw [e]
        unfold intsD
        rw [List.map_map]; rfl
      walk_at "de"
      refine ⟨_, atD_nat (by rw [List.getElem?_map, List.getElem?_range (by omega)]; rfl), .inl ⟨by decide, by decide⟩, ?_⟩
      walk_at "nrm"
      have al : (addL t.z c k k').length = 2 ^ k' := by unfold addL; rw [List.length_map, lotsN_len]
      have pk := p1024 (show k' ≤ 10 by omega)
      refine ds_set rfl (Do.de (do_catL ?_))
      walk_at "de"
      refine lcM PyData.int (addL t.z c k k') (fun m => .int (m - 2 * btwAt t.z k k')) (szL (n := (addL t.z c k k').length) (by rw [al]; omega)) rfl (fun m hm => ?_) ?_
      · walk_at "dg"
        walk_at "de"
        exact ⟨rfl, rfl⟩
      refine ⟨by rw [List.length_map, List.length_map, al]; unfold PySem.sizeLine; omega, ?_⟩
      walk_at "nrm"
      refine ⟨rfl, ?_⟩
      rw [addL_succ]
      unfold intsD
      rw [List.map_append, List.map_map]; rfl
    · rw [List.length_range] at hI
      refine ds_wipe [9, 10] hv1 ?_
      rw [hI]
      have sl : (sumsL k t.z B).length = 2 ^ k := by unfold sumsL; rw [List.length_map, lotsN_len]
      have al : (addL t.z c k k).length = 2 ^ k := by unfold addL; rw [List.length_map, lotsN_len]
      have pk := p1024 (show k ≤ 10 by omega)
      refine ds_set rfl (Do.de (do_catL ?_))
      walk_at "de"
      refine lcM (fun (i : Nat) => PyData.tuple [.int ((sumsL k t.z B).getD i 0), .int ((addL t.z c k k).getD i 0)]) (List.range (2 ^ k)) (fun i => .int ((sumsL k t.z B).getD i 0 + (addL t.z c k k).getD i 0)) (szL (by rw [List.length_range]; omega)) (zipR sl al) (fun i hi => ?_) ?_
      · walk_at "dg"
        walk_at "de"
        exact ⟨rfl, rfl⟩
      refine ⟨by rw [List.length_map, List.length_map, List.length_range, sl]; unfold PySem.sizeLine; omega, ?_⟩
      walk_at "nrm"
      refine ⟨rfl, ?_⟩
      rw [sumsL_succ hz, hc, zipWR sl al]
      unfold intsD
      rw [List.map_append, List.map_map]; rfl
  · rw [List.length_range] at hI
    refine ds_wipe [7, 8, 9, 10] hv ?_
    rw [hI]
    refine ds_ret ?_
    walk_at "de"
    rfl
end
end Bd
namespace Bd
open PySem PySem.Spec PyProof.Rows L2 HT
local macro_rules | `(tactic| walk_at "de1") => `(tactic| (with_reducible first
  | refine dI_var rfl ?_ | refine dI_c ?_ | refine dI_op0 ?_ | refine dI_op ?_ | refine dI_un ?_ | refine dI_ixO rfl ?_ | refine dI_ixT ?_ | refine dI_ixL ?_ | refine dI_if ?_ | refine dI_lenO rfl ?_ | refine dI_lenL ?_ | refine dI_abs ?_ | refine dI_two ?_ | refine dI_intB ?_
  | refine dB_var rfl ?_ | refine dB_c ?_ | refine dB_op0 ?_ | refine dB_eqI ?_ | refine dB_neI ?_ | refine dB_inI ?_ | refine dB_not ?_ | refine dB_and ?_ | refine dB_or ?_ | refine dB_chain ?_ | refine dB_eqD ?_ | refine dB_neD ?_ | refine dB_isi ?_
  | refine dL_var rfl ?_ | refine dL_ixO rfl ?_ | refine dL_ixT ?_ | refine dL_ixL ?_ | refine dL_o ?_
  | refine dT_var rfl ?_ | refine dT_ixL ?_ | refine dT_ixT ?_ | refine dT_tup ?_ | refine dT_slT ?_ | refine dT_catT ?_
  | refine de_var rfl ?_ | refine dX_ixO rfl ?_ | refine dX_ixT ?_ | refine dX_ixL ?_ | refine de_tup ?_ | refine de_c rfl ?_ | refine de_if ?_ | refine Do.de (do_lst ?_) | refine de_catTT ?_ | refine de_slTT ?_
  | refine dI_e (dI_op0 ?_) | refine dI_e (dI_op ?_) | refine dI_e (dI_un ?_) | refine dI_e (dI_lenO rfl ?_) | refine dI_e (dI_lenL ?_) | refine dI_e (dI_abs ?_) | refine dI_e (dI_two ?_) | refine dI_e (dI_intB ?_)
  | refine dB_e (dB_op0 ?_) | refine dB_e (dB_eqI ?_) | refine dB_e (dB_neI ?_) | refine dB_e (dB_inI ?_) | refine dB_e (dB_not ?_) | refine dB_e (dB_and ?_) | refine dB_e (dB_or ?_) | refine dB_e (dB_chain ?_) | refine dB_e (dB_eqD ?_) | refine dB_e (dB_neD ?_)
  | refine dt_tB ?_ | refine dt_tTest ?_ | refine dt_not ?_ | refine dt_and ?_ | refine dt_or ?_ | refine dt_yes ?_
  | refine da_nil ?_ | refine da_cons ?_ | refine dp_no ?_ | refine dp_partI ?_
  | refine di_rngI ?_ | refine di_listL ?_ | refine di_zipL ?_ | refine di_enumL ?_
  | refine do_lck rfl ?_ | refine do_lst ?_ | refine do_catL ?_ | refine do_slLL ?_ | refine do_revL ?_
  | refine dg_nm rfl ?_ | refine dg_name rfl (by simp) ?_ | refine dg_tup rfl ?_ | refine dgs_cons ?_ | refine dgs_nil ?_))
local macro_rules | `(tactic| walk_at "de") => `(tactic| (repeat (first | walk_at "de1" | (refine ⟨_, rfl, ?_⟩))))
local macro_rules | `(tactic| walk_at "nrm") => `(tactic| (try dsimp only [List.set, toD, wipeR, List.map, pairD, beadD, lookD]))

local macro_rules | `(tactic| walk_at "dg") => `(tactic| ((repeat (with_reducible first | refine dg_tup rfl ?_ | refine dg_unl rfl ?_ | refine dgs_cons ?_ | refine dgs_nil ?_ | refine dg_name rfl (by simp) ?_)); walk_at "nrm"))
abbrev sParts : Stmt := topS 6
theorem scParts : FnScope ["house", "counts", "rooms", "doors", "leaders", "a", "b", "count", "low", "high", "leader", "first", "room"] ["house", "counts"] (defScope sParts) := ⟨rfl, rfl, rfl, by decide +kernel, rfl, by decide +kernel, by decide +kernel⟩
abbrev sEmptyParts : Stmt := topS 15
theorem scEmptyParts : FnScope ["house", "begin", "counts", "part", "room"] ["house", "begin", "counts"] (defScope sEmptyParts) := ⟨rfl, rfl, rfl, by decide +kernel, rfl, by decide +kernel, by decide +kernel⟩
abbrev sFirstLeast : Stmt := topS 16
theorem scFirstLeast : FnScope ["house", "sums"] ["house", "sums"] (defScope sFirstLeast) := ⟨rfl, rfl, rfl, by decide +kernel, rfl, by decide +kernel, by decide +kernel⟩
def emptyL (t : Hc) (B : List Int) : List (List Nat) := (partsL t.rooms t.z).filter fun l => decide (1 < l.length) && !((l.map fun r => B.getD r 0).any fun i => i != 0)
def spPartsD (K : PySem.W.Frag) : Sp := spD (ι := Hc) K Wn [] Hc.arg (fun t _ => t.Ok) (fun t _ _ s => ∃ a, s = .own a ((partsL t.rooms t.z).map lotD))
def spEmptyPD (K : PySem.W.Frag) : Sp := spD (ι := Hb1) K Wn [] (fun i => [houseD i.t.rooms i.t.ds, intsD i.B, intsD i.t.C]) (fun i _ => i.Ok) (fun i _ _ s => ∃ a, s = .own a ((emptyL i.t i.B).map lotD))
structure Fl1 where
  t : Hc
  M : List Int
def spFirstD (K : PySem.W.Frag) : Sp := spD (ι := Fl1) K Wn [] (fun i => [houseD i.t.rooms i.t.ds, intsD i.M]) (fun i _ => i.t.Ok ∧ i.M.length = 2 ^ i.t.rooms) (fun i _ _ s => ∃ (a : Addr) (l : List Nat) (m : Int) (j : Nat), s = .own a ((natsL l).map .int) ∧ (lotsN i.t.rooms)[j]? = some l ∧ i.M[j]? = some m ∧ ∀ y ∈ i.M, m ≤ y)
section
variable {P : Program} {w : World} {K : PySem.W.Frag} {mg : Str → Option Value} {base : Heap}
theorem ok_firstD {f : Addr} {fd : FuncData} (F : Fun K "_first_least" "_first_least" sFirstLeast f fd) (cal_lot_of : Cg P w K mg base 1 "lot_of" (spLotOfD K)) (m_min : mg "min" = none) : FnG P w K mg base 2 f fd ["house", "sums"] (spFirstD K) := by
  have sc := scFirstLeast
  refine fnG_of F scFirstLeast (fun vs H Q E h => spD_len h fun i => rfl) (fun cdv A outer s H vs Q E hr hg h => ?_)
  refine ⟨_, (pss_one (ps_ret (pe_g cal_lot_of hg hr (by first | decide | exact Nat.le_refl _ | omega) (by rfl) (pa_cons (pe_ix ix_tup (pv 0) pe_int (fun _ _ => rfl)) (pa_cons (pe_bm PySem.F.plainAttrs_list PySem.F.slot_list_index PySem.F.type_list_index mt_index (pv 1) (pa_cons (pe_callB (cr_min rfl) (by rfl) m_min (by decide +kernel) (pa_cons (pv 1) pa_nil)) pa_nil)) pa_nil))))), ?_⟩
  try dsimp only [cxOf, L2.Cx.nox]
  refine fn_ds (fun i : Fl1 => [.d (houseD i.t.rooms i.t.ds), .d (intsD i.M)]) h (fun i => rfl) fun i ν hp => ?_
  obtain ⟨t, M⟩ := i
  obtain ⟨ht, hM⟩ := hp
  dsimp only at ht hM ⊢
  refine ds_retO (do_call0 ?_)
  walk_at "de"
  refine dI_e (dI_indexL (dL_var rfl ⟨M, rfl, dI_minL (dL_var rfl ⟨M, rfl, by rw [hM]; exact Nat.two_pow_pos _, fun m hm hl => ?_⟩)⟩))
  obtain ⟨j, h1, h2⟩ := first_at hm
  refine ⟨j, h1, h2, ?_⟩
  have hj := lt_of_at h1
  walk_at "de"
  refine ⟨(t.rooms, j), rfl, ⟨ht.r1, by rw [← hM]; exact hj⟩, fun n s hs => ?_⟩
  obtain ⟨a, l, rfl, hl2⟩ := hs
  exact ⟨a, _, rfl, fun b => ⟨b, l, m, j, rfl, hl2, h1, hl⟩⟩
theorem ok_partsD {f : Addr} {fd : FuncData} (F : Fun K "parts" "parts" sParts f fd) (m_list : mg "list" = none) (m_range : mg "range" = none) (m_zip : mg "zip" = none) (m_sorted : mg "sorted" = none) (m_set : mg "set" = none) : FnG P w K mg base 1 f fd ["house", "counts"] (spPartsD K) := by
  have sc := scParts
  refine fnG_of F scParts (fun vs H Q E h => spD_len h fun i => rfl) (fun cdv A outer s H vs Q E hr hg h => ?_)
  refine ⟨_, (pss_cons (ps_asg (pv 0) (pg_tup (by rfl) (pgs_cons (pg_name (i := 2) sc.nd rfl (.inr rfl)) (pgs_cons (pg_name (i := 3) sc.nd rfl (.inl rfl)) pgs_nil))))
  (pss_cons (ps_set (i := 4) sc.nd rfl (.inr rfl) (pe_listRg (by rfl) (by rfl) m_list (prg_1 (by rfl) m_range (pv 2))))
  (pss_cons (ps_for PassesOwn.never rfl (pi_zip (by rfl) m_zip (pa_cons (pv 3) (pa_cons (pv 1) pa_nil))) (pg_tup (by rfl) (pgs_cons (pg_tup (by rfl) (pgs_cons (pg_name (i := 5) sc.nd rfl (.inl rfl)) (pgs_cons (pg_name (i := 6) sc.nd rfl (.inl rfl)) pgs_nil))) (pgs_cons (pg_name (i := 7) sc.nd rfl (.inl rfl)) pgs_nil)))
    (pss_one (ps_if (pt_cmpR op_gt (pv 7) pe_int (nomark _))
    (pss_cons (ps_asg (pe_callB cr_sorted (by rfl) m_sorted (by decide +kernel) (pa_cons (pe_lst (pa_cons (pe_ix ix_list (pv 4) (pv 5) (fun _ _ => rfl)) (pa_cons (pe_ix ix_list (pv 4) (pv 6) (fun _ _ => rfl)) pa_nil))) pa_nil)) (pg_unl (by rfl) (pgs_cons (pg_name (i := 8) sc.nd rfl (.inr rfl)) (pgs_cons (pg_name (i := 9) sc.nd rfl (.inr rfl)) pgs_nil))))
  (pss_one (ps_set (i := 4) sc.nd rfl (.inr rfl) (pe_lc (own := [("leader", 10)]) (g := gName 10) (tt := tYes) (by rfl) sc.nd  (pi_list (pv 4)) (blkOk_by (own := [("leader", 10)]) (N := ["house", "counts", "rooms", "doors", "leaders", "a", "b", "count", "low", "high", "leader", "first", "room"]) (sc := defScope sParts) (by decide +kernel)) (fun _ _ _ _ _ => (pg_name (i := 10) sc.nd rfl (.inl rfl))) (fun _ _ _ _ _ => pts_nil) (fun _ _ _ _ _ => (pe_ifExp (pt_cmpR op_eq (pv 10) (pv 9) (nomark _)) (pv 8) (pv 10)))))))
    pss_nil)))
  (pss_one (ps_ret (pe_lc (own := [("first", 11)]) (g := gName 11) (tt := tYes) (by rfl) sc.nd  (pi_list (pe_callB (cr_sortedSet rfl) (by rfl) m_sorted (by decide +kernel) (pa_cons (pe_callTy (call_setL rfl) (by rfl) m_set (by decide +kernel) (pa_cons (pv 4) pa_nil)) pa_nil))) (blkOk_by (own := [("first", 11)]) (N := ["house", "counts", "rooms", "doors", "leaders", "a", "b", "count", "low", "high", "leader", "first", "room"]) (sc := defScope sParts) (by decide +kernel)) (fun _ _ _ _ _ => (pg_name (i := 11) sc.nd rfl (.inr rfl))) (fun _ _ _ _ _ => pts_nil) (fun _ _ _ _ _ => (pe_lc (own := [("room", 12)]) (g := gName 12)  (by rfl) sc.nd  (pi_range1 (by rfl) m_range (pa_cons (pv 2) pa_nil)) (blkOk_by (own := [("room", 12)]) (N := ["house", "counts", "rooms", "doors", "leaders", "a", "b", "count", "low", "high", "leader", "first", "room"]) (sc := { kind := PySem.ScopeKind.function, names := [ (PySem.Str.ofString ".0", PySem.NameKind.local), (PySem.Str.ofString "first", PySem.NameKind.cell), (PySem.Str.ofString "range", PySem.NameKind.globalImplicit), (PySem.Str.ofString "leaders", PySem.NameKind.cell), (PySem.Str.ofString "rooms", PySem.NameKind.cell)], isGenerator := false, isCoroutine := false, more := [] : PySem.Scope }) (by decide +kernel)) (fun _ _ _ _ _ => (pg_name (i := 12) sc.nd rfl (.inl rfl))) (fun _ _ _ _ _ => (pts_one (pt_cmpR op_eq (pe_ix (ixK (rIxL K) ix_list) (pv 4) (pv 12) (fun _ _ => rfl)) (pv 11) (nomark _)))) (fun _ _ _ _ _ => (pv 12)))))))))), ?_⟩
  try dsimp only [cxOf, L2.Cx.nox]
  refine fn_ds (fun t : Hc => [.d (houseD t.rooms t.ds), .d (intsD t.C), .un, .un, .un, .un, .un, .un, .un, .un, .un, .un, .un]) h (fun i => rfl) fun t ν ht => ?_
  have hr1 := ht.r1
  have hzr : ∀ x ∈ t.z, x.1.1 < t.rooms ∧ x.1.2 < t.rooms := fun x hx => ⟨(ht.lt hx).1, (ht.lt hx).2.1⟩
  refine ds_seq (ds_asg (de_var rfl (dg_tup rfl ?_)))
  walk_at "dg"
  refine ds_seq (ds_set rfl (Do.de (do_lstRgN ?_)))
  walk_at "de"
  refine ⟨RgOk.of_le (by omega) (by omega) (by omega) (by omega), ?_⟩
  walk_at "nrm"
  rw [Int.toNat_natCast, ← lot_map]
  refine ds_seq (ds_fork ?_)
  walk_at "de"
  refine forN [5, 6, 7, 8, 9] dcD t.z (zipD_dc _ _) (fun i r => r = [.d (houseD t.rooms t.ds), .d (intsD t.C), .d (.int t.rooms), .d (doorsD t.ds), .d (lotD (leadL t.rooms (t.z.take i))), .un, .un, .un, .un, .un, .un, .un, .un]) rfl rfl (fun i x ν1 r0 ha hI => ?_) (fun ν2 ρ' hv hI => ?_)
  · subst hI
    have hx := ht.lt (List.mem_of_getElem? ha)
    have hL : Led t.rooms (t.z.take i) (leadL t.rooms (t.z.take i)) := led_all _ fun x hx => hzr x (List.mem_of_mem_take hx)
    have nx : leadL t.rooms (t.z.take (i + 1)) = leadStep (leadL t.rooms (t.z.take i)) x := by rw [take_snoc ha, leadL_snoc]
    rw [nx]
    generalize leadL t.rooms (t.z.take i) = L at hL ⊢
    obtain ⟨⟨a, b⟩, c⟩ := x
    dsimp only at hx
    have la : a < L.length := by rw [hL.len]; exact hx.1
    have lb : b < L.length := by rw [hL.len]; exact hx.2.1
    have gt : ∀ {r : Nat}, r < L.length → ((natsL L).map PyData.int)[r]? = some (.int (L.getD r 0 : Nat)) := fun {r} h => by
      rw [List.getElem?_map, natsL_at (r := L.getD r 0) (by rw [List.getD_eq_getElem?_getD, List.getElem?_eq_getElem h]; rfl)]; rfl
    dsimp only [dcD, pairD]
    walk_at "dg"
    refine ds_if ?_
    walk_at "de"
    refine ⟨fun e => ?_, fun e => ?_⟩
    · have hc : 0 < c := of_decide_eq_true e
      refine ds_seq (ds_asg (Do.de (do_sorted (dL_o (do_lst ?_)))))
      walk_at "de"
      refine ⟨_, atD_nat (gt la), ?_⟩
      walk_at "de"
      refine ⟨_, atD_nat (gt lb), ?_⟩
      walk_at "de"
      refine ⟨szd rfl, [(L.getD a 0 : Nat), (L.getD b 0 : Nat)], rfl, (by show 2 < 64; decide), fun zs pm pw => ?_⟩
      rw [sort_two pm pw]
      walk_at "nrm"
      walk_at "dg"
      refine ds_set rfl (Do.de (do_lck rfl ?_))
      walk_at "de"
      refine lcM (fun (r : Nat) => PyData.int (r : Int)) L (fun (v : Nat) => .int ((if v = max (L.getD a 0) (L.getD b 0) then min (L.getD a 0) (L.getD b 0) else v : Nat) : Int)) (szL (n := L.length) (by rw [hL.len]; omega)) (lot_map L) (fun v hv => ?_) ?_
      · walk_at "dg"
        walk_at "de"
        refine ⟨fun e3 => ?_, fun e3 => ?_⟩
        · have e4 : v = max (L.getD a 0) (L.getD b 0) := by have := of_decide_eq_true e3; omega
          walk_at "de"
          exact ⟨rfl, by rw [if_pos e4, show ((min (L.getD a 0) (L.getD b 0) : Nat) : Int) = min (L.getD a 0 : Int) (L.getD b 0 : Int) by omega]⟩
        · have e4 : ¬ v = max (L.getD a 0) (L.getD b 0) := fun z => by
            have := of_decide_eq_false e3
            omega
          walk_at "de"
          exact ⟨rfl, by rw [if_neg e4]⟩
      · walk_at "nrm"
        refine ⟨rfl, ?_⟩
        unfold leadStep
        rw [if_pos hc]
        unfold lotD relab
        rw [lot_map, List.map_map]; rfl
    · have hc : ¬ 0 < c := of_decide_eq_false e
      refine ds_next ⟨rfl, ?_⟩
      unfold leadStep
      rw [if_neg hc]; rfl
  · rw [List.take_of_length_le (Nat.le_refl _)] at hI
    refine ds_wipe [5, 6, 7, 8, 9] hv ?_
    rw [hI]
    have hL : Led t.rooms t.z (leadL t.rooms t.z) := led_all _ hzr
    have lm := led_mem hL
    have eP : partsL t.rooms t.z = (kindsL t.rooms (leadL t.rooms t.z)).map fun m => (List.range t.rooms).filter fun r => decide ((leadL t.rooms t.z).getD r 0 = m) := rfl
    rw [eP]
    generalize leadL t.rooms t.z = L at hL lm ⊢
    refine ds_retO (do_lck rfl (di_listL (dL_o (do_sset ?_))))
    walk_at "de"
    refine ⟨by rw [natsL_len, hL.len]; omega, fun zs rise mem => ?_⟩
    obtain rfl := kinds_eq lm rise mem
    have lk : (kindsL t.rooms L).length ≤ 50 := Nat.le_trans (List.length_filter_le _ _) (by rw [List.length_range]; omega)
    refine lcM (fun (r : Nat) => PyData.int (r : Int)) (kindsL t.rooms L) (fun m => lotD ((List.range t.rooms).filter fun r => decide (L.getD r 0 = m))) (szL (n := (kindsL t.rooms L).length) (by omega)) (lot_map _) (fun m hm => ?_) ?_
    · walk_at "dg"
      refine Do.de (do_lck rfl ?_)
      walk_at "de"
      refine ⟨by omega, by omega, ?_⟩
      rw [Int.toNat_natCast, rngD_map]
      refine lcF (fun (r : Nat) => PyData.int (r : Int)) (List.range t.rooms) (fun r => decide (L.getD r 0 = m)) (fun (r : Nat) => .int (r : Int)) (szL (n := (List.range t.rooms).length) (by rw [List.length_range]; omega)) rfl (fun r hr => ?_) ?_
      · have hr2 := List.mem_range.mp hr
        walk_at "dg"
        walk_at "de"
        refine ⟨_, atD_nat (by rw [List.getElem?_map, natsL_at (r := L.getD r 0) (by rw [List.getD_eq_getElem?_getD, List.getElem?_eq_getElem (by rw [hL.len]; exact hr2)]; rfl)]; rfl), ?_⟩
        walk_at "de"
        refine ⟨rfl, decide_eq_decide.mpr (by omega), fun _ => ?_⟩
        walk_at "de"
        exact ⟨rfl, rfl⟩
      · refine ⟨rfl, ?_⟩
        unfold lotD
        rw [lot_map]
    · intro a
      exact ⟨a, by rw [List.map_map]; rfl⟩
theorem ok_emptyPD {f : Addr} {fd : FuncData} (F : Fun K "_empty_parts" "_empty_parts" sEmptyParts f fd) (cal_parts : Cg P w K mg base 1 "parts" (spPartsD K)) (m_len : mg "len" = none) (m_any : mg "any" = none) : FnG P w K mg base 2 f fd ["house", "begin", "counts"] (spEmptyPD K) := by
  have sc := scEmptyParts
  refine fnG_of F scEmptyParts (fun vs H Q E h => spD_len h fun i => rfl) (fun cdv A outer s H vs Q E hr hg h => ?_)
  refine ⟨_, (pss_one (ps_ret (pe_lc (own := [("part", 3)]) (g := gName 3)  (by rfl) sc.nd  (pi_list (pe_g cal_parts hg hr (by first | decide | exact Nat.le_refl _ | omega) (by rfl) (pa_cons (pv 0) (pa_cons (pv 2) pa_nil)))) (blkOk_by (own := [("part", 3)]) (N := ["house", "begin", "counts", "part", "room"]) (sc := defScope sEmptyParts) (by decide +kernel)) (fun _ _ _ _ _ => (pg_name (i := 3) sc.nd rfl (.inl rfl))) (fun _ _ _ _ _ => (pts_one (PW.pt (pw_and (pt_cmpR op_gt (pe_callB (clK (rLenK K) call_len_seq) (by rfl) m_len PySem.boot_len (pa_cons (pv 3) pa_nil)) pe_int (nomark _)) (pw_and1 (pt_not (pt_val (pe_callB (clK (rAnyI K) (cr_anyI rfl)) (by rfl) m_any (by decide +kernel) (pa_cons (pe_lc (own := [("room", 4)]) (g := gName 4) (tt := tYes) (by rfl) sc.nd  (piK (iList K _) (pi_list (pv 3))) (blkOk_by (own := [("room", 4)]) (N := ["house", "begin", "counts", "part", "room"]) (sc := { kind := PySem.ScopeKind.function, names := [ (PySem.Str.ofString ".0", PySem.NameKind.local), (PySem.Str.ofString "part", PySem.NameKind.local), (PySem.Str.ofString "len", PySem.NameKind.globalImplicit), (PySem.Str.ofString "any", PySem.NameKind.globalImplicit), (PySem.Str.ofString "begin", PySem.NameKind.cell)], isGenerator := false, isCoroutine := false, more := [] : PySem.Scope }) (by decide +kernel)) (fun _ _ _ _ _ => (pg_name (i := 4) sc.nd rfl (.inl rfl))) (fun _ _ _ _ _ => pts_nil) (fun _ _ _ _ _ => (pe_ix (ixK (rIxL K) ix_list) (pv 1) (pv 4) (fun _ _ => rfl)))) pa_nil))))))))) (fun _ _ _ _ _ => (pv 3))))), ?_⟩
  try dsimp only [cxOf, L2.Cx.nox]
  refine fn_ds (fun i : Hb1 => [.d (houseD i.t.rooms i.t.ds), .d (intsD i.B), .d (intsD i.t.C), .un, .un]) h (fun i => rfl) fun i ν ok => ?_
  obtain ⟨t, B⟩ := i
  obtain ⟨ht, hB⟩ := ok
  dsimp only at ht hB ⊢
  have hr1 := ht.r1
  refine ds_retO (do_lck rfl (di_listL (dL_o (do_call0 ?_))))
  walk_at "de"
  refine ⟨ht, fun n s hs => ?_⟩
  obtain ⟨a, rfl⟩ := hs
  refine ⟨a, _, rfl, ?_⟩
  obtain ⟨pl, pm⟩ := parts_len (n := t.rooms) (z := t.z) (by omega)
  refine lcF lotD (partsL t.rooms t.z) (fun l => decide (1 < l.length) && !((l.map fun r => B.getD r 0).any fun i => i != 0)) lotD (szL (n := (partsL t.rooms t.z).length) (by omega)) rfl (fun l hl => ?_) ?_
  · have ll := pm l hl
    have lr : ∀ r ∈ l, r < t.rooms := fun r hr => by
      obtain ⟨m, h1, h2, e⟩ := lots_mem.mp (show l ∈ lotsOf t.rooms (leadL t.rooms t.z) from hl)
      rw [e] at hr
      exact (class_mem.mp hr).1
    walk_at "dg"
    refine dt_and ?_
    refine dt_tTest (dB_op0 (dI_lenKL ?_))
    walk_at "de"
    have el : decide (1 < (((natsL l).map PyData.int).length : Int)) = decide (1 < l.length) := decide_eq_decide.mpr (by rw [List.length_map, natsL_len]; omega)
    rw [el]
    refine ⟨fun e => ?_, fun e => ?_⟩
    · rw [e]
      refine dt_not (dt_tB (dB_anyI (dL_o (do_lck rfl ?_))))
      walk_at "de"
      refine lcM (fun (r : Nat) => PyData.int (r : Int)) l (fun r => .int (B.getD r 0)) (szL (n := l.length) (by omega)) (lot_map l) (fun r hr => ?_) ?_
      · walk_at "dg"
        walk_at "de"
        exact ⟨_, atD_nat (get_ints (by rw [hB]; exact lr r hr)), rfl, rfl⟩
      · refine ⟨l.map fun r => B.getD r 0, by rw [List.map_map]; rfl, rfl, rfl, fun _ => ?_⟩
        walk_at "de"
        exact ⟨rfl, rfl⟩
    · rw [e]
      exact ⟨rfl, rfl, fun z => (nomatch z)⟩
  · intro a
    exact ⟨a, rfl⟩
end
end Bd
namespace Bd
open PySem PySem.Spec PyProof.Rows L2 HT
abbrev sBetween : Stmt := topS 11
theorem scBetween : FnScope ["house", "counts", "rooms", "doors", "between", "a", "b", "count", "_"] ["house", "counts"] (defScope sBetween) := ⟨rfl, rfl, rfl, by decide +kernel, rfl, by decide +kernel, by decide +kernel⟩
structure Mat (H0 H : Hp) (n : Nat) (p : Addr) (qs : List Addr) (f : Nat → Nat → Int) : Prop where
  len : qs.length = n
  nd : qs.Nodup
  pn : p ∉ qs
  pf : H0 p = none
  fr : ∀ q ∈ qs, H0 q = none
  hp : H p = some (.lst (qs.map V.ref))
  row : ∀ i q, qs[i]? = some q → H q = some (.lst (((List.range n).map (f i)).map V.int))
theorem Mat.put {H0 H : Hp} {n : Nat} {p : Addr} {qs : List Addr} {f : Nat → Nat → Int} (m : Mat H0 H n p qs f) {a b : Nat} {q : Addr} {v : Int} (hq : qs[a]? = some q) (hb : b < n) : Mat H0 (upd H q (.lst ((((List.range n).map (f a)).map V.int).set b (.int v)))) n p qs fun i j => if i = a ∧ j = b then v else f i j where
  len := m.len
  nd := m.nd
  pn := m.pn
  pf := m.pf
  fr := m.fr
  hp := by
    rw [upd_ne (fun z => m.pn (by rw [z]; exact List.mem_of_getElem? hq))]; exact m.hp
  row := fun i q' e => by
    by_cases h : i = a
    · subst h
      have : q' = q := by rw [hq] at e; exact (Option.some.inj e).symm
      subst this
      rw [upd_same]
      congr 2
      apply List.ext_getElem?
      intro j
      rw [List.getElem?_set, List.getElem?_map, List.getElem?_map, List.getElem?_map, List.getElem?_map, List.length_map, List.length_map, List.length_range]
      by_cases hj : b = j
      · subst hj
        rw [if_pos rfl, if_pos hb, List.getElem?_range hb]
        show _ = some (V.int (if i = i ∧ b = b then v else f i b))
        rw [if_pos ⟨rfl, rfl⟩]
      · rw [if_neg hj]
        cases c : (List.range n)[j]? with
        | none => rfl
        | some k =>
          have hk : k = j := by
            have := lt_of_at c
            rw [List.length_range] at this
            rw [List.getElem?_range this] at c
            exact (Option.some.inj c).symm
          subst hk
          show some (V.int (f i k)) = some (V.int (if i = i ∧ k = b then v else f i k))
          rw [if_neg (fun z => hj z.2.symm)]
    · have ne : q' ≠ q := fun z => h (by
        subst z
        exact (List.getElem?_inj (lt_of_at e) m.nd).mp (e.trans hq.symm))
      rw [upd_ne ne, m.row i q' e]
      congr 4
      funext j
      rw [if_neg (fun z => h z.1)]
theorem Mat.new {H0 H : Hp} {n : Nat} {p : Addr} {qs : List Addr} {f : Nat → Nat → Int} (m : Mat H0 H n p qs f) {a : Addr} {o : HO} (h : H a = none) : Mat H0 (upd H a o) n p qs f where
  len := m.len
  nd := m.nd
  pn := m.pn
  pf := m.pf
  fr := m.fr
  hp := same_new h _ _ m.hp
  row := fun i q e => same_new h _ _ (m.row i q e)
theorem Mat.dd {K : PySem.W.Frag} {H0 H : Hp} {t : Hc} {p : Addr} {qs : List Addr} {S : List Addr} (m : Mat H0 H t.rooms p qs (btwAt t.z)) (h : ∀ a, H0 a = none → a ∉ S) : Dd K (hid S H) (.ref p) (btwD t) := by
  refine .lst (hid_of m.hp (h _ m.pf)) ?_
  have go : ∀ (is : List Nat) (q2 : List Addr), q2.length = is.length → (∀ k i q, is[k]? = some i → q2[k]? = some q → qs[i]? = some q) → Dds K (hid S H) (q2.map V.ref) (is.map fun a => intsD ((List.range t.rooms).map fun b => btwAt t.z a b)) := fun is => by
    induction is with
    | nil =>
      intro q2 hl hk
      cases q2 with
      | nil => exact .nil
      | cons q q2 => simp at hl
    | cons i is ih =>
      intro q2 hl hk
      cases q2 with
      | nil => simp at hl
      | cons q q2 =>
        have e := hk 0 i q rfl rfl
        refine .cons (.lst (hid_of (m.row i q e) (h _ (m.fr q (List.mem_of_getElem? e)))) (.ints _)) (ih q2 (by simpa using hl) fun k i' q' h1 h2 => hk (k + 1) i' q' h1 h2)
  refine go (List.range t.rooms) qs (by rw [List.length_range, m.len]) fun k i q h1 h2 => ?_
  have := lt_of_at h1
  rw [List.length_range] at this
  rw [List.getElem?_range this] at h1
  rw [← Option.some.inj h1]; exact h2
section
variable {P : Program} {w : World} {K : PySem.W.Frag} {mg : Str → Option Value} {base : Heap}
theorem ok_btwD {f : Addr} {fd : FuncData} (F : Fun K "_between" "_between" sBetween f fd) (m_range : mg "range" = none) (m_zip : mg "zip" = none) : FnG P w K mg base 1 f fd ["house", "counts"] (spBtwD K) := by
  have sc := scBetween
  refine fnG_of F scBetween (fun vs H Q E h => spD_len h fun i => rfl) (fun cdv A outer s H vs Q E hr hg h => ?_)
  refine ⟨_, (pss_cons (ps_asg (pv 0) (pg_tup (by rfl) (pgs_cons (pg_name (i := 2) sc.nd rfl (.inr rfl)) (pgs_cons (pg_name (i := 3) sc.nd rfl (.inl rfl)) pgs_nil))))
  (pss_cons (ps_setLc (i := 4) (own := [("_", 8)]) (g := gName 8) (tt := tYes) (by rfl) sc.nd rfl rfl (sw_true rfl rfl rfl (by decide +kernel)) (pi_range1 (by rfl) m_range (pa_cons (pv 2) pa_nil)) (blkOk_by (own := [("_", 8)]) (N := ["house", "counts", "rooms", "doors", "between", "a", "b", "count", "_"]) (sc := defScope sBetween) (by decide +kernel)) (fun _ _ _ _ _ => (pg_name (i := 8) sc.nd rfl (.inl rfl))) (fun _ _ _ _ _ => pts_nil) (fun _ _ _ _ _ => (pe_op op_rep (pe_lst (pa_cons pe_int pa_nil)) (pv 2))))
  (pss_cons (ps_for PassesOwn.never rfl (pi_zip (by rfl) m_zip (pa_cons (pv 3) (pa_cons (pv 1) pa_nil))) (pg_tup (by rfl) (pgs_cons (pg_tup (by rfl) (pgs_cons (pg_name (i := 5) sc.nd rfl (.inl rfl)) (pgs_cons (pg_name (i := 6) sc.nd rfl (.inl rfl)) pgs_nil))) (pgs_cons (pg_name (i := 7) sc.nd rfl (.inl rfl)) pgs_nil)))
    (pss_cons (ps_augS (pe_ix ix_list (pv 4) (pv 5) (fun _ _ => rfl)) (pv 6) get_list (pv 7) ip_add set_list)
  (pss_one (ps_augS (pe_ix ix_list (pv 4) (pv 6) (fun _ _ => rfl)) (pv 5) get_list (pv 7) ip_add set_list))))
  (pss_one (ps_ret (pv 4)))))), ?_⟩
  try dsimp only [cxOf, L2.Cx.nox]
  obtain ⟨t, ν, S, us, rfl, hJS, hal, hI, hG, hD, ht, q⟩ := h
  have ht : t.Ok := ht
  have hr1 := ht.r1
  have hd1 := ht.d1
  have hcl := ht.cl
  obtain ⟨vh, vc, rfl, dh, dc⟩ := hD.two
  obtain ⟨ah, ad, vs, rfl, t1, l1, a1⟩ := house_of (dh.dp)
  obtain ⟨ac, rfl, lc⟩ := dp_ints (dc.dp)
  have hvl : vs.length = t.ds.length := by rw [dps_len a1, List.length_map]
  have sH : Same (hid S H) H := hid_same
  have t1 := same_tup sH t1
  have l1 := sH.seq l1
  have lc := sH.seq lc
  refine ⟨_, rfl, ah, _, rfl, t1, rfl, _, _, rfl, _, _, rfl, rfl, ?_⟩
  refine ⟨_, rfl, _, rfl, by omega, by omega, fun D nD => ?_⟩
  refine lc_range (lo := 0) (n := t.rooms) (fun i H1 => Same H H1 ∧ ∃ qs : List Addr, H1 D = some (.lst (qs.map V.ref)) ∧ qs.length = i ∧ qs.Nodup ∧ D ∉ qs ∧ ∀ q ∈ qs, H q = none ∧ H1 q = some (.lst ((List.replicate t.rooms (0 : Int)).map V.int))) ⟨same_new nD, [], upd_same, rfl, List.nodup_nil, (by simp), fun q hq => (nomatch hq)⟩ ?_ ?_
  · rintro i H1 hi ⟨k1, qs, hD1, hl, nd, pn, hq⟩
    refine ⟨rfl, ?_⟩
    refine ⟨(by show 1 ≤ sizeLine; decide), fun p np => ?_⟩
    refine ⟨_, rfl, p, _, _, rfl, rfl, upd_same, by omega, by omega, ?_, fun R nR => ?_⟩
    · show 1 * (Int.toNat (t.rooms : Int)) ≤ sizeLine
      rw [Int.toNat_natCast, Nat.one_mul]
      exact Nat.le_of_lt (small1000 (by omega))
    have e0 : (List.replicate (Int.toNat (t.rooms : Int)) [V.int 0]).flatten = (List.replicate t.rooms (0 : Int)).map V.int := by
      rw [Int.toNat_natCast, flat_rep]
    rw [e0]
    have k2 : Same H1 (upd (upd H1 p (.lst [V.int 0])) R (.lst ((List.replicate t.rooms (0 : Int)).map V.int))) := (same_new np).trans (same_new nR)
    have hR : (upd (upd H1 p (.lst [V.int 0])) R (.lst ((List.replicate t.rooms (0 : Int)).map V.int))) R = some (.lst ((List.replicate t.rooms (0 : Int)).map V.int)) := upd_same
    have nR1 : H1 R = none := (same_new np).free nR
    generalize upd (upd H1 p (.lst [V.int 0])) R (.lst ((List.replicate t.rooms (0 : Int)).map V.int)) = H2 at k2 hR ⊢
    have neD : R ≠ D := ne_new hD1 nR1
    refine ⟨_, k2 _ _ hD1, ?_, fun b o z => ?_, qs ++ [R], ?_, by rw [List.length_append, hl]; rfl, ?_, ?_, ?_⟩
    · rw [List.length_map]; exact small1000 (by omega)
    · rw [upd_ne (ne_of_none z nD)]; exact k2 _ _ (k1 _ _ z)
    · rw [upd_same, List.map_append]; rfl
    · rw [List.nodup_append]
      refine ⟨nd, by simp, fun a ha b hb => ?_⟩
      rw [List.mem_singleton] at hb
      rw [hb]
      exact (ne_new (hq a ha).2 nR1).symm
    · rw [List.mem_append, List.mem_singleton]
      rintro (z | z)
      · exact pn z
      · exact neD z.symm
    · intro q hm
      rcases List.mem_append.mp hm with hm | hm
      · obtain ⟨h1, h2⟩ := hq q hm
        exact ⟨h1, by rw [upd_ne (fun z => pn (by rw [← z]; exact hm))]; exact k2 _ _ h2⟩
      · rw [List.mem_singleton] at hm
        rw [hm]
        exact ⟨k1.free nR1, by rw [upd_ne neD]; exact hR⟩
  · rintro H1 ⟨k1, qs, hD1, hl, nd, pn, hq⟩
    have m0 : Mat H H1 t.rooms D qs (btwAt []) := ⟨hl, nd, pn, nD, fun q hm => (hq q hm).1, hD1, fun i q e => by
      rw [(hq q (List.mem_of_getElem? e)).2]
      congr 3
      show _ = (List.range t.rooms).map fun _ => (0 : Int)
      rw [List.map_const', List.length_range]⟩
    refine ⟨_, rfl, _, rfl, ad, ac, vs, t.C.map V.int, rfl, k1.seq l1, k1.seq lc, RZ.for_zipL (K := K) (xs := vs) (ys := t.C.map V.int) (by rw [List.length_map]; omega)
      (fun i σ H1 => ∃ x1 x2 x3 x4, σ = [some (.ref ah), some (.ref ac), some (.int t.rooms), some (.ref ad), some (.ref D), x1, x2, x3, x4] ∧ Same H H1 ∧ Mat H H1 t.rooms D qs (btwAt (t.z.take i)))
      ⟨_, _, _, _, rfl, k1, m0⟩ (fun i σ H1 ⟨_, _, _, _, _, k, _⟩ => ⟨k.seq l1, k.seq lc⟩) ?_ ?_⟩
    · rintro i x y T σ H2 hx hy ⟨x1, x2, x3, x4, rfl, k2, m⟩ nT
      obtain ⟨d, pp, ed, rfl, tp⟩ := pairs_at a1 hx
      obtain ⟨c, rfl, ec⟩ := ints_at hy
      have tp := same_tup sH tp
      obtain ⟨ok1, ok2, ok3⟩ := ht.doors d (List.mem_of_getElem? ed)
      have hz : t.z[i]? = some (d, c) := zip_at ed ec
      have k3 : Same H (upd H2 T (.tup [.ref pp, .int c])) := k2.trans (same_new nT)
      have m1 : Mat H (upd H2 T (.tup [.ref pp, .int c])) t.rooms D qs (btwAt (t.z.take i)) := m.new nT
      refine ⟨T, _, rfl, .inl (.inl upd_same), rfl, _, _, rfl, pp, _, rfl, same_tup k3 tp, rfl, _, _, rfl, _, _, rfl, rfl, _, _, rfl, rfl, ?_⟩
      generalize upd H2 T (.tup [.ref pp, .int c]) = H3 at k3 m1 ⊢
      rw [take_snoc hz]
      generalize t.z.take i = z at m1 ⊢
      have la : d.1 < qs.length := by rw [m1.len]; exact ok1
      have lb : d.2 < qs.length := by rw [m1.len]; exact ok2
      obtain ⟨qa, ea⟩ : ∃ q, qs[d.1]? = some q := ⟨_, List.getElem?_eq_getElem la⟩
      obtain ⟨qb, eb⟩ : ∃ q, qs[d.2]? = some q := ⟨_, List.getElem?_eq_getElem lb⟩
      have at2 : ∀ {g : Nat → Nat → Int} {i j : Nat}, j < t.rooms → (((List.range t.rooms).map (g i)).map V.int)[j]? = some (.int (g i j)) := fun {g i j} h => by
        rw [List.getElem?_map, List.getElem?_map, List.getElem?_range h]; rfl
      refine ⟨_, rfl, _, rfl, _, _, _, _, rfl, rfl, .inl (.inl m1.hp), atI_nat (by rw [List.getElem?_map, ea]; rfl), _, rfl, qa, _, _, _, rfl, rfl, by omega, .inl (.inl (m1.row _ _ ea)), atI_nat (at2 ok2), _, rfl, _, _, rfl, rfl, qa, _, _, d.2, rfl, rfl, m1.row _ _ ea, ixN_nat (by rw [List.length_map, List.length_map, List.length_range]; exact ok2), ?_⟩
      have m2 := m1.put (v := btwAt z d.1 d.2 + c) ea ok2
      have k4 : Same H (upd H3 qa (.lst ((((List.range t.rooms).map (btwAt z d.1)).map V.int).set d.2 (.int (btwAt z d.1 d.2 + c))))) := fun b o e => by
        rw [upd_ne (fun z => by rw [z, m1.fr qa (List.mem_of_getElem? ea)] at e; cases e)]; exact k3 b o e
      dsimp only [List.set]
      generalize upd H3 qa (.lst ((((List.range t.rooms).map (btwAt z d.1)).map V.int).set d.2 (.int (btwAt z d.1 d.2 + c)))) = H4 at m2 k4 ⊢
      refine ⟨_, rfl, _, rfl, _, _, _, _, rfl, rfl, .inl (.inl m2.hp), atI_nat (by rw [List.getElem?_map, eb]; rfl), _, rfl, qb, _, _, _, rfl, rfl, by omega, .inl (.inl (m2.row _ _ eb)), atI_nat (at2 (g := fun i j => if i = d.1 ∧ j = d.2 then btwAt z d.1 d.2 + c else btwAt z i j) ok1), _, rfl, _, _, rfl, rfl, qb, _, _, d.1, rfl, rfl, m2.row _ _ eb, ixN_nat (by rw [List.length_map, List.length_map, List.length_range]; exact ok1), ?_⟩
      have m3 := m2.put (v := btwAt z d.2 d.1 + c) eb ok1
      refine ⟨_, _, _, _, rfl, fun b o e => ?_, ?_⟩
      · rw [upd_ne (fun z => by rw [z, m1.fr qb (List.mem_of_getElem? eb)] at e; cases e)]; exact k4 b o e
      · have ef : (btwAt (z ++ [(d, c)])) = fun i j => if i = d.2 ∧ j = d.1 then btwAt z d.2 d.1 + c else if i = d.1 ∧ j = d.2 then btwAt z d.1 d.2 + c else btwAt z i j := by
          funext i j
          unfold btwAt
          rw [List.map_append, List.sum_append]
          show _ + (btw1 (d, c) i j + 0) = _
          unfold btw1
          by_cases h1 : i = d.2 ∧ j = d.1
          · rw [if_pos h1, if_pos (.inr ⟨h1.2.symm, h1.1.symm⟩), h1.1, h1.2, Int.add_zero]
          · rw [if_neg h1]
            by_cases h2 : i = d.1 ∧ j = d.2
            · rw [if_pos h2, if_pos (.inl ⟨h2.1.symm, h2.2.symm⟩), h2.1, h2.2, Int.add_zero]
            · rw [if_neg h2, if_neg]
              · show _ + (0 + 0) = _
                omega
              · rintro (⟨a, b⟩ | ⟨a, b⟩)
                · exact h2 ⟨a.symm, b.symm⟩
                · exact h1 ⟨b.symm, a.symm⟩
        rw [ef]
        have e3 : (if d.2 = d.1 ∧ d.1 = d.2 then btwAt z d.1 d.2 + c else btwAt z d.2 d.1) = btwAt z d.2 d.1 := if_neg (fun z => ok3 z.2)
        rw [e3]
        exact m3
    · rintro σ H2 ⟨x1, x2, x3, x4, rfl, k2, m⟩
      refine ⟨_, rfl, ?_⟩
      rw [hvl, List.take_of_length_le (by rw [ht.zl]; exact Nat.le_refl _)] at m
      refine q ν _ _ _ rfl ⟨fun b o e => hid_of (k2 b o (of_hid e).1) (by simp [Wn, Wg]), trivial, ?_⟩
      have nS : ∀ a, H a = none → a ∉ S := fun a e z => by obtain ⟨o, e2⟩ := hal a z; rw [e] at e2; cases e2
      exact m.dd nS
end
end Bd
namespace Bd
open PySem PySem.Spec PyProof.Rows L2 HT
local macro_rules | `(tactic| walk_at "de1") => `(tactic| (with_reducible first
  | refine dI_var rfl ?_ | refine dI_c ?_ | refine dI_op0 ?_ | refine dI_op ?_ | refine dI_un ?_ | refine dI_ixO rfl ?_ | refine dI_ixT ?_ | refine dI_ixL ?_ | refine dI_if ?_ | refine dI_lenO rfl ?_ | refine dI_lenL ?_ | refine dI_abs ?_ | refine dI_two ?_ | refine dI_intB ?_
  | refine dB_var rfl ?_ | refine dB_c ?_ | refine dB_op0 ?_ | refine dB_eqI ?_ | refine dB_neI ?_ | refine dB_inI ?_ | refine dB_not ?_ | refine dB_and ?_ | refine dB_or ?_ | refine dB_chain ?_ | refine dB_eqD ?_ | refine dB_neD ?_ | refine dB_isi ?_
  | refine dL_var rfl ?_ | refine dL_ixO rfl ?_ | refine dL_ixT ?_ | refine dL_ixL ?_ | refine dL_o ?_
  | refine dT_var rfl ?_ | refine dT_ixL ?_ | refine dT_ixT ?_ | refine dT_tup ?_ | refine dT_slT ?_ | refine dT_catT ?_
  | refine de_var rfl ?_ | refine dX_ixO rfl ?_ | refine dX_ixT ?_ | refine dX_ixL ?_ | refine de_tup ?_ | refine de_c rfl ?_ | refine de_if ?_ | refine Do.de (do_lst ?_) | refine de_catTT ?_ | refine de_slTT ?_
  | refine dI_e (dI_op0 ?_) | refine dI_e (dI_op ?_) | refine dI_e (dI_un ?_) | refine dI_e (dI_lenO rfl ?_) | refine dI_e (dI_lenL ?_) | refine dI_e (dI_abs ?_) | refine dI_e (dI_two ?_) | refine dI_e (dI_intB ?_)
  | refine dB_e (dB_op0 ?_) | refine dB_e (dB_eqI ?_) | refine dB_e (dB_neI ?_) | refine dB_e (dB_inI ?_) | refine dB_e (dB_not ?_) | refine dB_e (dB_and ?_) | refine dB_e (dB_or ?_) | refine dB_e (dB_chain ?_) | refine dB_e (dB_eqD ?_) | refine dB_e (dB_neD ?_)
  | refine dt_tB ?_ | refine dt_tTest ?_ | refine dt_not ?_ | refine dt_and ?_ | refine dt_or ?_ | refine dt_yes ?_
  | refine da_nil ?_ | refine da_cons ?_ | refine dp_no ?_ | refine dp_partI ?_
  | refine di_rngI ?_ | refine di_listL ?_ | refine di_zipL ?_ | refine di_enumL ?_
  | refine do_lck rfl ?_ | refine do_lst ?_ | refine do_catL ?_ | refine do_slLL ?_ | refine do_revL ?_
  | refine dg_nm rfl ?_ | refine dg_name rfl (by simp) ?_ | refine dg_tup rfl ?_ | refine dgs_cons ?_ | refine dgs_nil ?_))
local macro_rules | `(tactic| walk_at "de") => `(tactic| (repeat (first | walk_at "de1" | (refine ⟨_, rfl, ?_⟩))))
local macro_rules | `(tactic| walk_at "nrm") => `(tactic| (try dsimp only [List.set, toD, wipeR, List.map, pairD, beadD, lookD]))

local macro_rules | `(tactic| walk_at "dg") => `(tactic| ((repeat (with_reducible first | refine dg_tup rfl ?_ | refine dg_unl rfl ?_ | refine dgs_cons ?_ | refine dgs_nil ?_ | refine dg_name rfl (by simp) ?_)); walk_at "nrm"))
/-! ### the law's pieces -/
def piecesL (t : Hc) : List (List Nat) := (partsL t.rooms t.z).filter fun l => decide (1 < l.length)
def spJoined (K : PySem.W.Frag) : Sp := spD (ι := Hc) K Wn [] Hc.arg (fun t _ => t.Ok) (fun t _ _ s => ∃ a, s = .own a ((natsL (leadL t.rooms t.z)).map .int))
def spPieces (K : PySem.W.Frag) : Sp := spD (ι := Hc) K Wn [] Hc.arg (fun t _ => t.Ok ∧ 0 < t.rooms) (fun t _ _ s => ∃ a, s = .own a ((piecesL t).map lotD))
theorem natsL_getD (M : List Nat) (a : Nat) : (natsL M).getD a 0 = (M.getD a 0 : Int) := by
  unfold natsL
  rw [List.getD_eq_getElem?_getD, List.getD_eq_getElem?_getD, List.getElem?_map]
  cases M[a]? <;> rfl
theorem natsL_set (M : List Nat) (a v : Nat) : (natsL M).set a (v : Int) = natsL (M.set a v) := by unfold natsL; rw [List.map_set]
theorem mark_len (x : Dc) (M : List Nat) : (markStep M x).length = M.length := by
  unfold markStep
  split
  · rw [List.length_set, List.length_set]
  · rfl
theorem marks_len (z : List Dc) : ∀ M : List Nat, (z.foldl markStep M).length = M.length := by
  induction z with
  | nil => intro M; rfl
  | cons x z ih => intro M; rw [List.foldl_cons, ih, mark_len]
theorem min_nat (i j : Nat) : (if (j : Int) < (i : Int) then (j : Int) else (i : Int)) = ((min i j : Nat) : Int) := by
  rw [Nat.min_def]
  split <;> split <;> omega
theorem pieces_open {t : Hc} {B : List Int} (hB : ∀ x ∈ B, 0 ≤ x) : emptyL t B = [] ↔ ∀ l ∈ piecesL t, sumM B l ≠ 0 := by
  unfold emptyL piecesL
  rw [List.filter_eq_nil_iff]
  constructor
  · intro h l hl
    obtain ⟨h1, h2⟩ := List.mem_filter.mp hl
    have := h l h1
    rw [none_there hB] at this
    intro e
    rw [h2, decide_eq_true e] at this
    exact this rfl
  · intro h l hl
    rw [none_there hB]
    intro e
    rw [Bool.and_eq_true] at e
    exact h l (List.mem_filter.mpr ⟨hl, e.1⟩) (of_decide_eq_true e.2)
section
variable {P : Program} {w : World} {K : PySem.W.Frag} {mg : Str → Option Value} {base : Heap}
theorem piece_lt {t : Hc} {l : List Nat} (h : l ∈ piecesL t) : l.length ≤ t.rooms ∧ ∀ r ∈ l, r < t.rooms := by
  obtain ⟨h1, _⟩ := List.mem_filter.mp h
  obtain ⟨m, _, _, rfl⟩ := lots_mem.mp h1
  refine ⟨?_, fun r hr => (class_mem.mp hr).1⟩
  have := List.length_filter_le (fun r => decide ((leadL t.rooms t.z).getD r 0 = m)) (List.range t.rooms)
  rw [List.length_range] at this
  exact this
end
end Bd
set_option maxHeartbeats 4000000
namespace Bd
open PySem PySem.Spec PyProof.Rows L2 HT
/-! sums over lots, and which counts can be an end -/
theorem sum_set : ∀ {F : List Int} {j : Nat} {c : Int}, j < F.length → (F.set j c).sum = F.sum - F.getD j 0 + c
  | [], j, c, h => by simp at h
  | x :: F, 0, c, _ => by
    show (c :: F).sum = _
    rw [List.sum_cons, List.sum_cons]
    show _ = x + F.sum - x + c
    omega
  | x :: F, j + 1, c, h => by
    have ih := sum_set (F := F) (j := j) (c := c) (by simpa using h)
    show (x :: F.set j c).sum = _
    rw [List.sum_cons, List.sum_cons, ih]
    show _ = x + F.sum - F.getD j 0 + c
    omega
theorem getD_set2 {F : List Int} {j i : Nat} {c : Int} (h : j < F.length) : (F.set j c).getD i 0 = if i = j then c else F.getD i 0 := by
  rw [List.getD_eq_getElem?_getD, List.getD_eq_getElem?_getD]
  by_cases e : i = j
  · subst e
    rw [List.getElem?_set_self h, if_pos rfl]; rfl
  · rw [List.getElem?_set_ne (fun z => e z.symm), if_neg e]
def lsum (l : List Int) (k : Nat) : Int := ssum l.length (fun i => l.getD i 0) k
theorem ext_getD {F G : List Int} (hl : F.length = G.length) (h : ∀ i, i < F.length → F.getD i 0 = G.getD i 0) : F = G := by
  apply List.ext_getElem?
  intro i
  by_cases c : i < F.length
  · rw [getD_some c, getD_some (F := G) (by omega), h i c]
  · rw [List.getElem?_eq_none (by omega), List.getElem?_eq_none (by omega)]
theorem cut_full {n : Nat} : ∀ {z : List Dc}, (∀ x ∈ z, x.1.1 < n ∧ x.1.2 < n) → cutv z (2 ^ n - 1) = 0
  | [], _ => rfl
  | x :: z, h => by
    have ih := cut_full (z := z) fun y hy => h y (List.mem_cons_of_mem _ hy)
    obtain ⟨h1, h2⟩ := h x List.mem_cons_self
    rw [cutv_cons, ih]
    unfold cut1
    rw [full_bit h1, full_bit h2]
    rfl
theorem ssum_all : ∀ {n : Nat} {x : Nat → Int} {k : Nat}, (∀ i, i < n → k.testBit i = true) → ssum n x k = ((List.range n).map x).sum
  | 0, _, _, _ => rfl
  | n + 1, x, k, h => by
    show ssum n x k + _ = _
    rw [ssum_all (n := n) fun i hi => h i (by omega), h n (by omega), List.range_succ, List.map_append, List.sum_append]
    simp
theorem lsum_full (l : List Int) : lsum l (2 ^ l.length - 1) = l.sum := by
  unfold lsum
  rw [ssum_all fun i hi => full_bit hi]
  have := mapR (A := l) (n := l.length) rfl (fun x => x)
  rw [List.map_id'] at this
  rw [← this]
theorem ssum_pos : ∀ {n : Nat} {x : Nat → Int} {k : Nat}, (∀ i, i < n → 0 ≤ x i) → 0 ≤ ssum n x k
  | 0, _, _, _ => Int.le_refl _
  | n + 1, x, k, h => by
    have h1 := ssum_pos (n := n) (k := k) fun i hi => h i (by omega)
    have h2 := h n (by omega)
    show 0 ≤ ssum n x k + _
    split <;> omega
def tabL (n : Nat) (f : Nat → Int) : List Int := (List.range (2 ^ n)).map f
theorem tab_len (n : Nat) (f : Nat → Int) : (tabL n f).length = 2 ^ n := by unfold tabL; rw [List.length_map, List.length_range]
theorem tab_at {n : Nat} {f : Nat → Int} {k : Nat} (h : k < 2 ^ n) : (tabL n f)[k]? = some (f k) := by
  unfold tabL
  rw [List.getElem?_map, List.getElem?_range h]; rfl
def maskP : Nat → (Nat → Bool) → Nat
  | 0, _ => 0
  | n + 1, p => if p n then maskP n p + 2 ^ n else maskP n p
theorem maskP_lt : ∀ (n : Nat) (p : Nat → Bool), maskP n p < 2 ^ n
  | 0, _ => Nat.one_pos
  | n + 1, p => by
    have := maskP_lt n p
    have e : 2 ^ (n + 1) = 2 ^ n + 2 ^ n := by rw [Nat.pow_succ]; omega
    show (if p n then maskP n p + 2 ^ n else maskP n p) < _
    split <;> omega
theorem maskP_bit : ∀ {n : Nat} {p : Nat → Bool} {i : Nat}, i < n → (maskP n p).testBit i = p i
  | 0, _, i, h => by omega
  | n + 1, p, i, h => by
    have hl := maskP_lt n p
    show (if p n then maskP n p + 2 ^ n else maskP n p).testBit i = _
    by_cases c : i < n
    · have ih := maskP_bit (p := p) c
      split
      · rw [add_bit c, ih]
      · exact ih
    · have e : i = n := by omega
      subst e
      split
      · rename_i h; rw [add_top hl, h]
      · rename_i h
        rw [bit_hi hl (Nat.le_refl _)]
        cases hp : p i with
        | true => exact absurd hp h
        | false => rfl
theorem ssum_ge : ∀ {n : Nat} {x : Nat → Int} {k r : Nat}, (∀ i, i < n → 0 ≤ x i) → r < n → k.testBit r = true → x r ≤ ssum n x k
  | 0, _, _, r, _, h, _ => by omega
  | n + 1, x, k, r, h0, h, hk => by
    show _ ≤ ssum n x k + _
    by_cases c : r < n
    · have ih := ssum_ge (fun i hi => h0 i (by omega)) c hk
      have := h0 n (by omega)
      split <;> omega
    · have e : r = n := by omega
      subst e
      have := ssum_pos (n := r) (k := k) fun i hi => h0 i (by omega)
      rw [if_pos hk]
      omega
theorem ssum_some : ∀ {n : Nat} {x : Nat → Int} {k : Nat}, ssum n x k ≠ 0 → ∃ r, r < n ∧ k.testBit r = true ∧ x r ≠ 0
  | 0, _, _, h => absurd rfl h
  | n + 1, x, k, h => by
    by_cases c : ssum n x k = 0
    · have h : ssum n x k + (if k.testBit n then x n else 0) ≠ 0 := h
      rw [c, Int.zero_add] at h
      refine ⟨n, Nat.lt_succ_self _, ?_, ?_⟩
      · cases e : k.testBit n with
        | true => rfl
        | false => rw [e] at h; simp at h
      · intro e; rw [e] at h; simp at h
    · obtain ⟨r, r1, r2, r3⟩ := ssum_some c
      exact ⟨r, by omega, r2, r3⟩
theorem met_nn {r : Nat} : ∀ {z : List Dc}, (∀ x ∈ z, 0 ≤ x.2) → 0 ≤ metAt z r
  | [], _ => Int.le_refl 0
  | x :: z, h => by
    have ih := met_nn (r := r) (z := z) fun y hy => h y (List.mem_cons_of_mem _ hy)
    have := h x List.mem_cons_self
    rw [met_cons]
    split <;> split <;> omega
theorem met_pos {r : Nat} : ∀ {z : List Dc}, (∀ x ∈ z, 0 ≤ x.2) → (0 < metAt z r ↔ ∃ x ∈ z, 0 < x.2 ∧ (x.1.1 = r ∨ x.1.2 = r))
  | [], _ => ⟨fun h => by have h : (0 : Int) < 0 := h; omega, fun ⟨x, hx, _⟩ => by cases hx⟩
  | x :: z, h => by
    have ih := met_pos (r := r) (z := z) fun y hy => h y (List.mem_cons_of_mem _ hy)
    have nn := met_nn (r := r) (z := z) fun y hy => h y (List.mem_cons_of_mem _ hy)
    have h0 := h x List.mem_cons_self
    rw [met_cons]
    constructor
    · intro hp
      by_cases c : 0 < metAt z r
      · obtain ⟨y, hy, q⟩ := ih.mp c
        exact ⟨y, List.mem_cons_of_mem _ hy, q⟩
      · refine ⟨x, List.mem_cons_self, ?_⟩
        by_cases c1 : x.1.1 = r
        · by_cases c2 : x.1.2 = r
          · rw [if_pos c1, if_pos c2] at hp
            exact ⟨by omega, .inl c1⟩
          · rw [if_pos c1, if_neg c2] at hp
            exact ⟨by omega, .inl c1⟩
        · by_cases c2 : x.1.2 = r
          · rw [if_neg c1, if_pos c2] at hp
            exact ⟨by omega, .inr c2⟩
          · rw [if_neg c1, if_neg c2] at hp
            omega
    · rintro ⟨y, hy, hp, q⟩
      rcases List.mem_cons.mp hy with rfl | hy
      · rcases q with q | q
        · rw [if_pos q]; split <;> omega
        · rw [if_pos q]; split <;> omega
      · have := ih.mpr ⟨y, hy, hp, q⟩
        split <;> split <;> omega
theorem cut_nn {k : Nat} : ∀ {z : List Dc}, (∀ x ∈ z, 0 ≤ x.2) → 0 ≤ cutv z k
  | [], _ => Int.le_refl 0
  | x :: z, h => by
    have ih := cut_nn (k := k) (z := z) fun y hy => h y (List.mem_cons_of_mem _ hy)
    have := h x List.mem_cons_self
    rw [cutv_cons]
    unfold cut1
    split <;> omega
theorem cut_resp {n k : Nat} {z : List Dc} (hz : ∀ x ∈ z, x.1.1 < n ∧ x.1.2 < n) (h0 : ∀ x ∈ z, 0 ≤ x.2) : cutv z k = 0 ↔ ∀ x ∈ z, 0 < x.2 → k.testBit x.1.1 = k.testBit x.1.2 := by
  rw [← leave_setL hz, leave_zero _ h0]
  unfold respB
  constructor
  · intro h x hx hp
    have := h x hx hp
    rw [mem_setL, mem_setL] at this
    obtain ⟨a, b⟩ := hz x hx
    cases e1 : k.testBit x.1.1 with
    | true => exact ((this.mp ⟨a, e1⟩).2).symm
    | false =>
      cases e2 : k.testBit x.1.2 with
      | false => rfl
      | true => have := (this.mpr ⟨b, e2⟩).2; rw [e1] at this; cases this
  · intro h x hx hp
    rw [mem_setL, mem_setL, h x hx hp]
    obtain ⟨a, b⟩ := hz x hx
    exact ⟨fun ⟨_, q⟩ => ⟨b, q⟩, fun ⟨_, q⟩ => ⟨a, q⟩⟩
theorem getD_mem {B : List Int} {r : Nat} (h : r < B.length) : B.getD r 0 ∈ B := by
  rw [List.getD_eq_getElem?_getD, List.getElem?_eq_getElem h]
  exact List.getElem_mem h
/-- each piece that is passed has somebody -/
theorem empty_iff {t : Hc} {B : List Int} (ok : t.Ok) (hc : ∀ x ∈ t.C, 0 ≤ x) (hB : B.length = t.rooms) (hb : ∀ x ∈ B, 0 ≤ x) : emptyL t B = [] ↔ ∀ k, k < 2 ^ t.rooms → cutv t.z k = 0 → ∀ i, i < t.rooms → k.testBit i = true → 0 < metAt t.z i → 0 < lsum B k := by
  have hz : ∀ x ∈ t.z, x.1.1 < t.rooms ∧ x.1.2 < t.rooms := fun x hx => ⟨(ok.lt hx).1, (ok.lt hx).2.1⟩
  have h0 : ∀ x ∈ t.z, 0 ≤ x.2 := fun x hx => hc _ (List.of_mem_zip (a := x.1) (b := x.2) hx).2
  have hL := led_all t.z hz
  have bn : ∀ i, i < t.rooms → 0 ≤ B.getD i 0 := fun i hi => hb _ (getD_mem (by omega))
  rw [pieces_open hb]
  constructor
  · intro h k hk hcut i hi hki hm
    obtain ⟨x, hx, hp, hxi⟩ := (met_pos h0).mp hm
    have hres := (cut_resp hz h0).mp hcut
    obtain ⟨x1, x2, x3⟩ := ok.lt hx
    have eq := hL.eq x hx hp
    have li : (leadL t.rooms t.z).getD x.1.1 0 = (leadL t.rooms t.z).getD i 0 ∧ (leadL t.rooms t.z).getD x.1.2 0 = (leadL t.rooms t.z).getD i 0 := by
      rcases hxi with e | e
      · rw [← e]; exact ⟨rfl, eq.symm⟩
      · rw [← e]; exact ⟨eq, rfl⟩
    have hl : classL t.rooms (leadL t.rooms t.z) ((leadL t.rooms t.z).getD i 0) ∈ piecesL t := by
      unfold piecesL
      refine List.mem_filter.mpr ⟨lots_mem.mpr ⟨_, led_lt hL hi, led_in hL hi, rfl⟩, decide_eq_true ?_⟩
      have m1 := class_mem.mpr ⟨x1, li.1⟩
      have m2 := class_mem.mpr ⟨x2, li.2⟩
      rcases e : classL t.rooms (leadL t.rooms t.z) ((leadL t.rooms t.z).getD i 0) with _ | ⟨a, _ | ⟨b, l⟩⟩
      · rw [e] at m1; cases m1
      · rw [e] at m1 m2
        have e1 := List.mem_singleton.mp m1
        have e2 := List.mem_singleton.mp m2
        exact absurd (e1.trans e2.symm) x3
      · show 1 < l.length + 1 + 1
        omega
    have hne := h _ hl
    have ⟨r, hr, hrb⟩ : ∃ r ∈ classL t.rooms (leadL t.rooms t.z) ((leadL t.rooms t.z).getD i 0), B.getD r 0 ≠ 0 := by
      refine Classical.byContradiction fun hn => hne ?_
      unfold sumM
      have : (classL t.rooms (leadL t.rooms t.z) ((leadL t.rooms t.z).getD i 0)).map (fun r => B.getD r 0) = (classL t.rooms (leadL t.rooms t.z) ((leadL t.rooms t.z).getD i 0)).map fun _ => (0 : Int) := List.map_congr_left fun r hr => Classical.byContradiction fun e => hn ⟨r, hr, e⟩
      rw [this, sum_zero']
    obtain ⟨r1, r2⟩ := class_mem.mp hr
    have hkr : k.testBit r = true := by
      have c := hL.con (fun r => k.testBit r = true) fun x hx hp => by rw [hres x hx hp]
      have a1 := (c i hi).mp hki
      rw [← r2] at a1
      exact (c r r1).mpr a1
    have g := ssum_ge bn r1 hkr
    have := bn r r1
    unfold lsum
    rw [hB]
    omega
  · intro h l hl
    obtain ⟨h1, h2⟩ := List.mem_filter.mp hl
    obtain ⟨m, m1, m2, rfl⟩ := lots_mem.mp h1
    have h2 := of_decide_eq_true h2
    have hk := maskP_lt t.rooms fun r => decide ((leadL t.rooms t.z).getD r 0 = m)
    have hcut : cutv t.z (maskP t.rooms fun r => decide ((leadL t.rooms t.z).getD r 0 = m)) = 0 := (cut_resp hz h0).mpr fun x hx hp => by
      obtain ⟨x1, x2⟩ := hz x hx
      rw [maskP_bit x1, maskP_bit x2, hL.eq x hx hp]
    obtain ⟨a, b, rest, e⟩ : ∃ a b rest, classL t.rooms (leadL t.rooms t.z) m = a :: b :: rest := by
      rcases e : classL t.rooms (leadL t.rooms t.z) m with _ | ⟨a, _ | ⟨b, l⟩⟩
      · rw [e] at h2; exact absurd h2 (by decide)
      · rw [e] at h2
        have h2 : 1 < 1 := h2
        omega
      · exact ⟨a, b, l, rfl⟩
    have nd : (classL t.rooms (leadL t.rooms t.z) m).Nodup := List.nodup_range.filter _
    rw [e] at nd
    have ab : a ≠ b := fun z => (List.nodup_cons.mp nd).1 (by rw [z]; exact List.mem_cons_self)
    obtain ⟨a1, a2⟩ := class_mem.mp (by rw [e]; exact List.mem_cons_self : a ∈ classL t.rooms (leadL t.rooms t.z) m)
    obtain ⟨b1, b2⟩ := class_mem.mp (by rw [e]; exact List.mem_cons_of_mem _ List.mem_cons_self : b ∈ classL t.rooms (leadL t.rooms t.z) m)
    have hm : 0 < metAt t.z a := by
      refine Classical.byContradiction fun hn => ab ?_
      have no : ∀ x ∈ t.z, 0 < x.2 → x.1.1 ≠ a ∧ x.1.2 ≠ a := fun x hx hp => ⟨fun e => hn ((met_pos h0).mpr ⟨x, hx, hp, .inl e⟩), fun e => hn ((met_pos h0).mpr ⟨x, hx, hp, .inr e⟩)⟩
      have c := hL.con (fun r => r = a) fun x hx hp => ⟨fun e => absurd e (no x hx hp).1, fun e => absurd e (no x hx hp).2⟩
      have c1 := (c a a1).mp rfl
      rw [a2, ← b2] at c1
      exact ((c b b1).mpr c1).symm
    have hs := h _ hk hcut a a1 (by rw [maskP_bit a1]; exact decide_eq_true a2) hm
    unfold lsum at hs
    rw [hB, ← sum_setL] at hs
    have es : setL t.rooms (maskP t.rooms fun r => decide ((leadL t.rooms t.z).getD r 0 = m)) = classL t.rooms (leadL t.rooms t.z) m := by
      unfold setL classL
      exact List.filter_congr fun r hr => maskP_bit (List.mem_range.mp hr)
    rw [es] at hs
    omega
theorem one_bit (j i : Nat) : (2 ^ j).testBit i = decide (j = i) := Nat.testBit_two_pow
theorem cut_bes {n k : Nat} (hk : k < 2 ^ n) : ∀ {z : List Dc}, (∀ x ∈ z, x.1.1 < n ∧ x.1.2 < n) → cutv z (besK n k) = cutv z k
  | [], _ => rfl
  | x :: z, h => by
    have ih := cut_bes hk (z := z) fun y hy => h y (List.mem_cons_of_mem _ hy)
    obtain ⟨h1, h2⟩ := h x List.mem_cons_self
    rw [cutv_cons, cutv_cons, ih]
    unfold cut1
    rw [bes_bit hk, bes_bit hk, decide_eq_true h1, decide_eq_true h2]
    cases k.testBit x.1.1 <;> cases k.testBit x.1.2 <;> rfl
theorem lsum_set {l : List Int} {r : Nat} {v : Int} (hr : r < l.length) (k : Nat) : lsum (l.set r v) k = lsum l k + if k.testBit r then v - l.getD r 0 else 0 := by
  unfold lsum
  rw [List.length_set, ← ssum_unit l.length r (v - l.getD r 0) k hr, ← ssum_add]
  refine ssum_congr fun i hi => ?_
  rw [getD_set2 hr]
  unfold unit
  split <;> rename_i c
  · rw [c]; omega
  · omega
theorem ssum_bitA {i : Nat} (x : Nat → Int) : ∀ {n : Nat}, i < n → ssum n x (2 ^ i) = x i
  | 0, h => by omega
  | n + 1, h => by
    show ssum n x (2 ^ i) + (if (2 ^ i).testBit n then x n else 0) = x i
    by_cases c : i < n
    · rw [ssum_bitA x c, Nat.testBit_two_pow_of_ne (by omega)]
      simp
    · have e : i = n := by omega
      subst e
      rw [Nat.testBit_two_pow_self]
      have z : ssum i x (2 ^ i) = ssum i x 0 := ssum_bits fun j hj => by rw [Nat.testBit_two_pow_of_ne (by omega), Nat.zero_testBit]
      rw [z, ssum_zero]; simp
theorem ssum_only : ∀ {n : Nat} {x y : Nat → Int} {k : Nat}, (∀ r, r < n → k.testBit r = true → x r = y r) → ssum n x k = ssum n y k
  | 0, _, _, _, _ => rfl
  | n + 1, x, y, k, h => by
    have ih := ssum_only (n := n) (k := k) fun r hr => h r (by omega)
    show ssum n x k + _ = ssum n y k + _
    rw [ih]
    cases c : k.testBit n with
    | false => rfl
    | true => rw [if_pos rfl, if_pos rfl, h n (by omega) c]
def slk (t : Hc) (B E : List Int) (k : Nat) : Int := lsum B k + cutv t.z k - lsum E k
end Bd
set_option maxHeartbeats 4000000
namespace Bd
open PySem PySem.Spec PyProof.Rows L2 HT
local macro_rules | `(tactic| walk_at "de1") => `(tactic| (with_reducible first
  | refine dI_var rfl ?_ | refine dI_c ?_ | refine dI_op0 ?_ | refine dI_op ?_ | refine dI_un ?_ | refine dI_ixO rfl ?_ | refine dI_ixT ?_ | refine dI_ixL ?_ | refine dI_if ?_ | refine dI_lenO rfl ?_ | refine dI_lenL ?_ | refine dI_abs ?_ | refine dI_two ?_ | refine dI_intB ?_
  | refine dB_var rfl ?_ | refine dB_c ?_ | refine dB_op0 ?_ | refine dB_eqI ?_ | refine dB_neI ?_ | refine dB_inI ?_ | refine dB_not ?_ | refine dB_and ?_ | refine dB_or ?_ | refine dB_chain ?_ | refine dB_eqD ?_ | refine dB_neD ?_ | refine dB_isi ?_
  | refine dL_var rfl ?_ | refine dL_ixO rfl ?_ | refine dL_ixT ?_ | refine dL_ixL ?_ | refine dL_o ?_
  | refine dT_var rfl ?_ | refine dT_ixL ?_ | refine dT_ixT ?_ | refine dT_tup ?_ | refine dT_slT ?_ | refine dT_catT ?_
  | refine de_var rfl ?_ | refine dX_ixO rfl ?_ | refine dX_ixT ?_ | refine dX_ixL ?_ | refine de_tup ?_ | refine de_c rfl ?_ | refine de_if ?_ | refine Do.de (do_lst ?_) | refine de_catTT ?_ | refine de_slTT ?_
  | refine dI_e (dI_op0 ?_) | refine dI_e (dI_op ?_) | refine dI_e (dI_un ?_) | refine dI_e (dI_lenO rfl ?_) | refine dI_e (dI_lenL ?_) | refine dI_e (dI_abs ?_) | refine dI_e (dI_two ?_) | refine dI_e (dI_intB ?_)
  | refine dB_e (dB_op0 ?_) | refine dB_e (dB_eqI ?_) | refine dB_e (dB_neI ?_) | refine dB_e (dB_inI ?_) | refine dB_e (dB_not ?_) | refine dB_e (dB_and ?_) | refine dB_e (dB_or ?_) | refine dB_e (dB_chain ?_) | refine dB_e (dB_eqD ?_) | refine dB_e (dB_neD ?_)
  | refine dt_tB ?_ | refine dt_tTest ?_ | refine dt_not ?_ | refine dt_and ?_ | refine dt_or ?_ | refine dt_yes ?_
  | refine da_nil ?_ | refine da_cons ?_ | refine dp_no ?_ | refine dp_partI ?_
  | refine di_rngI ?_ | refine di_listL ?_ | refine di_zipL ?_ | refine di_enumL ?_
  | refine do_lck rfl ?_ | refine do_lst ?_ | refine do_catL ?_ | refine do_slLL ?_ | refine do_revL ?_
  | refine dg_nm rfl ?_ | refine dg_name rfl (by simp) ?_ | refine dg_tup rfl ?_ | refine dgs_cons ?_ | refine dgs_nil ?_))
local macro_rules | `(tactic| walk_at "de") => `(tactic| (repeat (first | walk_at "de1" | (refine ⟨_, rfl, ?_⟩))))
local macro_rules | `(tactic| walk_at "nrm") => `(tactic| (try dsimp only [List.set, toD, wipeR, List.map, pairD, beadD, lookD]))

local macro_rules | `(tactic| walk_at "dg") => `(tactic| ((repeat (with_reducible first | refine dg_tup rfl ?_ | refine dg_unl rfl ?_ | refine dgs_cons ?_ | refine dgs_nil ?_ | refine dg_name rfl (by simp) ?_)); walk_at "nrm"))
abbrev sOddRooms : Stmt := topS 14
theorem scOddRooms : FnScope ["house", "begin", "counts", "end", "room", "odd"] ["house", "begin", "counts", "end"] (defScope sOddRooms) := ⟨rfl, rfl, rfl, by decide +kernel, rfl, by decide +kernel, by decide +kernel⟩
abbrev sPaperOf : Stmt := topS 13
theorem scPaperOf : FnScope ["house", "begin", "counts", "end", "below", "odd", "empty", "sums", "room", "had", "has"] ["house", "begin", "counts", "end"] (defScope sPaperOf) := ⟨rfl, rfl, rfl, by decide +kernel, rfl, by decide +kernel, by decide +kernel⟩
structure Rt21 (i : Hb1) : Prop where
  ok : i.Ok
  c : ∀ x ∈ i.t.C, 0 ≤ x
  b : ∀ x ∈ i.B, 0 ≤ x
theorem Rt21.z {i : Hb1} (h : Rt21 i) : ∀ x ∈ i.t.z, x.1.1 < i.t.rooms ∧ x.1.2 < i.t.rooms := fun x hx => ⟨(h.ok.t.lt hx).1, (h.ok.t.lt hx).2.1⟩
theorem Rt21.z0 {i : Hb1} (h : Rt21 i) : ∀ x ∈ i.t.z, 0 ≤ x.2 := fun x hx => h.c _ (List.of_mem_zip (a := x.1) (b := x.2) hx).2
/-- what counts can be an end -/
structure EndC (t : Hc) (B E : List Int) : Prop where
  s : B.sum = E.sum
  n : ∀ r, r < t.rooms → 0 ≤ E.getD r 0
  o : ∀ r, r < t.rooms → (E.getD r 0 - oddAt t B r) % 2 = 0
  e : emptyL t B = []
  k : ∀ k, k < 2 ^ t.rooms → 0 ≤ slk t B E k
theorem paper_iff {t : Hc} {B E : List Int} : EndC t B E ↔ B.sum = E.sum ∧ (∀ r, r < t.rooms → 0 ≤ E.getD r 0) ∧ oddR t B E = [] ∧ emptyL t B = [] ∧ ∀ k, k < 2 ^ t.rooms → 0 ≤ slk t B E k := by
  have odd : oddR t B E = [] ↔ ∀ r, r < t.rooms → (E.getD r 0 - oddAt t B r) % 2 = 0 := by
    unfold oddR
    rw [List.filter_eq_nil_iff]
    constructor
    · intro q r hr
      have := q r (List.mem_range.mpr hr)
      have : ¬ (B.getD r 0 + E.getD r 0 + metAt t.z r) % 2 = 1 := fun z => this (decide_eq_true z)
      unfold oddAt
      omega
    · intro q r hr z
      have z := of_decide_eq_true z
      have := q r (List.mem_range.mp hr)
      unfold oddAt at this
      omega
  exact ⟨fun h => ⟨h.s, h.n, odd.mpr h.o, h.e, h.k⟩, fun ⟨a, b, c, d, e⟩ => ⟨a, b, odd.mp c, d, e⟩⟩
def spPaper (K : PySem.W.Frag) : Sp := spD (ι := He1) K Wn [] He1.arg (fun i _ => Rt21 ⟨i.t, i.B⟩ ∧ i.E.length = i.t.rooms) (fun i _ _ s => ∃ pd, s = .d pd ∧ (isNoD pd = true ↔ EndC i.t i.B i.E))
section
variable {P : Program} {w : World} {K : PySem.W.Frag} {mg : Str → Option Value} {base : Heap}
theorem ok_oddRD {f : Addr} {fd : FuncData} (F : Fun K "_odd_rooms" "_odd_rooms" sOddRooms f fd) (cal_odd_ones : Cg P w K mg base 2 "odd_ones" (spOddD K)) (m_enumerate : mg "enumerate" = none) : FnG P w K mg base 3 f fd ["house", "begin", "counts", "end"] (spOddRD K) := by
  have sc := scOddRooms
  refine fnG_of F scOddRooms (fun vs H Q E h => spD_len h fun i => rfl) (fun cdv A outer s H vs Q E hr hg h => ?_)
  refine ⟨_, (pss_one (ps_ret (pe_lc (own := [("room", 4), ("odd", 5)]) (g := gTup K 2 (gCons (gName 4) (gCons (gName 5) gNil)))  (by rfl) sc.nd  (pi_enum (by rfl) m_enumerate (pa_cons (pe_g cal_odd_ones hg hr (by first | decide | exact Nat.le_refl _ | omega) (by rfl) (pa_cons (pv 0) (pa_cons (pv 1) (pa_cons (pv 2) pa_nil)))) pa_nil)) (blkOk_by (own := [("room", 4), ("odd", 5)]) (N := ["house", "begin", "counts", "end", "room", "odd"]) (sc := defScope sOddRooms) (by decide +kernel)) (fun _ _ _ _ _ => (pg_tup (by rfl) (pgs_cons (pg_name (i := 4) sc.nd rfl (.inl rfl)) (pgs_cons (pg_name (i := 5) sc.nd rfl (.inl rfl)) pgs_nil)))) (fun _ _ _ _ _ => (pts_one (pt_cmpR op_eq (pe_op op_mod (pe_op op_add (pe_ix (ixK (rIxL K) ix_list) (pv 3) (pv 4) (fun _ _ => rfl)) (pv 5)) pe_int) pe_int (nomark _)))) (fun _ _ _ _ _ => (pv 4))))), ?_⟩
  try dsimp only [cxOf, L2.Cx.nox]
  refine fn_ds (fun i : He1 => [.d (houseD i.t.rooms i.t.ds), .d (intsD i.B), .d (intsD i.t.C), .d (intsD i.E), .un, .un]) h (fun i => rfl) fun i ν ok => ?_
  obtain ⟨t, B, E⟩ := i
  obtain ⟨ht, hB, hE⟩ := ok
  dsimp only at ht hB hE ⊢
  have hr1 := ht.r1
  refine ds_ret (Do.de (do_lck rfl (di_enumL (dL_o (do_call0 ?_)))))
  walk_at "de"
  refine ⟨⟨t, B⟩, rfl, ⟨ht, hB⟩, fun n s hs => ?_⟩
  obtain ⟨a, rfl⟩ := hs
  refine ⟨a, _, rfl, ?_⟩
  refine lcF (fun (i : Nat) => PyData.tuple [.int (i : Int), .int ((oddL t B).getD i 0)]) (List.range t.rooms) (fun r => decide ((B.getD r 0 + E.getD r 0 + metAt t.z r) % 2 = 1)) (fun (r : Nat) => .int (r : Int)) (szL (by rw [List.length_range]; omega)) (enumR (by unfold oddL; rw [List.length_map, List.length_range])) (fun r hr => ?_) ?_
  · have hr2 := List.mem_range.mp hr
    walk_at "dg"
    walk_at "de"
    refine ⟨_, atD_nat (get_ints (by omega)), ?_⟩
    walk_at "de"
    refine ⟨by decide, ?_⟩
    walk_at "de"
    refine ⟨rfl, ?_, fun _ => ?_⟩
    · apply decide_eq_decide.mpr
      unfold oddL
      rw [getD_range hr2]
      unfold oddAt
      omega
    · walk_at "de"
      exact ⟨rfl, rfl⟩
  · show Sl.d (.list _) = .d (lotD _)
    unfold lotD
    rw [lot_map]; rfl
theorem diff_two {n : Nat} {B E : List Int} (hB : B.length = n) (hE : E.length = n) : (B.zip E).map (fun p => p.1 - p.2) = (List.range n).map fun i => B.getD i 0 - E.getD i 0 := by
  apply List.ext_getElem?
  intro i
  rw [List.getElem?_map, List.getElem?_map]
  by_cases h : i < n
  · rw [List.getElem?_range h]
    have : (B.zip E)[i]? = some (B.getD i 0, E.getD i 0) := List.getElem?_zip_eq_some.mpr ⟨getD_some (by omega), getD_some (by omega)⟩
    rw [this]; rfl
  · rw [List.getElem?_eq_none (by rw [List.length_zip]; omega), List.getElem?_eq_none (by rw [List.length_range]; omega)]
    rfl
theorem ok_paper {f : Addr} {fd : FuncData} (F : Fun K "paper_of" "paper_of" sPaperOf f fd) (cal_odd_rooms : Cg P w K mg base 3 "_odd_rooms" (spOddRD K)) (cal_empty_parts : Cg P w K mg base 2 "_empty_parts" (spEmptyPD K)) (cal_lot_sums : Cg P w K mg base 2 "lot_sums" (spSumsD K)) (cal_first_least : Cg P w K mg base 2 "_first_least" (spFirstD K)) (m_sum : mg "sum" = none) (m_range : mg "range" = none) (m_zip : mg "zip" = none) (m_min : mg "min" = none) : FnG P w K mg base 4 f fd ["house", "begin", "counts", "end"] (spPaper K) := by
  have sc := scPaperOf
  refine fnG_of F scPaperOf (fun vs H Q E h => spD_len h fun i => rfl) (fun cdv A outer s H vs Q E hr hg h => ?_)
  refine ⟨_, (pss_cons (ps_if (pt_cmpR op_ne (pe_callB (cr_sum rfl) (by rfl) m_sum (by decide +kernel) (pa_cons (pv 1) pa_nil)) (pe_callB (cr_sum rfl) (by rfl) m_sum (by decide +kernel) (pa_cons (pv 3) pa_nil)) (nomark _))
    (pss_one (ps_ret (pe_tup (pa_cons pe_str pa_nil))))
    pss_nil)
  (pss_cons (ps_setLc (i := 4) (own := [("room", 8)]) (g := gName 8)  (by rfl) sc.nd rfl rfl (sw_true rfl rfl rfl (by decide +kernel)) (pi_range1 (by rfl) m_range (pa_cons (pe_ix ix_tup (pv 0) pe_int (fun _ _ => rfl)) pa_nil)) (blkOk_by (own := [("room", 8)]) (N := ["house", "begin", "counts", "end", "below", "odd", "empty", "sums", "room", "had", "has"]) (sc := defScope sPaperOf) (by decide +kernel)) (fun _ _ _ _ _ => (pg_name (i := 8) sc.nd rfl (.inl rfl))) (fun _ _ _ _ _ => (pts_one (pt_cmpR op_lt (pe_ix (ixK (rIxL K) ix_list) (pv 3) (pv 8) (fun _ _ => rfl)) pe_int (nomark _)))) (fun _ _ _ _ _ => (pv 8)))
  (pss_cons (ps_if (pt_tru rfl (pv 4) (by intro _; rfl))
    (pss_one (ps_ret (pe_tup (pa_cons pe_str (pa_cons (pe_ix ix_list (pv 4) pe_int (fun _ _ => rfl)) pa_nil)))))
    pss_nil)
  (pss_cons (ps_set (i := 5) sc.nd rfl (.inl rfl) (pe_g cal_odd_rooms hg hr (by first | decide | exact Nat.le_refl _ | omega) (by rfl) (pa_cons (pv 0) (pa_cons (pv 1) (pa_cons (pv 2) (pa_cons (pv 3) pa_nil))))))
  (pss_cons (ps_if (pt_tru rfl (pv 5) (by intro _; rfl))
    (pss_one (ps_ret (pe_tup (pa_cons pe_str (pa_cons (pe_ix ix_list (pv 5) pe_int (fun _ _ => rfl)) pa_nil)))))
    pss_nil)
  (pss_cons (ps_set (i := 6) sc.nd rfl (.inl rfl) (pe_g cal_empty_parts hg hr (by first | decide | exact Nat.le_refl _ | omega) (by rfl) (pa_cons (pv 0) (pa_cons (pv 1) (pa_cons (pv 2) pa_nil)))))
  (pss_cons (ps_if (pt_tru rfl (pv 6) (by intro _; rfl))
    (pss_one (ps_ret (pe_tup (pa_cons pe_str (pa_cons (pe_ix ix_list (pv 6) pe_int (fun _ _ => rfl)) pa_nil)))))
    pss_nil)
  (pss_cons (ps_set (i := 7) sc.nd rfl (.inl rfl) (pe_g cal_lot_sums hg hr (by first | decide | exact Nat.le_refl _ | omega) (by rfl) (pa_cons (pv 0) (pa_cons (pv 2) (pa_cons (pe_lc (own := [("had", 9), ("has", 10)]) (g := gTup K 2 (gCons (gName 9) (gCons (gName 10) gNil))) (tt := tYes) (by rfl) sc.nd  (pi_zip (by rfl) m_zip (pa_cons (pv 1) (pa_cons (pv 3) pa_nil))) (blkOk_by (own := [("had", 9), ("has", 10)]) (N := ["house", "begin", "counts", "end", "below", "odd", "empty", "sums", "room", "had", "has"]) (sc := defScope sPaperOf) (by decide +kernel)) (fun _ _ _ _ _ => (pg_tup (by rfl) (pgs_cons (pg_name (i := 9) sc.nd rfl (.inl rfl)) (pgs_cons (pg_name (i := 10) sc.nd rfl (.inl rfl)) pgs_nil)))) (fun _ _ _ _ _ => pts_nil) (fun _ _ _ _ _ => (pe_op op_sub (pv 9) (pv 10)))) pa_nil)))))
  (pss_one (ps_ret (pe_ifExp (pt_cmpR op_lt (pe_callB (cr_min rfl) (by rfl) m_min (by decide +kernel) (pa_cons (pv 7) pa_nil)) pe_int (nomark _)) (pe_tup (pa_cons pe_str (pa_cons (pe_g cal_first_least hg hr (by first | decide | exact Nat.le_refl _ | omega) (by rfl) (pa_cons (pv 0) (pa_cons (pv 7) pa_nil))) pa_nil))) pe_non))))))))))), ?_⟩
  try dsimp only [cxOf, L2.Cx.nox]
  refine fn_ds (fun i : He1 => [.d (houseD i.t.rooms i.t.ds), .d (intsD i.B), .d (intsD i.t.C), .d (intsD i.E), .un, .un, .un, .un, .un, .un, .un]) h (fun i => rfl) fun i ν hi => ?_
  obtain ⟨t, B, E⟩ := i
  obtain ⟨R, hE⟩ := hi
  dsimp only at R hE ⊢
  have ht : t.Ok := R.ok.t
  have hb : B.length = t.rooms := R.ok.b
  have hr1 := ht.r1
  have pi := paper_iff (t := t) (B := B) (E := E)
  refine ds_seq (ds_if (dt_tTest (dB_neI (dI_sumL (dL_var rfl ⟨B, rfl, dI_sumL (dL_var rfl ⟨E, rfl, ?_⟩)⟩)))))
  refine ⟨fun e => ?_, fun e => ds_next ?_⟩
  · have e' : B.sum ≠ E.sum := by simpa using e
    refine ds_ret (de_tup (da_cons (de_c rfl (da_nil ⟨szd rfl, _, rfl, ⟨fun z => (nomatch z), fun q => absurd (pi.mp q).1 e'⟩⟩))))
  have hsum : B.sum = E.sum := by simpa using e
  -- below
  refine ds_seq (ds_set rfl (Do.de (do_lck rfl (di_rngI (dI_ixT (dT_var rfl (dI_c ⟨(t.rooms : Int), rfl, by omega, by omega, ?_⟩)))))))
  rw [Int.toNat_natCast, rngD_map]
  refine lcF (fun (r : Nat) => PyData.int (r : Int)) (List.range t.rooms) (fun r => decide (E.getD r 0 < 0)) (fun (r : Nat) => PyData.int (r : Int)) (szL (by rw [List.length_range]; omega)) rfl (fun r hr => ?_) ?_
  · have hr := List.mem_range.mp hr
    walk_at "dg"
    walk_at "de"
    refine ⟨_, atD_ints (by rw [hE]; exact hr), ?_⟩
    walk_at "de"
    refine ⟨rfl, rfl, fun _ => ?_⟩
    walk_at "de"
    exact ⟨rfl, rfl⟩
  walk_at "nrm"
  refine ds_seq (ds_if (dt_truL (dL_var rfl ?_)))
  cases hbe : (List.range t.rooms).filter fun r => decide (E.getD r 0 < 0) with
  | cons r rs =>
    refine ⟨fun _ => ?_, fun z => by simp at z⟩
    have hr : r ∈ (List.range t.rooms).filter fun r => decide (E.getD r 0 < 0) := by rw [hbe]; exact List.mem_cons_self
    obtain ⟨r1, r2⟩ := List.mem_filter.mp hr
    have r2 := of_decide_eq_true r2
    refine ds_ret (de_tup (da_cons (de_c rfl (da_cons (dI_e (dI_ixL (dL_var rfl (dI_c ⟨(r : Int), atD_nat (j := 0) (by rfl), ?_⟩))))))))
    refine da_nil ⟨szd rfl, _, rfl, ⟨fun z => (nomatch z), fun q => ?_⟩⟩
    have := (pi.mp q).2.1 r (List.mem_range.mp r1)
    omega
  | nil =>
  refine ⟨fun z => by simp at z, fun _ => ds_next ?_⟩
  have hbel : ∀ r, r < t.rooms → 0 ≤ E.getD r 0 := fun r hr => by
    have := List.filter_eq_nil_iff.mp hbe r (List.mem_range.mpr hr)
    have : ¬ E.getD r 0 < 0 := fun z => this (decide_eq_true z)
    omega
  -- odd
  refine ds_seq (ds_set rfl (de_call0 ?_))
  walk_at "de"
  refine ⟨⟨t, B, E⟩, rfl, ⟨ht, hb, hE⟩, fun n s hs => ⟨_, hs, ?_⟩⟩
  dsimp only
  walk_at "nrm"
  refine ds_seq (ds_if (dt_truL (dL_var rfl ?_)))
  cases hod : oddR t B E with
  | cons r rs =>
    refine ⟨fun _ => ?_, fun z => by simp [natsL] at z⟩
    refine ds_ret (de_tup (da_cons (de_c rfl (da_cons (dI_e (dI_ixL (dL_var rfl (dI_c ⟨(r : Int), atD_nat (j := 0) (by rfl), ?_⟩))))))))
    refine da_nil ⟨szd rfl, _, rfl, ⟨fun z => (nomatch z), fun q => ?_⟩⟩
    have := (pi.mp q).2.2.1
    rw [hod] at this
    cases this
  | nil =>
  refine ⟨fun z => by simp [natsL] at z, fun _ => ds_next ?_⟩
  -- nobody
  refine ds_seq (ds_set rfl (Do.de (do_call0 ?_)))
  walk_at "de"
  refine ⟨⟨t, B⟩, rfl, ⟨ht, hb⟩, fun n s hs => ?_⟩
  obtain ⟨a, rfl⟩ := hs
  refine ⟨a, _, rfl, ?_⟩
  walk_at "nrm"
  refine ds_seq (ds_if (dt_truL (dL_var rfl ?_)))
  cases hem : emptyL t B with
  | cons l ls =>
    refine ⟨fun _ => ?_, fun z => by simp at z⟩
    refine ds_ret (de_tup (da_cons (de_c rfl (da_cons ?_))))
    walk_at "de"
    refine ⟨lotD l, atD_nat (j := 0) (by rfl), ?_⟩
    walk_at "de"
    refine ⟨szd rfl, _, rfl, ⟨fun z => (nomatch z), fun q => ?_⟩⟩
    have := (pi.mp q).2.2.2.1
    rw [hem] at this
    cases this
  | nil =>
  refine ⟨fun z => by simp at z, fun _ => ds_next ?_⟩
  -- lot
  refine ds_seq (ds_set rfl (de_call0 ?_))
  walk_at "de"
  refine Do.de (do_lck rfl ?_)
  walk_at "de"
  rw [zipD_map]
  refine lcM (fun q : Int × Int => .tuple [.int q.1, .int q.2]) (B.zip E) (fun q => .int (q.1 - q.2)) (szL (by rw [List.length_zip]; omega)) rfl (fun q hq => ?_) ?_
  · walk_at "dg"
    walk_at "de"
    exact ⟨rfl, rfl⟩
  rw [show ((B.zip E).map fun q => PyData.int (q.1 - q.2)) = ((B.zip E).map fun q => q.1 - q.2).map .int from by rw [List.map_map]; rfl, diff_two hb hE]
  have hW : ((List.range t.rooms).map fun i => B.getD i 0 - E.getD i 0).length = t.rooms := by rw [List.length_map, List.length_range]
  walk_at "de"
  refine ⟨⟨t, (List.range t.rooms).map fun i => B.getD i 0 - E.getD i 0⟩, rfl, ⟨ht, hW⟩, fun n s es => ⟨_, es, ?_⟩⟩
  dsimp only
  have eS : sumsL t.rooms t.z ((List.range t.rooms).map fun i => B.getD i 0 - E.getD i 0) = tabL t.rooms (slk t B E) := by
    rw [sums_range R.z]
    unfold tabL
    refine List.map_congr_left fun k _ => ?_
    have h1 : ssum t.rooms (fun r => ((List.range t.rooms).map fun i => B.getD i 0 - E.getD i 0).getD r 0) k = ssum t.rooms (fun r => B.getD r 0 - E.getD r 0) k := ssum_congr fun r hr => getD_range hr
    have h2 := ssum_add t.rooms (fun r => B.getD r 0 - E.getD r 0) (fun r => E.getD r 0) k
    have h3 : ssum t.rooms (fun r => (B.getD r 0 - E.getD r 0) + E.getD r 0) k = ssum t.rooms (fun r => B.getD r 0) k := ssum_congr fun r _ => by omega
    unfold slk lsum
    rw [hb, hE]
    dsimp only
    omega
  rw [eS]
  walk_at "nrm"
  have hp := Nat.two_pow_pos t.rooms
  refine ds_ret (de_if (dt_tTest (dB_op0 (dI_minL (dL_var rfl ⟨tabL t.rooms (slk t B E), rfl, by rw [tab_len]; exact hp, fun m m1 m2 => dI_c ⟨fun e => ?_, fun e => ?_⟩⟩)))))
  · have e : m < 0 := of_decide_eq_true e
    refine de_tup (da_cons (de_c rfl (da_cons (Do.de (do_call0 ?_)))))
    walk_at "de"
    refine ⟨⟨t, tabL t.rooms (slk t B E)⟩, rfl, ⟨ht, tab_len _ _⟩, fun n s hs => ?_⟩
    obtain ⟨a, l, m', j, rfl, _⟩ := hs
    refine ⟨a, _, rfl, da_nil ⟨szd rfl, _, rfl, ⟨fun z => (nomatch z), fun q => ?_⟩⟩⟩
    obtain ⟨k, hk, ek⟩ := List.mem_map.mp m1
    have := (pi.mp q).2.2.2.2 k (List.mem_range.mp hk)
    omega
  · have e : ¬ m < 0 := of_decide_eq_false e
    refine de_c rfl ⟨_, rfl, ⟨fun _ => pi.mpr ⟨hsum, hbel, hod, hem, fun k hk => ?_⟩, fun _ => rfl⟩⟩
    have := m2 (slk t B E k) (List.mem_map_of_mem (List.mem_range.mpr hk))
    omega
end
end Bd
set_option maxHeartbeats 4000000
namespace Bd
open PySem PySem.Spec PyProof.Rows L2 HT
/-! goings that are left, by door and way; and that one of them can be gone -/
abbrev Dw2 := (Nat × Nat) × (Int × Int)
def toC (z : List Dw2) : List Dc := z.map fun x => (x.1, x.2.1 + x.2.2)
def nt1 (r : Nat) (x : Dw2) : Int := (if x.1.1 = r then x.2.2 - x.2.1 else 0) + (if x.1.2 = r then x.2.1 - x.2.2 else 0)
def ntr (z : List Dw2) (r : Nat) : Int := (z.map (nt1 r)).sum
def ou1 (k : Nat) (x : Dw2) : Int := if k.testBit x.1.1 then (if k.testBit x.1.2 then 0 else x.2.1) else (if k.testBit x.1.2 then x.2.2 else 0)
def in1 (k : Nat) (x : Dw2) : Int := if k.testBit x.1.1 then (if k.testBit x.1.2 then 0 else x.2.2) else (if k.testBit x.1.2 then x.2.1 else 0)
def ouv (z : List Dw2) (k : Nat) : Int := (z.map (ou1 k)).sum
def inv (z : List Dw2) (k : Nat) : Int := (z.map (in1 k)).sum
theorem ouv_cons (x : Dw2) (z : List Dw2) (k : Nat) : ouv (x :: z) k = ou1 k x + ouv z k := by unfold ouv; rw [List.map_cons, List.sum_cons]
theorem inv_cons (x : Dw2) (z : List Dw2) (k : Nat) : inv (x :: z) k = in1 k x + inv z k := by unfold inv; rw [List.map_cons, List.sum_cons]
theorem ntr_cons (x : Dw2) (z : List Dw2) (r : Nat) : ntr (x :: z) r = nt1 r x + ntr z r := by unfold ntr; rw [List.map_cons, List.sum_cons]
theorem toC_cons (x : Dw2) (z : List Dw2) : toC (x :: z) = (x.1, x.2.1 + x.2.2) :: toC z := rfl
theorem cut_io : ∀ (z : List Dw2) (k : Nat), cutv (toC z) k = inv z k + ouv z k
  | [], _ => rfl
  | x :: z, k => by
    rw [toC_cons, cutv_cons, inv_cons, ouv_cons, cut_io z k]
    unfold cut1 in1 ou1
    cases k.testBit x.1.1 <;> cases k.testBit x.1.2 <;> simp <;> omega
theorem nt_sum {n : Nat} (k : Nat) : ∀ {z : List Dw2}, (∀ x ∈ z, x.1.1 < n ∧ x.1.2 < n) → ssum n (ntr z) k = inv z k - ouv z k
  | [], _ => by
    have : ssum n (ntr []) k = 0 := (ssum_congr (y := fun _ => 0) fun i _ => rfl).trans (ssum_nil n _)
    rw [this]; rfl
  | x :: z, h => by
    have ih := nt_sum (n := n) k (z := z) fun y hy => h y (List.mem_cons_of_mem _ hy)
    obtain ⟨h1, h2⟩ := h x List.mem_cons_self
    have e : ssum n (ntr (x :: z)) k = ssum n (fun r => (unit x.1.1 (x.2.2 - x.2.1) r + unit x.1.2 (x.2.1 - x.2.2) r) + ntr z r) k := ssum_congr fun r _ => by
      rw [ntr_cons]
      unfold nt1 unit
      by_cases c1 : x.1.1 = r <;> by_cases c2 : x.1.2 = r
      · rw [if_pos c1, if_pos c2, if_pos c1.symm, if_pos c2.symm]
      · rw [if_pos c1, if_neg c2, if_pos c1.symm, if_neg (fun e => c2 e.symm)]
      · rw [if_neg c1, if_pos c2, if_neg (fun e => c1 e.symm), if_pos c2.symm]
      · rw [if_neg c1, if_neg c2, if_neg (fun e => c1 e.symm), if_neg (fun e => c2 e.symm)]
    rw [e, ssum_add, ssum_add, ssum_unit n _ _ _ h1, ssum_unit n _ _ _ h2, ih, inv_cons, ouv_cons]
    unfold in1 ou1
    cases k.testBit x.1.1 <;> cases k.testBit x.1.2 <;> simp <;> omega
theorem ouv_nn {k : Nat} : ∀ {z : List Dw2}, (∀ x ∈ z, 0 ≤ x.2.1 ∧ 0 ≤ x.2.2) → 0 ≤ ouv z k ∧ 0 ≤ inv z k
  | [], _ => ⟨Int.le_refl 0, Int.le_refl 0⟩
  | x :: z, h => by
    have ih := ouv_nn (k := k) (z := z) fun y hy => h y (List.mem_cons_of_mem _ hy)
    have h0 := h x List.mem_cons_self
    rw [ouv_cons, inv_cons]
    unfold ou1 in1
    cases k.testBit x.1.1 <;> cases k.testBit x.1.2 <;> simp <;> omega
theorem ouv_diff {n K L Y : Nat} (hY : ∀ r, r < n → Y.testBit r = (K.testBit r && !L.testBit r)) : ∀ {z : List Dw2}, (∀ x ∈ z, x.1.1 < n ∧ x.1.2 < n) → (∀ x ∈ z, 0 ≤ x.2.1 ∧ 0 ≤ x.2.2) → ouv z Y ≤ ouv z K + inv z L
  | [], _, _ => Int.le_refl 0
  | x :: z, h, h0 => by
    have ih := ouv_diff hY (z := z) (fun y hy => h y (List.mem_cons_of_mem _ hy)) fun y hy => h0 y (List.mem_cons_of_mem _ hy)
    obtain ⟨h1, h2⟩ := h x List.mem_cons_self
    have g := h0 x List.mem_cons_self
    rw [ouv_cons, ouv_cons, inv_cons]
    unfold ou1 in1
    rw [hY _ h1, hY _ h2]
    cases K.testBit x.1.1 <;> cases K.testBit x.1.2 <;> cases L.testBit x.1.1 <;> cases L.testBit x.1.2 <;> simp <;> omega
theorem map_mid {α : Type} (f : α → Int) (z1 z2 : List α) (x : α) : ((z1 ++ x :: z2).map f).sum = f x + ((z1 ++ z2).map f).sum := by
  rw [List.map_append, List.sum_append, List.map_cons, List.sum_cons, List.map_append, List.sum_append]; omega
/-- one going less -/
def Eg (z : List Dw2) (o i : Nat) (z' : List Dw2) : Prop := ∃ (z1 z2 : List Dw2) (a b : Nat) (f g : Int), z = z1 ++ ((a, b), (f, g)) :: z2 ∧ ((o = a ∧ i = b ∧ 0 < f ∧ z' = z1 ++ ((a, b), (f - 1, g)) :: z2) ∨ (o = b ∧ i = a ∧ 0 < g ∧ z' = z1 ++ ((a, b), (f, g - 1)) :: z2))
theorem Eg.ou {z z' : List Dw2} {o i : Nat} (h : Eg z o i z') (k : Nat) : ouv z k = ouv z' k + (if k.testBit o then (if k.testBit i then 0 else 1) else 0) := by
  obtain ⟨z1, z2, a, b, f, g, rfl, ⟨rfl, rfl, h0, rfl⟩ | ⟨rfl, rfl, h0, rfl⟩⟩ := h
  · unfold ouv
    rw [map_mid, map_mid]
    unfold ou1
    dsimp only
    cases k.testBit o <;> cases k.testBit i <;> simp <;> omega
  · unfold ouv
    rw [map_mid, map_mid]
    unfold ou1
    dsimp only
    cases k.testBit o <;> cases k.testBit i <;> simp <;> omega
theorem Eg.in_ {z z' : List Dw2} {o i : Nat} (h : Eg z o i z') (k : Nat) : inv z k = inv z' k + (if k.testBit i then (if k.testBit o then 0 else 1) else 0) := by
  obtain ⟨z1, z2, a, b, f, g, rfl, ⟨rfl, rfl, h0, rfl⟩ | ⟨rfl, rfl, h0, rfl⟩⟩ := h
  · unfold inv
    rw [map_mid, map_mid]
    unfold in1
    dsimp only
    cases k.testBit o <;> cases k.testBit i <;> simp <;> omega
  · unfold inv
    rw [map_mid, map_mid]
    unfold in1
    dsimp only
    cases k.testBit o <;> cases k.testBit i <;> simp <;> omega
theorem Eg.nt {z z' : List Dw2} {o i : Nat} (h : Eg z o i z') (r : Nat) : ntr z r = ntr z' r + (if i = r then 1 else 0) - (if o = r then 1 else 0) := by
  obtain ⟨z1, z2, a, b, f, g, rfl, ⟨rfl, rfl, h0, rfl⟩ | ⟨rfl, rfl, h0, rfl⟩⟩ := h
  · unfold ntr
    rw [map_mid, map_mid]
    unfold nt1
    dsimp only
    split <;> split <;> omega
  · unfold ntr
    rw [map_mid, map_mid]
    unfold nt1
    dsimp only
    split <;> split <;> omega
theorem Eg.met {z z' : List Dw2} {o i : Nat} (h : Eg z o i z') (r : Nat) : metAt (toC z) r = metAt (toC z') r + (if o = r then 1 else 0) + (if i = r then 1 else 0) := by
  obtain ⟨z1, z2, a, b, f, g, rfl, ⟨rfl, rfl, h0, rfl⟩ | ⟨rfl, rfl, h0, rfl⟩⟩ := h
  · unfold metAt toC
    rw [List.map_map, List.map_map, map_mid, map_mid]
    dsimp only [Function.comp]
    split <;> split <;> omega
  · unfold metAt toC
    rw [List.map_map, List.map_map, map_mid, map_mid]
    dsimp only [Function.comp]
    split <;> split <;> omega
theorem Eg.mem {z z' : List Dw2} {o i : Nat} (h : Eg z o i z') : (∃ x ∈ z, (x.1.1 = o ∧ x.1.2 = i) ∨ (x.1.1 = i ∧ x.1.2 = o)) ∧ (∀ y ∈ z', ∃ x ∈ z, y.1 = x.1) ∧ ((∀ x ∈ z, 0 ≤ x.2.1 ∧ 0 ≤ x.2.2) → ∀ y ∈ z', 0 ≤ y.2.1 ∧ 0 ≤ y.2.2) := by
  obtain ⟨z1, z2, a, b, f, g, rfl, q⟩ := h
  have hx : ((a, b), (f, g)) ∈ z1 ++ ((a, b), (f, g)) :: z2 := List.mem_append_right _ List.mem_cons_self
  have form : ∃ p : Int × Int, z' = z1 ++ ((a, b), p) :: z2 ∧ ((0 ≤ f ∧ 0 ≤ g) → 0 ≤ p.1 ∧ 0 ≤ p.2) ∧ ((a = o ∧ b = i) ∨ (a = i ∧ b = o)) := by
    rcases q with ⟨rfl, rfl, h0, rfl⟩ | ⟨rfl, rfl, h0, rfl⟩
    · exact ⟨(f - 1, g), rfl, fun h => ⟨by show 0 ≤ f - 1; omega, h.2⟩, .inl ⟨rfl, rfl⟩⟩
    · exact ⟨(f, g - 1), rfl, fun h => ⟨h.1, by show 0 ≤ g - 1; omega⟩, .inr ⟨rfl, rfl⟩⟩
  obtain ⟨p, rfl, hp, hab⟩ := form
  refine ⟨⟨_, hx, hab⟩, fun y hy => ?_, fun h y hy => ?_⟩
  · rcases List.mem_append.mp hy with q | q
    · exact ⟨y, List.mem_append_left _ q, rfl⟩
    · rcases List.mem_cons.mp q with rfl | q
      · exact ⟨_, hx, rfl⟩
      · exact ⟨y, List.mem_append_right _ (List.mem_cons_of_mem _ q), rfl⟩
  · rcases List.mem_append.mp hy with q | q
    · exact h y (List.mem_append_left _ q)
    · rcases List.mem_cons.mp q with rfl | q
      · exact hp (h _ hx)
      · exact h y (List.mem_append_right _ (List.mem_cons_of_mem _ q))
theorem Eg.ex {z : List Dw2} {x : Dw2} (h : x ∈ z) : (0 < x.2.1 → ∃ z', Eg z x.1.1 x.1.2 z') ∧ (0 < x.2.2 → ∃ z', Eg z x.1.2 x.1.1 z') := by
  obtain ⟨z1, z2, e⟩ := List.append_of_mem h
  obtain ⟨⟨a, b⟩, f, g⟩ := x
  exact ⟨fun h0 => ⟨_, z1, z2, a, b, f, g, e, .inl ⟨rfl, rfl, h0, rfl⟩⟩, fun h0 => ⟨_, z1, z2, a, b, f, g, e, .inr ⟨rfl, rfl, h0, rfl⟩⟩⟩
theorem sum_pos_ex {α : Type} {f : α → Int} : ∀ {z : List α}, 0 < (z.map f).sum → ∃ x ∈ z, 0 < f x
  | [], h => absurd h (by show ¬ (0 : Int) < 0; decide)
  | x :: z, h => by
    rw [List.map_cons, List.sum_cons] at h
    by_cases c : 0 < f x
    · exact ⟨x, List.mem_cons_self, c⟩
    · obtain ⟨y, hy, h2⟩ := sum_pos_ex (f := f) (z := z) (by omega)
      exact ⟨y, List.mem_cons_of_mem _ hy, h2⟩
theorem ou_ex {z : List Dw2} {k : Nat} (h : 0 < ouv z k) : ∃ o i z', Eg z o i z' ∧ k.testBit o = true ∧ k.testBit i = false := by
  obtain ⟨x, hx, h0⟩ := sum_pos_ex h
  obtain ⟨e1, e2⟩ := Eg.ex hx
  unfold ou1 at h0
  cases c1 : k.testBit x.1.1 <;> cases c2 : k.testBit x.1.2 <;> rw [c1, c2] at h0 <;> simp at h0
  · obtain ⟨z', q⟩ := e2 h0
    exact ⟨_, _, z', q, c2, c1⟩
  · obtain ⟨z', q⟩ := e1 h0
    exact ⟨_, _, z', q, c1, c2⟩
theorem in_ex {z : List Dw2} {k : Nat} (h : 0 < inv z k) : ∃ o i z', Eg z o i z' ∧ k.testBit o = false ∧ k.testBit i = true := by
  obtain ⟨x, hx, h0⟩ := sum_pos_ex h
  obtain ⟨e1, e2⟩ := Eg.ex hx
  unfold in1 at h0
  cases c1 : k.testBit x.1.1 <;> cases c2 : k.testBit x.1.2 <;> rw [c1, c2] at h0 <;> simp at h0
  · obtain ⟨z', q⟩ := e1 h0
    exact ⟨_, _, z', q, c1, c2⟩
  · obtain ⟨z', q⟩ := e2 h0
    exact ⟨_, _, z', q, c2, c1⟩
theorem met_ex {z : List Dw2} (nn : ∀ x ∈ z, 0 ≤ x.2.1 ∧ 0 ≤ x.2.2) {r : Nat} (h : 0 < metAt (toC z) r) : ∃ o i z', Eg z o i z' ∧ (o = r ∨ i = r) := by
  unfold metAt toC at h
  rw [List.map_map] at h
  obtain ⟨x, hx, h0⟩ := sum_pos_ex h
  obtain ⟨e1, e2⟩ := Eg.ex hx
  have g := nn x hx
  dsimp only [Function.comp] at h0
  have hr : x.1.1 = r ∨ x.1.2 = r := by
    by_cases c1 : x.1.1 = r
    · exact .inl c1
    · by_cases c2 : x.1.2 = r
      · exact .inr c2
      · rw [if_neg c1, if_neg c2] at h0
        exact absurd h0 (by decide)
  by_cases c : 0 < x.2.1
  · obtain ⟨z', q⟩ := e1 c
    exact ⟨_, _, z', q, hr⟩
  · have : 0 < x.2.2 := by
      split at h0 <;> split at h0 <;> omega
    obtain ⟨z', q⟩ := e2 this
    exact ⟨_, _, z', q, hr.symm⟩
/-- each set that nothing leaves, and in which something is left to go, has somebody -/
def OpS (n : Nat) (z : List Dc) (N : Nat → Int) : Prop := ∀ k, k < 2 ^ n → cutv z k = 0 → ∀ i, i < n → k.testBit i = true → 0 < metAt z i → 0 < ssum n N k
structure GS (n : Nat) (z : List Dw2) (N : Nat → Int) : Prop where
  lt : ∀ x ∈ z, x.1.1 < n ∧ x.1.2 < n ∧ x.1.1 ≠ x.1.2
  nn : ∀ x ∈ z, 0 ≤ x.2.1 ∧ 0 ≤ x.2.2
  n0 : ∀ r, r < n → 0 ≤ N r
  e0 : ∀ r, r < n → 0 ≤ N r + ntr z r
  op : OpS n (toC z) N
def stN (N : Nat → Int) (o i : Nat) : Nat → Int := fun r => N r + ((if r = i then 1 else 0) - (if r = o then 1 else 0))
theorem GS.at {n : Nat} {z z' : List Dw2} {N : Nat → Int} {o i : Nat} (S : GS n z N) (e : Eg z o i z') : o < n ∧ i < n ∧ o ≠ i := by
  obtain ⟨⟨x, hx, q⟩, _⟩ := e.mem
  obtain ⟨h1, h2, h3⟩ := S.lt x hx
  rcases q with ⟨rfl, rfl⟩ | ⟨rfl, rfl⟩
  · exact ⟨h1, h2, h3⟩
  · exact ⟨h2, h1, fun e => h3 e.symm⟩
theorem stN_sum {n : Nat} {N : Nat → Int} {o i : Nat} (ho : o < n) (hi : i < n) (k : Nat) : ssum n (stN N o i) k = ssum n N k + (if k.testBit i then 1 else 0) - (if k.testBit o then 1 else 0) := by
  have e : ssum n (stN N o i) k = ssum n (fun r => N r + (unit i 1 r + unit o (-1) r)) k := ssum_congr fun r _ => by
    unfold stN unit
    split <;> split <;> omega
  rw [e, ssum_add, ssum_add, ssum_unit n _ _ _ hi, ssum_unit n _ _ _ ho]
  split <;> split <;> omega
/-- a going that is gone well leaves all well -/
theorem GS.step {n : Nat} {z z' : List Dw2} {N : Nat → Int} {o i : Nat} (S : GS n z N) (e : Eg z o i z') (h : 1 ≤ N o) (hop : OpS n (toC z') (stN N o i)) : GS n z' (stN N o i) := by
  obtain ⟨_, m2, m3⟩ := e.mem
  refine ⟨fun y hy => ?_, m3 S.nn, fun r hr => ?_, fun r hr => ?_, hop⟩
  · obtain ⟨x, hx, q⟩ := m2 y hy
    rw [q]
    exact S.lt x hx
  · have := S.n0 r hr
    unfold stN
    by_cases c : r = o
    · subst c; split <;> simp <;> omega
    · rw [if_neg c]; split <;> omega
  · have h1 := S.e0 r hr
    have h2 := e.nt r
    unfold stN
    by_cases c1 : r = i <;> by_cases c2 : r = o
    · rw [if_pos c1.symm, if_pos c2.symm] at h2; rw [if_pos c1, if_pos c2]; omega
    · rw [if_pos c1.symm, if_neg (fun e => c2 e.symm)] at h2; rw [if_pos c1, if_neg c2]; omega
    · rw [if_neg (fun e => c1 e.symm), if_pos c2.symm] at h2; rw [if_neg c1, if_pos c2]; omega
    · rw [if_neg (fun e => c1 e.symm), if_neg (fun e => c2 e.symm)] at h2; rw [if_neg c1, if_neg c2]; omega
theorem GS.bad {n : Nat} {z z' : List Dw2} {N : Nat → Int} {o i : Nat} (S : GS n z N) (e : Eg z o i z') (h : 1 ≤ N o) (hop : ¬ OpS n (toC z') (stN N o i)) :
    ∃ K, K < 2 ^ n ∧ K.testBit o = true ∧ K.testBit i = false ∧ inv z K = 0 ∧ ouv z K = 1 ∧ ouv z' K = 0 ∧ cutv (toC z') K = 0 ∧ ssum n N K = 1 ∧ ∃ r, r < n ∧ K.testBit r = true ∧ 0 < metAt (toC z') r := by
  obtain ⟨ho, hi, hne⟩ := S.at e
  obtain ⟨_, _, m3⟩ := e.mem
  have nn' := m3 S.nn
  have ⟨K, k1, k2, r, r1, r2, r3, r4⟩ : ∃ K, K < 2 ^ n ∧ cutv (toC z') K = 0 ∧ ∃ r, r < n ∧ K.testBit r = true ∧ 0 < metAt (toC z') r ∧ ¬ 0 < ssum n (stN N o i) K := by
    refine Classical.byContradiction fun hn => hop fun k hk hc r hr hkr hm => Classical.byContradiction fun hs => hn ⟨k, hk, hc, r, hr, hkr, hm, hs⟩
  have s1 := stN_sum (N := N) ho hi K
  have s2 : 0 ≤ ssum n (stN N o i) K := ssum_pos fun r hr => by
    have := S.n0 r hr
    unfold stN
    by_cases c : r = o
    · subst c; split <;> simp <;> omega
    · rw [if_neg c]; split <;> omega
  have c1 := cut_io z K
  have c2 := cut_io z' K
  have o1 := e.ou K
  have i1 := e.in_ K
  have g' := ouv_nn (k := K) nn'
  have mt := e.met r
  have key : K.testBit o = K.testBit i → False := fun q => by
    have hm : 0 < metAt (toC z) r := by rw [mt]; split <;> split <;> omega
    have hc : cutv (toC z) K = 0 := by
      rw [q] at o1 i1
      cases ci : K.testBit i <;> rw [ci] at o1 i1 <;> simp at o1 i1 <;> omega
    have := S.op K k1 hc r r1 r2 hm
    rw [q] at s1
    split at s1 <;> omega
  cases co : K.testBit o <;> cases ci : K.testBit i
  · exact (key (co.trans ci.symm)).elim
  · rw [co, ci] at s1
    have := ssum_pos (n := n) (x := N) (k := K) S.n0
    simp at s1
    omega
  · rw [co, ci] at s1 o1 i1
    simp at s1 o1 i1
    refine ⟨K, k1, co, ci, by omega, by omega, by omega, k2, by omega, r, r1, r2, r3⟩
  · exact (key (co.trans ci.symm)).elim
theorem ssum_le_sub {n : Nat} {x : Nat → Int} {a b : Nat} (h0 : ∀ r, r < n → b.testBit r = true → 0 ≤ x r) (h : ∀ r, r < n → a.testBit r = true → b.testBit r = true) : ssum n x a ≤ ssum n x b := by
  have gen : ∀ m, m ≤ n → ssum m x a ≤ ssum m x b := by
    intro m
    induction m with
    | zero => intro _; exact Int.le_refl _
    | succ m ih =>
      intro hm
      have i1 := ih (by omega)
      show ssum m x a + _ ≤ ssum m x b + _
      cases ca : a.testBit m with
      | true =>
        have cb := h m (by omega) ca
        rw [cb]; simp; exact i1
      | false =>
        cases cb : b.testBit m with
        | false => simp; exact i1
        | true =>
          have := h0 m (by omega) cb
          simp; omega
  exact gen n (Nat.le_refl _)
/-- as long as anything is left to go, something can be gone well -/
theorem GS.some_ {n : Nat} {z : List Dw2} {N : Nat → Int} (S : GS n z N) (hex : ∃ o i z', Eg z o i z') : ∃ o i z', Eg z o i z' ∧ 1 ≤ N o ∧ OpS n (toC z') (stN N o i) := by
  refine Classical.byContradiction fun hall => ?_
  have bad : ∀ {o i z'}, Eg z o i z' → 1 ≤ N o → ¬ OpS n (toC z') (stN N o i) := fun {o i z'} e h hop => hall ⟨o, i, z', e, h, hop⟩
  have hlt : ∀ x ∈ z, x.1.1 < n ∧ x.1.2 < n := fun x hx => ⟨(S.lt x hx).1, (S.lt x hx).2.1⟩
  have esum : ∀ k, ssum n (fun r => N r + ntr z r) k = ssum n N k + inv z k - ouv z k := fun k => by
    rw [ssum_add, nt_sum k hlt]; omega
  -- somebody can go
  have ⟨o, i, z1, e1, ho1⟩ : ∃ o i z', Eg z o i z' ∧ 1 ≤ N o := by
    refine Classical.byContradiction fun hno => ?_
    have hz : ∀ {o i z'}, Eg z o i z' → N o = 0 := fun {o i z'} e => by
      have := S.n0 o (S.at e).1
      have : ¬ 1 ≤ N o := fun h => hno ⟨o, i, z', e, h⟩
      omega
    have uk := maskP_lt n fun r => decide (N r = 0)
    have ub : ∀ r, r < n → (maskP n fun r => decide (N r = 0)).testBit r = decide (N r = 0) := fun r hr => maskP_bit hr
    generalize (maskP n fun r => decide (N r = 0)) = U at uk ub
    have g := ouv_nn (k := U) S.nn
    have hin : inv z U = 0 := by
      refine Classical.byContradiction fun hp => ?_
      obtain ⟨o, i, z', e, q1, q2⟩ := in_ex (z := z) (k := U) (by omega)
      rw [ub o (S.at e).1, decide_eq_true (hz e)] at q1
      cases q1
    have hN : ssum n N U = 0 := by
      have : ssum n N U = ssum n (fun _ => 0) U := ssum_only fun r hr hb => by rw [ub r hr] at hb; exact of_decide_eq_true hb
      rw [this, ssum_nil]
    have h1 := ssum_pos (n := n) (x := fun r => N r + ntr z r) (k := U) S.e0
    rw [esum] at h1
    have hcut : cutv (toC z) U = 0 := by rw [cut_io]; omega
    obtain ⟨o, i, z', e⟩ := hex
    have ho := (S.at e).1
    have hm : 0 < metAt (toC z) o := by
      rw [e.met o, if_pos rfl]
      have := met_nn (r := o) (z := toC z') fun y hy => by
        obtain ⟨x, hx, rfl⟩ := List.mem_map.mp hy
        have := e.mem.2.2 S.nn x hx
        show 0 ≤ x.2.1 + x.2.2
        omega
      split <;> omega
    have := S.op U uk hcut o ho (by rw [ub o ho, decide_eq_true (hz e)]) hm
    omega
  obtain ⟨ho, hi, hoi⟩ := S.at e1
  obtain ⟨K, k1, ko, ki, kin, kou, kou1, kcut, ksum, r, r1, r2, r3⟩ := S.bad e1 ho1 (bad e1 ho1)
  have zero_in : ∀ {Y}, (∀ r, r < n → Y.testBit r = true → K.testBit r = true) → ssum n N Y + inv z Y - ouv z Y = 0 := fun {Y} hY => by
    have h1 := ssum_pos (n := n) (x := fun r => N r + ntr z r) (k := Y) S.e0
    have h2 := ssum_le_sub (n := n) (x := fun r => N r + ntr z r) (a := Y) (b := K) (fun r hr _ => S.e0 r hr) hY
    rw [esum] at h1 h2
    rw [esum] at h2
    omega
  have yk := maskP_lt n fun r => K.testBit r && !decide (r = o)
  have yb : ∀ r, r < n → (maskP n fun r => K.testBit r && !decide (r = o)).testBit r = (K.testBit r && !decide (r = o)) := fun r hr => maskP_bit hr
  generalize (maskP n fun r => K.testBit r && !decide (r = o)) = Y at yk yb
  have yN : ssum n N Y = 0 := by
    have h1 : ssum n (fun r => N r - unit o (N o) r) K = ssum n N K - N o := by
      have := ssum_add n (fun r => N r - unit o (N o) r) (unit o (N o)) K
      rw [ssum_unit n _ _ _ ho, ko, if_pos rfl] at this
      have e2 : ssum n (fun r => (N r - unit o (N o) r) + unit o (N o) r) K = ssum n N K := ssum_congr fun r _ => by omega
      omega
    have h2 : ssum n N Y = ssum n (fun r => N r - unit o (N o) r) Y := ssum_only fun r hr hb => by
      rw [yb r hr, Bool.and_eq_true] at hb
      have : ¬ r = o := by simpa using hb.2
      unfold unit
      rw [if_neg this]; omega
    have h3 := ssum_le_sub (n := n) (x := fun r => N r - unit o (N o) r) (a := Y) (b := K) (fun r hr _ => by
      have := S.n0 r hr
      unfold unit
      by_cases c : r = o
      · rw [if_pos c, c]; omega
      · rw [if_neg c]; omega) fun r hr hb => by rw [yb r hr, Bool.and_eq_true] at hb; exact hb.1
    have h4 := ssum_pos (n := n) (x := N) (k := Y) S.n0
    omega
  have yz := zero_in (Y := Y) fun r hr hb => by rw [yb r hr, Bool.and_eq_true] at hb; exact hb.1
  have yg := ouv_nn (k := Y) S.nn
  -- a going from there to within
  have ⟨c, z2, e2, hc⟩ : ∃ c z2, Eg z o c z2 ∧ Y.testBit c = true := by
    have hin : 0 < inv z Y := by
      refine Classical.byContradiction fun hp => ?_
      have hcut : cutv (toC z) Y = 0 := by rw [cut_io]; omega
      by_cases cr : r = o
      · subst cr
        obtain ⟨_, _, m3⟩ := e1.mem
        obtain ⟨p, q, z3, e3, hpq⟩ := met_ex (m3 S.nn) r3
        have g3 := ouv_nn (k := K) (e3.mem.2.2 (m3 S.nn))
        have hk := cut_io z1 K
        have o3 := e3.ou K
        have i3 := e3.in_ K
        have same : K.testBit p = K.testBit q := by
          cases cp : K.testBit p <;> cases cq : K.testBit q <;> rw [cp, cq] at o3 i3 <;> simp at o3 i3 <;> first | rfl | omega
        have pl : p < n ∧ q < n ∧ p ≠ q := by
          obtain ⟨⟨x, hx, w⟩, _⟩ := e3.mem
          obtain ⟨x', hx', w'⟩ := e1.mem.2.1 x hx
          obtain ⟨l1, l2, l3⟩ := S.lt x' hx'
          rw [← w'] at l1 l2 l3
          rcases w with ⟨rfl, rfl⟩ | ⟨rfl, rfl⟩
          · exact ⟨l1, l2, l3⟩
          · exact ⟨l2, l1, fun e => l3 e.symm⟩
        have o4 := e3.ou Y
        have i4 := e3.in_ Y
        have o5 := e1.ou Y
        have i5 := e1.in_ Y
        have g4 := ouv_nn (k := Y) (e3.mem.2.2 (m3 S.nn))
        have hc2 := cut_io z Y
        have yr : Y.testBit r = false := by rw [yb r ho, decide_eq_true rfl]; simp
        rcases hpq with rfl | rfl
        · have yq : Y.testBit q = true := by rw [yb q pl.2.1, ← same, ko, decide_eq_false (fun e => pl.2.2 e.symm)]; rfl
          rw [yr, yq] at i4
          simp at i4
          have : 0 ≤ (if Y.testBit i = true then (if Y.testBit p = true then (0 : Int) else 1) else 0) := by split <;> (try split) <;> decide
          omega
        · have yp : Y.testBit p = true := by rw [yb p pl.1, same, ko, decide_eq_false (fun e => pl.2.2 e)]; rfl
          rw [yr, yp] at o4
          simp at o4
          have : 0 ≤ (if Y.testBit q = true then (if Y.testBit i = true then (0 : Int) else 1) else 0) := by split <;> (try split) <;> decide
          omega
      · have hr : Y.testBit r = true := by rw [yb r r1, r2, decide_eq_false cr]; rfl
        have hm : 0 < metAt (toC z) r := by rw [e1.met r]; split <;> split <;> omega
        have := S.op Y yk hcut r r1 hr hm
        omega
    obtain ⟨p, c, z2, e2, hp, hc⟩ := in_ex hin
    have hpo : p = o := by
      refine Classical.byContradiction fun hne => ?_
      have hl := S.at e2
      rw [yb p hl.1, decide_eq_false hne] at hp
      have kp : K.testBit p = false := by simpa using hp
      have kc : K.testBit c = true := by rw [yb c hl.2.1, Bool.and_eq_true] at hc; exact hc.1
      have i2 := e2.in_ K
      rw [kp, kc] at i2
      have := (ouv_nn (k := K) (e2.mem.2.2 S.nn)).2
      simp at i2
      omega
    exact ⟨c, z2, hpo ▸ e2, hc⟩
  obtain ⟨_, hcn, hoc⟩ := S.at e2
  obtain ⟨L, l1, lo, lc, lin, lou, _, _, _, _⟩ := S.bad e2 ho1 (bad e2 ho1)
  have wk := maskP_lt n fun r => K.testBit r && !L.testBit r
  have wb : ∀ r, r < n → (maskP n fun r => K.testBit r && !L.testBit r).testBit r = (K.testBit r && !L.testBit r) := fun r hr => maskP_bit hr
  generalize (maskP n fun r => K.testBit r && !L.testBit r) = Z at wk wb
  have zz := zero_in (Y := Z) fun r hr hb => by rw [wb r hr, Bool.and_eq_true] at hb; exact hb.1
  have zo : Z.testBit o = false := by rw [wb o ho, lo]; simp
  have kc : K.testBit c = true := by rw [yb c hcn, Bool.and_eq_true] at hc; exact hc.1
  have zc : Z.testBit c = true := by rw [wb c hcn, lc, kc]; rfl
  have zN : ssum n N Z = 0 := by
    have h1 := ssum_le_sub (n := n) (x := N) (a := Z) (b := Y) (fun r hr _ => S.n0 r hr) fun r hr hb => by
      rw [wb r hr, Bool.and_eq_true] at hb
      have : r ≠ o := fun e => by rw [e, lo] at hb; exact absurd hb.2 (by decide)
      rw [yb r hr, hb.1, decide_eq_false this]; rfl
    have h2 := ssum_pos (n := n) (x := N) (k := Z) S.n0
    omega
  obtain ⟨_, m2, m3⟩ := e1.mem
  have d1 := ouv_diff (z := z1) (n := n) wb (fun y hy => by obtain ⟨x, hx, q⟩ := m2 y hy; rw [q]; exact hlt x hx) (m3 S.nn)
  have a1 := e1.ou Z
  have a2 := e1.in_ L
  have a3 := e2.in_ Z
  have a4 := (ouv_nn (k := Z) (e2.mem.2.2 S.nn)).2
  have a5 := (ouv_nn (k := L) (m3 S.nn)).2
  rw [zo] at a1
  rw [zo, zc] at a3
  simp at a1 a3
  have a6 : 0 ≤ (if L.testBit i = true then (if L.testBit o = true then (0 : Int) else 1) else 0) := by split <;> (try split) <;> decide
  omega
end Bd
set_option maxHeartbeats 4000000
namespace Bd
open PySem PySem.Spec PyProof.Rows L2 HT
local macro_rules | `(tactic| walk_at "de1") => `(tactic| (with_reducible first
  | refine dI_var rfl ?_ | refine dI_c ?_ | refine dI_op0 ?_ | refine dI_op ?_ | refine dI_un ?_ | refine dI_ixO rfl ?_ | refine dI_ixT ?_ | refine dI_ixL ?_ | refine dI_if ?_ | refine dI_lenO rfl ?_ | refine dI_lenL ?_ | refine dI_abs ?_ | refine dI_two ?_ | refine dI_intB ?_
  | refine dB_var rfl ?_ | refine dB_c ?_ | refine dB_op0 ?_ | refine dB_eqI ?_ | refine dB_neI ?_ | refine dB_inI ?_ | refine dB_not ?_ | refine dB_and ?_ | refine dB_or ?_ | refine dB_chain ?_ | refine dB_eqD ?_ | refine dB_neD ?_ | refine dB_isi ?_
  | refine dL_var rfl ?_ | refine dL_ixO rfl ?_ | refine dL_ixT ?_ | refine dL_ixL ?_ | refine dL_o ?_
  | refine dT_var rfl ?_ | refine dT_ixL ?_ | refine dT_ixT ?_ | refine dT_tup ?_ | refine dT_slT ?_ | refine dT_catT ?_
  | refine de_var rfl ?_ | refine dX_ixO rfl ?_ | refine dX_ixT ?_ | refine dX_ixL ?_ | refine de_tup ?_ | refine de_c rfl ?_ | refine de_if ?_ | refine Do.de (do_lst ?_) | refine de_catTT ?_ | refine de_slTT ?_
  | refine dI_e (dI_op0 ?_) | refine dI_e (dI_op ?_) | refine dI_e (dI_un ?_) | refine dI_e (dI_lenO rfl ?_) | refine dI_e (dI_lenL ?_) | refine dI_e (dI_abs ?_) | refine dI_e (dI_two ?_) | refine dI_e (dI_intB ?_)
  | refine dB_e (dB_op0 ?_) | refine dB_e (dB_eqI ?_) | refine dB_e (dB_neI ?_) | refine dB_e (dB_inI ?_) | refine dB_e (dB_not ?_) | refine dB_e (dB_and ?_) | refine dB_e (dB_or ?_) | refine dB_e (dB_chain ?_) | refine dB_e (dB_eqD ?_) | refine dB_e (dB_neD ?_)
  | refine dt_tB ?_ | refine dt_tTest ?_ | refine dt_not ?_ | refine dt_and ?_ | refine dt_or ?_ | refine dt_yes ?_
  | refine da_nil ?_ | refine da_cons ?_ | refine dp_no ?_ | refine dp_partI ?_
  | refine di_rngI ?_ | refine di_listL ?_ | refine di_zipL ?_ | refine di_enumL ?_
  | refine do_lck rfl ?_ | refine do_lst ?_ | refine do_catL ?_ | refine do_slLL ?_ | refine do_revL ?_
  | refine dg_nm rfl ?_ | refine dg_name rfl (by simp) ?_ | refine dg_tup rfl ?_ | refine dgs_cons ?_ | refine dgs_nil ?_))
local macro_rules | `(tactic| walk_at "de") => `(tactic| (repeat (first | walk_at "de1" | (refine ⟨_, rfl, ?_⟩))))
local macro_rules | `(tactic| walk_at "nrm") => `(tactic| (try dsimp only [List.set, toD, wipeR, List.map, pairD, beadD, lookD]))

local macro_rules | `(tactic| walk_at "dg") => `(tactic| ((repeat (with_reducible first | refine dg_tup rfl ?_ | refine dg_unl rfl ?_ | refine dgs_cons ?_ | refine dgs_nil ?_ | refine dg_name rfl (by simp) ?_)); walk_at "nrm"))
abbrev sMostAcross : Stmt := topS 21
theorem scMostAcross : FnScope ["sums", "a", "b", "lot", "spare"] ["sums", "a", "b"] (defScope sMostAcross) := ⟨rfl, rfl, rfl, by decide +kernel, rfl, by decide +kernel, by decide +kernel⟩
/-! how many go forth, how many back -/
theorem zip_mid {α β : Type} : ∀ {A : List α} {B : List β} {i : Nat} {a : α} {b : β}, A[i]? = some a → B[i]? = some b → ∃ z1 z2, A.zip B = z1 ++ (a, b) :: z2 ∧ z1.length = i ∧ ∀ v, A.zip (B.set i v) = z1 ++ (a, v) :: z2
  | [], _, i, _, _, h, _ => by simp at h
  | _ :: _, [], i, _, _, _, h => by simp at h
  | x :: A, y :: B, 0, a, b, h, h' => by
    cases h; cases h'
    exact ⟨[], A.zip B, rfl, rfl, fun v => rfl⟩
  | x :: A, y :: B, i + 1, a, b, h, h' => by
    obtain ⟨z1, z2, e1, e2, e3⟩ := zip_mid (A := A) (B := B) (i := i) (by simpa using h) (by simpa using h')
    exact ⟨(x, y) :: z1, z2, by rw [List.zip_cons_cons, e1]; rfl, by rw [List.length_cons, e2], fun v => by rw [List.set_cons_succ, List.zip_cons_cons, e3]; rfl⟩
theorem cutv_mid (z1 z2 : List Dc) (x : Dc) (k : Nat) : cutv (z1 ++ x :: z2) k = cut1 k x + cutv (z1 ++ z2) k := map_mid (cut1 k) z1 z2 x
theorem metAt_mid (z1 z2 : List Dc) (x : Dc) (r : Nat) : metAt (z1 ++ x :: z2) r = ((if x.1.1 = r then x.2 else 0) + (if x.1.2 = r then x.2 else 0)) + metAt (z1 ++ z2) r := map_mid (fun x : Dc => (if x.1.1 = r then x.2 else 0) + (if x.1.2 = r then x.2 else 0)) z1 z2 x
/-- what is still owed can be paid by the doors that are left -/
structure SpI (n : Nat) (z : List Dc) (W : Nat → Int) : Prop where
  k : ∀ k, k < 2 ^ n → 0 ≤ ssum n W k + cutv z k
  s : ssum n W (2 ^ n - 1) = 0
  p : ∀ r, r < n → (W r - metAt z r) % 2 = 0
def owe (W : Nat → Int) (a b : Nat) (t : Int) : Nat → Int := fun r => W r + ((if r = b then t else 0) - (if r = a then t else 0))
theorem owe_sum {n : Nat} {W : Nat → Int} {a b : Nat} {t : Int} (ha : a < n) (hb : b < n) (k : Nat) : ssum n (owe W a b t) k = ssum n W k + (if k.testBit b then t else 0) - (if k.testBit a then t else 0) := by
  have e : ssum n (owe W a b t) k = ssum n (fun r => W r + (unit b t r + unit a (-t) r)) k := ssum_congr fun r _ => by
    unfold owe unit
    split <;> split <;> omega
  rw [e, ssum_add, ssum_add, ssum_unit n _ _ _ hb, ssum_unit n _ _ _ ha]
  split <;> split <;> omega
theorem spl_one {n a b : Nat} {c m : Int} {z1 z2 : List Dc} {W : Nat → Int} (I : SpI n (z1 ++ ((a, b), c) :: z2) W) (hz : ∀ x ∈ z1 ++ z2, x.1.1 < n ∧ x.1.2 < n) (h0 : ∀ x ∈ z1 ++ z2, 0 ≤ x.2) (ha : a < n) (hb : b < n) (hab : a ≠ b) (hc : 0 ≤ c)
    (m1 : ∀ k, k < 2 ^ n → k.testBit a = true → k.testBit b = false → m ≤ ssum n W k + cutv (z1 ++ ((a, b), 0) :: z2) k)
    (m2 : ∃ k, k < 2 ^ n ∧ k.testBit a = true ∧ k.testBit b = false ∧ m = ssum n W k + cutv (z1 ++ ((a, b), 0) :: z2) k) (t : Int) (ht : t = if m < c then m else c) :
    -c ≤ t ∧ t ≤ c ∧ (c + t) % 2 = 0 ∧ SpI n (z1 ++ ((a, b), 0) :: z2) (owe W a b t) := by
  have cz : ∀ k, cutv (z1 ++ ((a, b), 0) :: z2) k = cutv (z1 ++ z2) k := fun k => by
    rw [cutv_mid]
    unfold cut1
    dsimp only
    split <;> omega
  have cc : ∀ k, cutv (z1 ++ ((a, b), c) :: z2) k = (if (k.testBit a != k.testBit b) = true then c else 0) + cutv (z1 ++ z2) k := fun k => by rw [cutv_mid]; rfl
  have mz : ∀ r, metAt (z1 ++ ((a, b), 0) :: z2) r = metAt (z1 ++ z2) r := fun r => by
    rw [metAt_mid]
    dsimp only
    split <;> split <;> omega
  have mc : ∀ r, metAt (z1 ++ ((a, b), c) :: z2) r = ((if a = r then c else 0) + (if b = r then c else 0)) + metAt (z1 ++ z2) r := fun r => metAt_mid _ _ _ _
  obtain ⟨k0, q1, q2, q3, q4⟩ := m2
  have hzc : ∀ x ∈ z1 ++ ((a, b), c) :: z2, x.1.1 < n ∧ x.1.2 < n := fun x hx => by
    rcases List.mem_append.mp hx with q | q
    · exact hz x (List.mem_append_left _ q)
    · rcases List.mem_cons.mp q with rfl | q
      · exact ⟨ha, hb⟩
      · exact hz x (List.mem_append_right _ q)
  have par : ∀ k, (ssum n W k + cutv (z1 ++ ((a, b), c) :: z2) k) % 2 = 0 := fun k => by
    have h1 := met_cut (n := n) (k := k) hzc
    have h2 : ssum n (fun r => W r + metAt (z1 ++ ((a, b), c) :: z2) r) k % 2 = 0 := ssum_even k fun r hr => by
      have := I.p r hr
      omega
    rw [ssum_add] at h2
    have e1 : ssum n (fun r => metAt (z1 ++ ((a, b), c) :: z2) r) k = ssum n (metAt (z1 ++ ((a, b), c) :: z2)) k := rfl
    have e2 : ssum n (fun r => W r) k = ssum n W k := rfl
    omega
  have i0 := I.k k0 q1
  have p0 := par k0
  rw [cc, q2, q3] at i0 p0
  rw [cz] at q4
  simp at i0 p0
  have t1 : -c ≤ t := by rw [ht]; split <;> omega
  have t2 : t ≤ c := by rw [ht]; split <;> omega
  have t3 : (c + t) % 2 = 0 := by rw [ht]; split <;> omega
  refine ⟨t1, t2, t3, fun k hk => ?_, ?_, fun r hr => ?_⟩
  · rw [owe_sum ha hb, cz]
    have i1 := I.k k hk
    rw [cc] at i1
    cases ca : k.testBit a <;> cases cb : k.testBit b <;> rw [ca, cb] at i1 <;> simp at i1 ⊢
    · omega
    · -- b within, a without
      by_cases ct : t = c
      · omega
      · have tm : t = m := by rw [ht] at ct ⊢; split at ct <;> split <;> omega
        have s1 := ssum_two n W k k0
        have s2 := cut_sub k k0 h0
        have hor : k ||| k0 < 2 ^ n := Nat.or_lt_two_pow hk q1
        have hand : k &&& k0 < 2 ^ n := Nat.lt_of_le_of_lt Nat.and_le_left hk
        have i2 := I.k _ hor
        have i3 := I.k _ hand
        rw [cc, Nat.testBit_or, Nat.testBit_or, ca, cb, q2, q3] at i2
        rw [cc, Nat.testBit_and, Nat.testBit_and, ca, cb, q2, q3] at i3
        simp at i2 i3
        omega
    · have h1 := m1 k hk ca cb
      rw [cz] at h1
      have : t ≤ m := by rw [ht]; split <;> omega
      omega
    · omega
  · rw [owe_sum ha hb, full_bit ha, full_bit hb, I.s]
    simp
  · have h1 := I.p r hr
    rw [mc] at h1
    rw [mz]
    unfold owe
    by_cases c1 : r = a
    · have c2 : ¬ r = b := fun e => hab (c1.symm.trans e)
      rw [if_pos c1.symm, if_neg (fun e => c2 e.symm)] at h1
      rw [if_neg c2, if_pos c1]; omega
    · by_cases c2 : r = b
      · rw [if_neg (fun e => c1 e.symm), if_pos c2.symm] at h1
        rw [if_pos c2, if_neg c1]; omega
      · rw [if_neg (fun e => c1 e.symm), if_neg (fun e => c2 e.symm)] at h1
        rw [if_neg c2, if_neg c1]; omega
/-- at last nothing is owed -/
theorem spl_end {n : Nat} {z : List Dc} {W : Nat → Int} (I : SpI n z W) (hz : ∀ x ∈ z, x.2 = 0) : ∀ r, r < n → W r = 0 := fun r hr => by
  have c0 : ∀ k, cutv z k = 0 := fun k => by
    have : ∀ z : List Dc, (∀ x ∈ z, x.2 = 0) → cutv z k = 0 := by
      intro z
      induction z with
      | nil => intro _; rfl
      | cons x z ih =>
        intro h
        rw [cutv_cons, ih fun y hy => h y (List.mem_cons_of_mem _ hy)]
        unfold cut1
        rw [h x List.mem_cons_self]
        split <;> rfl
    exact this z hz
  have pr : 2 ^ r < 2 ^ n := Nat.pow_lt_pow_right (by decide) hr
  have h1 := I.k (2 ^ r) pr
  have h2 := I.k (besK n (2 ^ r)) (bes_lt _ _)
  have h3 := ssum_bes (n := n) (x := W) pr
  rw [I.s] at h3
  rw [c0] at h1 h2
  rw [ssum_bitA W hr] at h1 h3
  omega
structure Mx where
  n : Nat
  F : Nat → Int
  a : Nat
  b : Nat
def spMost (K : PySem.W.Frag) : Sp := spD (ι := Mx) K Wn [] (fun i => [intsD (tabL i.n i.F), .int (i.a : Int), .int (i.b : Int)]) (fun i _ => i.n ≤ 10 ∧ i.a < i.n ∧ i.b < i.n ∧ i.a ≠ i.b) (fun i _ _ s => ∃ m : Int, s = .d (.int m) ∧ (∀ k, k < 2 ^ i.n → k.testBit i.a = true → k.testBit i.b = false → m ≤ i.F k) ∧ ∃ k, k < 2 ^ i.n ∧ k.testBit i.a = true ∧ k.testBit i.b = false ∧ m = i.F k)
section
variable {P : Program} {w : World} {K : PySem.W.Frag} {mg : Str → Option Value} {base : Heap}
theorem ok_most {f : Addr} {fd : FuncData} (F : Fun K "_most_across" "_most_across" sMostAcross f fd) (m_min : mg "min" = none) (m_enumerate : mg "enumerate" = none) : FnG P w K mg base 1 f fd ["sums", "a", "b"] (spMost K) := by
  have sc := scMostAcross
  refine fnG_of F scMostAcross (fun vs H Q E h => spD_len h fun i => rfl) (fun cdv A outer s H vs Q E hr hg h => ?_)
  refine ⟨_, (pss_one (ps_ret (pe_callB (cr_min rfl) (by rfl) m_min (by decide +kernel) (pa_cons (pe_lc (own := [("lot", 3), ("spare", 4)]) (g := gTup K 2 (gCons (gName 3) (gCons (gName 4) gNil)))  (by rfl) sc.nd  (pi_enum (by rfl) m_enumerate (pa_cons (pv 0) pa_nil)) (blkOk_by (own := [("lot", 3), ("spare", 4)]) (N := ["sums", "a", "b", "lot", "spare"]) (sc := defScope sMostAcross) (by decide +kernel)) (fun _ _ _ _ _ => (pg_tup (by rfl) (pgs_cons (pg_name (i := 3) sc.nd rfl (.inl rfl)) (pgs_cons (pg_name (i := 4) sc.nd rfl (.inl rfl)) pgs_nil)))) (fun _ _ _ _ _ => (pts_one (PW.pt (pw_and (pt_tru rfl (pe_op op_band (pe_op op_shr (pv 3) (pv 1)) pe_int) (by intro _; rfl)) (pw_and1 (pt_not (pt_tru rfl (pe_op op_band (pe_op op_shr (pv 3) (pv 2)) pe_int) (by intro _; rfl)))))))) (fun _ _ _ _ _ => (pv 4))) pa_nil)))), ?_⟩
  try dsimp only [cxOf, L2.Cx.nox]
  refine fn_ds (fun i : Mx => [.d (intsD (tabL i.n i.F)), .d (.int (i.a : Int)), .d (.int (i.b : Int)), .un, .un]) h (fun i => rfl) fun i ν hi => ?_
  obtain ⟨n, F, a, b⟩ := i
  obtain ⟨hn, ha, hb, hab⟩ := hi
  dsimp only at hn ha hb hab ⊢
  have h2 : 2 ^ n ≤ 2 ^ 10 := Nat.pow_le_pow_right (by decide) hn
  have eT : (tabL n F).map PyData.int = (List.range (2 ^ n)).map fun k => PyData.int (F k) := by unfold tabL; rw [List.map_map]; rfl
  refine ds_ret (dI_e (dI_minL (dL_o (do_lck rfl (di_enumL (dL_var rfl ?_))))))
  rw [eT, enum_map]
  refine lcF (fun (j : Nat) => PyData.tuple [.int (j : Int), .int (F j)]) (List.range (2 ^ n)) (fun j => j.testBit a && !j.testBit b) (fun j => .int (F j)) (szL (by rw [List.length_range]; omega)) rfl (fun j hj => ?_) ?_
  · have hj := List.mem_range.mp hj
    walk_at "dg"
    have bb : ∀ r : Nat, (Builtin.bitAnd ((j : Int) / 2 ^ ((r : Int)).toNat) 1 != 0) = j.testBit r := fun r => by
      rw [bitAnd_m1, Int.toNat_natCast]
      have e : ((j : Int) / 2 ^ r) % 2 = ((j / 2 ^ r % 2 : Nat) : Int) := by
        rw [Int.natCast_emod, Int.natCast_ediv, Int.natCast_pow]; rfl
      rw [e, Nat.testBit_eq_decide_div_mod_eq]
      have h2 := Nat.mod_two_eq_zero_or_one (j / 2 ^ r)
      rcases h2 with h2 | h2 <;> rw [h2] <;> rfl
    refine dt_and (dt_truI ?_)
    walk_at "de"
    refine ⟨by omega, ?_⟩
    walk_at "de"
    rw [bb a]
    refine ⟨fun e => dt_not (dt_truI ?_), fun e => ⟨rfl, by rw [e]; rfl, fun z => by rw [e] at z; cases z⟩⟩
    walk_at "de"
    refine ⟨by omega, ?_⟩
    walk_at "de"
    rw [bb b]
    exact ⟨rfl, by rw [e]; rfl, fun _ => de_var rfl ⟨rfl, rfl⟩⟩
  · have pa : 2 ^ a < 2 ^ n := Nat.pow_lt_pow_right (by decide) ha
    refine ⟨((List.range (2 ^ n)).filter fun j => j.testBit a && !j.testBit b).map F, by rw [List.map_map]; rfl, ?_, fun m m1 m2 => ?_⟩
    · rw [List.length_map]
      refine List.length_pos_of_mem (a := 2 ^ a) (List.mem_filter.mpr ⟨List.mem_range.mpr pa, ?_⟩)
      rw [one_bit, one_bit, decide_eq_true rfl, decide_eq_false hab]; rfl
    · refine ⟨m, rfl, fun k hk k1 k2 => ?_, ?_⟩
      · exact m2 (F k) (List.mem_map_of_mem (List.mem_filter.mpr ⟨List.mem_range.mpr hk, by rw [k1, k2]; rfl⟩))
      · obtain ⟨k, hk, e⟩ := List.mem_map.mp m1
        obtain ⟨h1, h2⟩ := List.mem_filter.mp hk
        rw [Bool.and_eq_true] at h2
        exact ⟨k, List.mem_range.mp h1, h2.1, by simpa using h2.2, e.symm⟩
end
end Bd
set_option maxHeartbeats 4000000
namespace Bd
open PySem PySem.Spec PyProof.Rows L2 HT
/-! rows of goings: what they lead to -/
def fN (ds : List (Nat × Nat)) (B : List Int) (L : List Gg) : List Int := L.foldl (fun F x => stepTo ds F x) B
def addM (M : List Int) (x : Gg) : List Int := M.set x.1.toNat (M.getD x.1.toNat 0 + 1)
def fM (ds : List (Nat × Nat)) (L : List Gg) : List Int := L.foldl addM (List.replicate ds.length 0)
theorem fN_snoc (ds : List (Nat × Nat)) (B : List Int) (L : List Gg) (x : Gg) : fN ds B (L ++ [x]) = stepTo ds (fN ds B L) x := by unfold fN; rw [List.foldl_append]; rfl
theorem fM_snoc (ds : List (Nat × Nat)) (L : List Gg) (x : Gg) : fM ds (L ++ [x]) = addM (fM ds L) x := by unfold fM; rw [List.foldl_append]; rfl
theorem fN_len (ds : List (Nat × Nat)) (L : List Gg) : ∀ B : List Int, (fN ds B L).length = B.length := by
  unfold fN
  induction L with
  | nil => intro B; rfl
  | cons x L ih => intro B; rw [List.foldl_cons, ih, step_len]
theorem fM_len (ds : List (Nat × Nat)) (L : List Gg) : (fM ds L).length = ds.length := by
  have gen : ∀ (L : List Gg) (M : List Int), (L.foldl addM M).length = M.length := by
    intro L
    induction L with
    | nil => intro M; rfl
    | cons x L ih => intro M; rw [List.foldl_cons, ih]; unfold addM; rw [List.length_set]
  unfold fM
  rw [gen, List.length_replicate]
structure GoOk (ds : List (Nat × Nat)) (F : List Int) (x : Gg) : Prop where
  d0 : 0 ≤ x.1
  d1 : x.1 < ds.length
  w0 : 0 ≤ x.2
  w1 : x.2 ≤ 1
  n : 1 ≤ F.getD (outOf ds x) 0
structure Rn (ds : List (Nat × Nat)) (B : List Int) (L : List Gg) : Prop where
  at_ : ∀ i x, L[i]? = some x → GoOk ds (fN ds B (L.take i)) x
theorem Rn.nil (ds : List (Nat × Nat)) (B : List Int) : Rn ds B [] := ⟨fun i x h => by simp at h⟩
theorem Rn.snoc {ds : List (Nat × Nat)} {B : List Int} {L : List Gg} {x : Gg} (h : Rn ds B L) (g : GoOk ds (fN ds B L) x) : Rn ds B (L ++ [x]) := ⟨fun i y hi => by
  by_cases c : i < L.length
  · rw [List.getElem?_append_left c] at hi
    rw [List.take_append_of_le_length (by omega)]
    exact h.at_ i y hi
  · have hl := lt_of_at hi
    rw [List.length_append, List.length_singleton] at hl
    have e : i = L.length := by omega
    rw [List.getElem?_append_right (by omega), e, Nat.sub_self] at hi
    have e2 : x = y := Option.some.inj hi
    rw [e, List.take_append_of_le_length (Nat.le_refl _), List.take_of_length_le (Nat.le_refl _), ← e2]
    exact g⟩
theorem Rn.front {ds : List (Nat × Nat)} {B : List Int} {L : List Gg} {x : Gg} (h : Rn ds B (L ++ [x])) : Rn ds B L ∧ GoOk ds (fN ds B L) x := by
  refine ⟨⟨fun i y hi => ?_⟩, ?_⟩
  · have hl := lt_of_at hi
    have := h.at_ i y (by rw [List.getElem?_append_left hl]; exact hi)
    rwa [List.take_append_of_le_length (by omega)] at this
  · have := h.at_ L.length x (by rw [List.getElem?_append_right (Nat.le_refl _), Nat.sub_self]; rfl)
    rwa [List.take_append_of_le_length (Nat.le_refl _), List.take_of_length_le (Nat.le_refl _)] at this
theorem step_at {ds : List (Nat × Nat)} {F : List Int} {x : Gg} {r : Nat} (ho : outOf ds x < F.length) (hi : intoOf ds x < F.length) (hne : outOf ds x ≠ intoOf ds x) : (stepTo ds F x).getD r 0 = stN (fun r => F.getD r 0) (outOf ds x) (intoOf ds x) r := by
  unfold stepTo stN
  dsimp only
  rw [getD_set2 (by rw [List.length_set]; exact hi), getD_set2 ho, getD_set2 ho]
  by_cases c1 : r = intoOf ds x
  · have c2 : ¬ r = outOf ds x := fun e => hne (e.symm.trans c1)
    rw [if_pos c1, if_pos c1, if_neg c2, if_neg (fun e => hne e.symm), c1]; omega
  · rw [if_neg c1, if_neg c1]
    by_cases c2 : r = outOf ds x
    · rw [if_pos c2, if_pos c2, c2]; omega
    · rw [if_neg c2, if_neg c2]; omega
theorem outs_of {rooms : Nat} {ds : List (Nat × Nat)} (hD : Doors rooms ds) {x : Gg} (h0 : 0 ≤ x.1) (h1 : x.1 < ds.length) : ∃ a b, ds[x.1.toNat]? = some (a, b) ∧ a < rooms ∧ b < rooms ∧ a ≠ b ∧ ((x.2 = 0 ∧ outOf ds x = a ∧ intoOf ds x = b) ∨ (x.2 ≠ 0 ∧ outOf ds x = b ∧ intoOf ds x = a)) := by
  obtain ⟨p, _, e'⟩ := at_lt (f := pairD) h0 h1
  obtain ⟨q1, q2, q3⟩ := hD p (List.mem_of_getElem? e')
  refine ⟨p.1, p.2, e', q1, q2, q3, ?_⟩
  unfold outOf intoOf
  rw [List.getD_eq_getElem?_getD, e']
  show (x.2 = 0 ∧ (if x.2 = 0 then p.1 else p.2) = p.1 ∧ (if x.2 = 0 then p.2 else p.1) = p.2) ∨ (x.2 ≠ 0 ∧ (if x.2 = 0 then p.1 else p.2) = p.2 ∧ (if x.2 = 0 then p.2 else p.1) = p.1)
  by_cases c : x.2 = 0
  · rw [if_pos c, if_pos c]; exact .inl ⟨c, rfl, rfl⟩
  · rw [if_neg c, if_neg c]; exact .inr ⟨c, rfl, rfl⟩
theorem step_lsum {ds : List (Nat × Nat)} {F : List Int} {x : Gg} (ho : outOf ds x < F.length) (hi : intoOf ds x < F.length) (hne : outOf ds x ≠ intoOf ds x) (k : Nat) : lsum (stepTo ds F x) k = lsum F k + (if k.testBit (intoOf ds x) then 1 else 0) - (if k.testBit (outOf ds x) then 1 else 0) := by
  unfold lsum
  rw [step_len, ← stN_sum ho hi]
  exact ssum_congr fun r _ => step_at ho hi hne
/-- what holds behind each row of goings -/
structure WkI (t : Hc) (B F : List Int) : Prop where
  m0 : ∀ x ∈ t.C, 0 ≤ x
  f0 : ∀ r, r < t.rooms → 0 ≤ F.getD r 0
  s : lsum F (2 ^ t.rooms - 1) = lsum B (2 ^ t.rooms - 1)
  p : ∀ r, r < t.rooms → (F.getD r 0 - B.getD r 0 - metAt t.z r) % 2 = 0
  c1 : ∀ k, k < 2 ^ t.rooms → lsum F k ≤ lsum B k + cutv t.z k
  c2 : ∀ k, k < 2 ^ t.rooms → lsum B k ≤ lsum F k + cutv t.z k
  o : ∀ k, k < 2 ^ t.rooms → cutv t.z k = 0 → ∀ i, i < t.rooms → k.testBit i = true → 0 < metAt t.z i → 0 < lsum B k
theorem run_wk {n : Nat} {ds : List (Nat × Nat)} {B : List Int} (hD : Doors n ds) (hB : B.length = n) (hb : ∀ x ∈ B, 0 ≤ x) : ∀ {m : Nat} {L : List Gg}, L.length = m → Rn ds B L → WkI ⟨n, ds, fM ds L⟩ B (fN ds B L) := by
  intro m
  induction m with
  | zero =>
    intro L hl hL
    have : L = [] := List.length_eq_zero_iff.mp hl
    subst this
    have hz : ∀ x ∈ Hc.z ⟨n, ds, fM ds []⟩, x.2 = 0 := fun x hx => by
      have := (List.of_mem_zip (a := x.1) (b := x.2) hx).2
      exact (List.mem_replicate.mp this).2
    have c0 : ∀ k, cutv (Hc.z ⟨n, ds, fM ds []⟩) k = 0 := fun k => by
      have gen : ∀ z : List Dc, (∀ x ∈ z, x.2 = 0) → cutv z k = 0 := by
        intro z
        induction z with
        | nil => intro _; rfl
        | cons x z ih =>
          intro h
          rw [cutv_cons, ih fun y hy => h y (List.mem_cons_of_mem _ hy)]
          unfold cut1
          rw [h x List.mem_cons_self]
          split <;> rfl
      exact gen _ hz
    have m0 : ∀ r, metAt (Hc.z ⟨n, ds, fM ds []⟩) r = 0 := fun r => by
      have gen : ∀ z : List Dc, (∀ x ∈ z, x.2 = 0) → metAt z r = 0 := by
        intro z
        induction z with
        | nil => intro _; rfl
        | cons x z ih =>
          intro h
          rw [met_cons, ih fun y hy => h y (List.mem_cons_of_mem _ hy), h x List.mem_cons_self]
          split <;> split <;> rfl
      exact gen _ hz
    refine ⟨fun x hx => by rw [(List.mem_replicate.mp hx).2]; exact Int.le_refl 0, fun r hr => hb _ (getD_mem (by show r < B.length; dsimp only at hr; omega)), rfl, fun r hr => ?_, fun k _ => ?_, fun k _ => ?_, fun k _ _ i _ _ hm => ?_⟩
    · rw [m0]
      show (B.getD r 0 - B.getD r 0 - 0) % 2 = 0
      omega
    · rw [c0]
      show lsum B k ≤ lsum B k + 0
      omega
    · rw [c0]
      show lsum B k ≤ lsum B k + 0
      omega
    · rw [m0] at hm
      omega
  | succ m ih =>
    intro L hl hL
    obtain ⟨L0, x, rfl⟩ : ∃ L0 x, L = L0 ++ [x] := ⟨L.dropLast, L.getLast (fun e => by rw [e] at hl; cases hl), (List.dropLast_concat_getLast _).symm⟩
    obtain ⟨hR, g⟩ := hL.front
    have I := ih (by simpa using hl) hR
    obtain ⟨a, b, hd, ha, hb2, hab, hw⟩ := outs_of hD g.d0 g.d1
    have hoi : outOf ds x < n ∧ intoOf ds x < n ∧ outOf ds x ≠ intoOf ds x := by
      rcases hw with ⟨_, e1, e2⟩ | ⟨_, e1, e2⟩ <;> rw [e1, e2]
      · exact ⟨ha, hb2, hab⟩
      · exact ⟨hb2, ha, fun e => hab e.symm⟩
    have lF : (fN ds B L0).length = n := by rw [fN_len, hB]
    have ol : outOf ds x < (fN ds B L0).length := by rw [lF]; exact hoi.1
    have il : intoOf ds x < (fN ds B L0).length := by rw [lF]; exact hoi.2.1
    have dl : x.1.toNat < (fM ds L0).length := by rw [fM_len]; exact lt_of_at hd
    rw [fN_snoc, fM_snoc]
    obtain ⟨z1, z2, e1, _, e3⟩ := zip_mid hd (getD_some dl)
    have ez : Hc.z ⟨n, ds, fM ds L0⟩ = z1 ++ ((a, b), (fM ds L0).getD x.1.toNat 0) :: z2 := e1
    have ez' : Hc.z ⟨n, ds, addM (fM ds L0) x⟩ = z1 ++ ((a, b), (fM ds L0).getD x.1.toNat 0 + 1) :: z2 := e3 _
    have c0 := I.m0 _ (getD_mem dl)
    generalize (fM ds L0).getD x.1.toNat 0 = c at ez ez' c0
    have cu : ∀ k, cutv (Hc.z ⟨n, ds, addM (fM ds L0) x⟩) k = cutv (Hc.z ⟨n, ds, fM ds L0⟩) k + (if (k.testBit a != k.testBit b) = true then 1 else 0) := fun k => by
      rw [ez, ez', cutv_mid, cutv_mid]
      unfold cut1
      dsimp only
      split <;> omega
    have me : ∀ r, metAt (Hc.z ⟨n, ds, addM (fM ds L0) x⟩) r = metAt (Hc.z ⟨n, ds, fM ds L0⟩) r + ((if a = r then 1 else 0) + (if b = r then 1 else 0)) := fun r => by
      rw [ez, ez', metAt_mid, metAt_mid]
      dsimp only
      split <;> split <;> omega
    have nn : ∀ y ∈ Hc.z ⟨n, ds, fM ds L0⟩, 0 ≤ y.2 := fun y hy => I.m0 _ (List.of_mem_zip (a := y.1) (b := y.2) hy).2
    have ls : ∀ k, lsum (stepTo ds (fN ds B L0) x) k = lsum (fN ds B L0) k + (if k.testBit b then 1 else 0) - (if k.testBit a then 1 else 0) ∨ lsum (stepTo ds (fN ds B L0) x) k = lsum (fN ds B L0) k + (if k.testBit a then 1 else 0) - (if k.testBit b then 1 else 0) := fun k => by
      rw [step_lsum ol il hoi.2.2]
      rcases hw with ⟨_, q1, q2⟩ | ⟨_, q1, q2⟩ <;> rw [q1, q2]
      · exact .inl rfl
      · exact .inr rfl
    refine ⟨fun y hy => ?_, fun r hr => ?_, ?_, fun r hr => ?_, fun k hk => ?_, fun k hk => ?_, fun k hk hc i hi hki hm => ?_⟩
    · rcases List.mem_or_eq_of_mem_set hy with q | q
      · exact I.m0 y q
      · rw [q]
        have : 0 ≤ (fM ds L0).getD x.1.toNat 0 := I.m0 _ (getD_mem dl)
        show 0 ≤ (fM ds L0).getD x.1.toNat 0 + 1
        omega
    · rw [step_at ol il hoi.2.2]
      have h1 := I.f0 r hr
      have h2 := g.n
      unfold stN
      dsimp only
      by_cases q : r = outOf ds x
      · have h5 : (fN ds B L0).getD r 0 = (fN ds B L0).getD (outOf ds x) 0 := by rw [q]
        rw [if_pos q]; split <;> omega
      · rw [if_neg q]; split <;> omega
    · have h1 := I.s
      have h2 := ls (2 ^ n - 1)
      rw [full_bit ha, full_bit hb2] at h2
      dsimp only at h1 ⊢
      simp at h2
      rw [h2]
      exact h1
    · rw [step_at ol il hoi.2.2, me]
      have h1 := I.p r hr
      unfold stN
      dsimp only
      rcases hw with ⟨_, q1, q2⟩ | ⟨_, q1, q2⟩ <;> rw [q1, q2]
      · by_cases c1 : a = r <;> by_cases c2 : b = r
        · exact absurd (c1.trans c2.symm) hab
        · rw [if_pos c1, if_neg c2, if_neg (fun e => c2 e.symm), if_pos c1.symm]; omega
        · rw [if_neg c1, if_pos c2, if_pos c2.symm, if_neg (fun e => c1 e.symm)]; omega
        · rw [if_neg c1, if_neg c2, if_neg (fun e => c2 e.symm), if_neg (fun e => c1 e.symm)]; omega
      · by_cases c1 : a = r <;> by_cases c2 : b = r
        · exact absurd (c1.trans c2.symm) hab
        · rw [if_pos c1, if_neg c2, if_pos c1.symm, if_neg (fun e => c2 e.symm)]; omega
        · rw [if_neg c1, if_pos c2, if_neg (fun e => c1 e.symm), if_pos c2.symm]; omega
        · rw [if_neg c1, if_neg c2, if_neg (fun e => c1 e.symm), if_neg (fun e => c2 e.symm)]; omega
    · have h1 := I.c1 k hk
      have h2 := ls k
      rw [cu]
      cases ca : k.testBit a <;> cases cb : k.testBit b <;> rw [ca, cb] at h2 <;> simp at h2 ⊢ <;> omega
    · have h1 := I.c2 k hk
      have h2 := ls k
      rw [cu]
      cases ca : k.testBit a <;> cases cb : k.testBit b <;> rw [ca, cb] at h2 <;> simp at h2 ⊢ <;> omega
    · rw [cu] at hc
      rw [me] at hm
      have cn := cut_nn (k := k) nn
      have hcz : cutv (Hc.z ⟨n, ds, fM ds L0⟩) k = 0 := by split at hc <;> omega
      have same : k.testBit a = k.testBit b := by
        cases ca : k.testBit a <;> cases cb : k.testBit b <;> rw [ca, cb] at hc <;> simp at hc <;> first | rfl | omega
      by_cases q : 0 < metAt (Hc.z ⟨n, ds, fM ds L0⟩) i
      · exact I.o k hk hcz i hi hki q
      · have hab' : k.testBit a = true := by
          by_cases c1 : a = i
          · rw [c1]; exact hki
          · by_cases c2 : b = i
            · rw [same, c2]; exact hki
            · rw [if_neg c1, if_neg c2] at hm
              omega
        have ho : k.testBit (outOf ds x) = true := by
          rcases hw with ⟨_, q1, _⟩ | ⟨_, q1, _⟩ <;> rw [q1]
          · exact hab'
          · rw [← same]; exact hab'
        have h1 := ssum_ge (n := n) (x := fun r => (fN ds B L0).getD r 0) (k := k) I.f0 hoi.1 ho
        have h2 := g.n
        have h3 := I.c1 k hk
        have h4 : lsum (fN ds B L0) k = ssum n (fun r => (fN ds B L0).getD r 0) k := by unfold lsum; rw [lF]
        omega
theorem runs_end {n : Nat} {ds : List (Nat × Nat)} {B : List Int} (hn : n ≤ 10) (hd : ds.length ≤ 100) (hD : Doors n ds) (hB : B.length = n) (hb : ∀ x ∈ B, 0 ≤ x) {L : List Gg} (hL : Rn ds B L) : Rt21 ⟨⟨n, ds, fM ds L⟩, B⟩ ∧ EndC ⟨n, ds, fM ds L⟩ B (fN ds B L) := by
  have I := run_wk hD hB hb rfl hL
  have ok : Hc.Ok ⟨n, ds, fM ds L⟩ := ⟨hD, hn, hd, fM_len ds L⟩
  refine ⟨⟨⟨ok, hB⟩, I.m0, hb⟩, ?_, I.f0, fun r hr => ?_, ?_, fun k hk => ?_⟩
  · have h1 := I.s
    have h2 := lsum_full B
    have h3 := lsum_full (fN ds B L)
    rw [fN_len, hB] at h3
    rw [hB] at h2
    dsimp only at h1
    omega
  · have := I.p r hr
    unfold oddAt
    omega
  · exact (empty_iff ok I.m0 hB hb).mpr I.o
  · have := I.c1 k hk
    unfold slk
    omega
end Bd
set_option maxHeartbeats 4000000
namespace Bd
open PySem PySem.Spec PyProof.Rows L2 HT
local macro_rules | `(tactic| walk_at "de1") => `(tactic| (with_reducible first
  | refine dI_var rfl ?_ | refine dI_c ?_ | refine dI_op0 ?_ | refine dI_op ?_ | refine dI_un ?_ | refine dI_ixO rfl ?_ | refine dI_ixT ?_ | refine dI_ixL ?_ | refine dI_if ?_ | refine dI_lenO rfl ?_ | refine dI_lenL ?_ | refine dI_abs ?_ | refine dI_two ?_ | refine dI_intB ?_
  | refine dB_var rfl ?_ | refine dB_c ?_ | refine dB_op0 ?_ | refine dB_eqI ?_ | refine dB_neI ?_ | refine dB_inI ?_ | refine dB_not ?_ | refine dB_and ?_ | refine dB_or ?_ | refine dB_chain ?_ | refine dB_eqD ?_ | refine dB_neD ?_ | refine dB_isi ?_
  | refine dL_var rfl ?_ | refine dL_ixO rfl ?_ | refine dL_ixT ?_ | refine dL_ixL ?_ | refine dL_o ?_
  | refine dT_var rfl ?_ | refine dT_ixL ?_ | refine dT_ixT ?_ | refine dT_tup ?_ | refine dT_slT ?_ | refine dT_catT ?_
  | refine de_var rfl ?_ | refine dX_ixO rfl ?_ | refine dX_ixT ?_ | refine dX_ixL ?_ | refine de_tup ?_ | refine de_c rfl ?_ | refine de_if ?_ | refine Do.de (do_lst ?_) | refine de_catTT ?_ | refine de_slTT ?_
  | refine dI_e (dI_op0 ?_) | refine dI_e (dI_op ?_) | refine dI_e (dI_un ?_) | refine dI_e (dI_lenO rfl ?_) | refine dI_e (dI_lenL ?_) | refine dI_e (dI_abs ?_) | refine dI_e (dI_two ?_) | refine dI_e (dI_intB ?_)
  | refine dB_e (dB_op0 ?_) | refine dB_e (dB_eqI ?_) | refine dB_e (dB_neI ?_) | refine dB_e (dB_inI ?_) | refine dB_e (dB_not ?_) | refine dB_e (dB_and ?_) | refine dB_e (dB_or ?_) | refine dB_e (dB_chain ?_) | refine dB_e (dB_eqD ?_) | refine dB_e (dB_neD ?_)
  | refine dt_tB ?_ | refine dt_tTest ?_ | refine dt_not ?_ | refine dt_and ?_ | refine dt_or ?_ | refine dt_yes ?_
  | refine da_nil ?_ | refine da_cons ?_ | refine dp_no ?_ | refine dp_partI ?_
  | refine di_rngI ?_ | refine di_listL ?_ | refine di_zipL ?_ | refine di_enumL ?_
  | refine do_lck rfl ?_ | refine do_lst ?_ | refine do_catL ?_ | refine do_slLL ?_ | refine do_revL ?_
  | refine dg_nm rfl ?_ | refine dg_name rfl (by simp) ?_ | refine dg_tup rfl ?_ | refine dgs_cons ?_ | refine dgs_nil ?_))
local macro_rules | `(tactic| walk_at "de") => `(tactic| (repeat (first | walk_at "de1" | (refine ⟨_, rfl, ?_⟩))))
local macro_rules | `(tactic| walk_at "nrm") => `(tactic| (try dsimp only [List.set, toD, wipeR, List.map, pairD, beadD, lookD]))

local macro_rules | `(tactic| walk_at "dg") => `(tactic| ((repeat (with_reducible first | refine dg_tup rfl ?_ | refine dg_unl rfl ?_ | refine dgs_cons ?_ | refine dgs_nil ?_ | refine dg_name rfl (by simp) ?_)); walk_at "nrm"))
abbrev sGoesWell : Stmt := topS 23
theorem scGoesWell : FnScope ["house", "numbers", "left", "door", "way", "behind", "counts", "there", "back", "part", "room"] ["house", "numbers", "left", "door", "way"] (defScope sGoesWell) := ⟨rfl, rfl, rfl, by decide +kernel, rfl, by decide +kernel, by decide +kernel⟩
abbrev sNextGoing : Stmt := topS 22
theorem scNextGoing : FnScope ["house", "numbers", "left", "door", "way"] ["house", "numbers", "left"] (defScope sNextGoing) := ⟨rfl, rfl, rfl, by decide +kernel, rfl, by decide +kernel, by decide +kernel⟩
/-! which going is gone next -/
def prD (p : Int × Int) : PyData := intsD [p.1, p.2]
def matD (L : List (Int × Int)) : PyData := .list (L.map prD)
def sumL (L : List (Int × Int)) : List Int := L.map fun p => p.1 + p.2
theorem sumL_len (L : List (Int × Int)) : (sumL L).length = L.length := by unfold sumL; rw [List.length_map]
structure Wl where
  n : Nat
  ds : List (Nat × Nat)
  F : List Int
  L : List (Int × Int)
  d : Int
  w : Int
structure Wl.Ok (i : Wl) : Prop where
  doors : Doors i.n i.ds
  r1 : i.n ≤ 10
  d1 : i.ds.length ≤ 100
  lF : i.F.length = i.n
  lL : i.L.length = i.ds.length
  d0 : 0 ≤ i.d
  dl : i.d < i.ds.length
def lessC (L : List (Int × Int)) (d : Nat) : List Int := (sumL L).set d ((sumL L).getD d 0 - 1)
def Well (i : Wl) : Prop := i.F.getD (outOf i.ds (i.d, i.w)) 0 ≠ 0 ∧ emptyL ⟨i.n, i.ds, lessC i.L i.d.toNat⟩ (stepTo i.ds i.F (i.d, i.w)) = []
def spWell (K : PySem.W.Frag) : Sp := spD (ι := Wl) K Wn [] (fun i => [houseD i.n i.ds, intsD i.F, matD i.L, .int i.d, .int i.w]) (fun i _ => i.Ok) (fun i _ _ s => ∃ b, s = .d (.bool b) ∧ (b = true ↔ Well i))
structure Nx where
  n : Nat
  ds : List (Nat × Nat)
  F : List Int
  L : List (Int × Int)
def share (L : List (Int × Int)) (d : Nat) (w : Int) : Int := if w = 0 then (L.getD d (0, 0)).1 else (L.getD d (0, 0)).2
structure NxG (i : Nx) (d : Nat) (w : Int) : Prop where
  hd : d < i.ds.length
  hw : w = 0 ∨ w = 1
  s : 0 < share i.L d w
  g : Well ⟨i.n, i.ds, i.F, i.L, (d : Int), w⟩
structure Nx.Ok (i : Nx) : Prop where
  doors : Doors i.n i.ds
  r1 : i.n ≤ 10
  d1 : i.ds.length ≤ 100
  lF : i.F.length = i.n
  lL : i.L.length = i.ds.length
  ex : ∃ d w, NxG i d w
def spNext (K : PySem.W.Frag) : Sp := spD (ι := Nx) K Wn [] (fun i => [houseD i.n i.ds, intsD i.F, matD i.L]) (fun i _ => i.Ok) (fun i _ _ s => ∃ (d : Nat) (w : Int), s = .d (.tuple [.int (d : Int), .int w]) ∧ NxG i d w)
theorem mat_at {L : List (Int × Int)} {d : Nat} (h : d < L.length) : (L.map prD)[d]? = some (prD (L.getD d (0, 0))) := by
  rw [List.getElem?_map, List.getD_eq_getElem?_getD, List.getElem?_eq_getElem h]; rfl
theorem ds_thn2 {K : PySem.W.Frag} {W : Wd} {ρ : List Sl} {ν : Nat} {t : TS} {P : Po} (M : Nat → List Sl → Prop) (h : Ds K W ρ ν t { P with nx := M }) (h2 : ∀ ν' ρ', M ν' ρ' → Ds K W ρ' ν' tNext P) : Ds K W ρ ν t P :=
  fun S B σ H D st e => h S B σ H D st ⟨fun ν' ρ' σ' H' st' hm => h2 ν' ρ' hm S B σ' H' D st' e, e.rt, e.bk, e.ct⟩
section
variable {P : Program} {w : World} {K : PySem.W.Frag} {mg : Str → Option Value} {base : Heap}
theorem ok_well {f : Addr} {fd : FuncData} (F : Fun K "_goes_well" "_goes_well" sGoesWell f fd) (cal_through : Cg P w K mg base 1 "through" (spThrough K)) (cal_go : Cg P w K mg base 2 "go" (spGo K)) (cal_parts : Cg P w K mg base 1 "parts" (spPartsD K)) (m_list : mg "list" = none) (m_all : mg "all" = none) (m_len : mg "len" = none) (m_any : mg "any" = none) : FnG P w K mg base 3 f fd ["house", "numbers", "left", "door", "way"] (spWell K) := by
  have sc := scGoesWell
  refine fnG_of F scGoesWell (fun vs H Q E h => spD_len h fun i => rfl) (fun cdv A outer s H vs Q E hr hg h => ?_)
  refine ⟨_, (pss_cons (ps_if (pt_cmpR op_eq (pe_ix ix_list (pv 1) (pe_ix ix_tup (pe_g cal_through hg hr (by first | decide | exact Nat.le_refl _ | omega) (by rfl) (pa_cons (pv 0) (pa_cons (pv 3) (pa_cons (pv 4) pa_nil)))) pe_int (fun _ _ => rfl)) (fun _ _ => rfl)) pe_int (nomark _))
    (pss_one (ps_ret pe_bl))
    pss_nil)
  (pss_cons (ps_set (i := 5) sc.nd rfl (.inr rfl) (pe_callTy call_list_of (by rfl) m_list (by decide +kernel) (pa_cons (pv 1) pa_nil)))
  (pss_cons (ps_expr (pe_g cal_go hg hr (by first | decide | exact Nat.le_refl _ | omega) (by rfl) (pa_cons (pv 0) (pa_cons (pv 5) (pa_cons (pv 3) (pa_cons (pv 4) pa_nil))))))
  (pss_cons (ps_setLc (i := 6) (own := [("there", 7), ("back", 8)]) (g := gUnl K 2 (gCons (gName 7) (gCons (gName 8) gNil))) (tt := tYes) (by rfl) sc.nd rfl rfl (sw_true rfl rfl rfl (by decide +kernel)) (pi_list (pv 2)) (blkOk_by (own := [("there", 7), ("back", 8)]) (N := ["house", "numbers", "left", "door", "way", "behind", "counts", "there", "back", "part", "room"]) (sc := defScope sGoesWell) (by decide +kernel)) (fun _ _ _ _ _ => (pg_unl (by rfl) (pgs_cons (pg_name (i := 7) sc.nd rfl (.inl rfl)) (pgs_cons (pg_name (i := 8) sc.nd rfl (.inl rfl)) pgs_nil)))) (fun _ _ _ _ _ => pts_nil) (fun _ _ _ _ _ => (pe_op op_add (pv 7) (pv 8))))
  (pss_cons (ps_augS (pv 6) (pv 3) get_list pe_int ip_sub set_list)
  (pss_one (ps_ret (pe_callB (cr_all rfl) (by rfl) m_all (by decide +kernel) (pa_cons (pe_lc (own := [("part", 9)]) (g := gName 9) (tt := tYes) (by rfl) sc.nd  (pi_list (pe_g cal_parts hg hr (by first | decide | exact Nat.le_refl _ | omega) (by rfl) (pa_cons (pv 0) (pa_cons (pv 6) pa_nil)))) (blkOk_by (own := [("part", 9)]) (N := ["house", "numbers", "left", "door", "way", "behind", "counts", "there", "back", "part", "room"]) (sc := defScope sGoesWell) (by decide +kernel)) (fun _ _ _ _ _ => (pg_name (i := 9) sc.nd rfl (.inl rfl))) (fun _ _ _ _ _ => pts_nil) (fun _ _ _ _ _ => (teK (tOrV _ _) (pe_or (pe_cmpR op_eq (pe_callB (clK (rLenK K) call_len_seq) (by rfl) m_len PySem.boot_len (pa_cons (pv 9) pa_nil)) pe_int (nomark _)) (pe_one (pe_callB (clK (rAnyI K) (cr_anyI rfl)) (by rfl) m_any (by decide +kernel) (pa_cons (pe_lc (own := [("room", 10)]) (g := gName 10) (tt := tYes) (by rfl) sc.nd  (piK (iList K _) (pi_list (pv 9))) (blkOk_by (own := [("room", 10)]) (N := ["house", "numbers", "left", "door", "way", "behind", "counts", "there", "back", "part", "room"]) (sc := { kind := PySem.ScopeKind.function, names := [ (PySem.Str.ofString ".0", PySem.NameKind.local), (PySem.Str.ofString "part", PySem.NameKind.local), (PySem.Str.ofString "len", PySem.NameKind.globalImplicit), (PySem.Str.ofString "any", PySem.NameKind.globalImplicit), (PySem.Str.ofString "behind", PySem.NameKind.cell)], isGenerator := false, isCoroutine := false, more := [] : PySem.Scope }) (by decide +kernel)) (fun _ _ _ _ _ => (pg_name (i := 10) sc.nd rfl (.inl rfl))) (fun _ _ _ _ _ => pts_nil) (fun _ _ _ _ _ => (pe_ix (ixK (rIxL K) ix_list) (pv 5) (pv 10) (fun _ _ => rfl)))) pa_nil))))))) pa_nil))))))))), ?_⟩
  try dsimp only [cxOf, L2.Cx.nox]
  refine fn_ds (fun i : Wl => [.d (houseD i.n i.ds), .d (intsD i.F), .d (matD i.L), .d (.int i.d), .d (.int i.w), .un, .un, .un, .un, .un, .un]) h (fun i => rfl) fun i ν hi => ?_
  obtain ⟨n, ds, F, L, d, w⟩ := i
  obtain ⟨hD, hr1, hd1, lF, lL, d0, dl⟩ := hi
  dsimp only at hD hr1 hd1 lF lL d0 dl ⊢
  obtain ⟨o1, o2⟩ := rooms_of hD (x := (d, w)) d0 dl
  refine ds_seq (ds_if (dt_tTest (dB_eqI (dI_ixL (dL_var rfl (dI_ixT (dT_call0 ?_)))))))
  walk_at "de"
  refine ⟨⟨n, ds, d, w⟩, rfl, ⟨d0, dl⟩, fun nn s hs => ⟨_, hs, dI_c ⟨_, rfl, _, atD_ints (by rw [lF]; exact o1), dI_c ?_⟩⟩⟩
  refine ⟨fun e => ?_, fun e => ds_next ?_⟩
  · have e : F.getD (outOf ds (d, w)) 0 = 0 := of_decide_eq_true e
    exact ds_ret (de_c rfl ⟨false, rfl, ⟨(fun z => nomatch z), fun z => absurd e z.1⟩⟩)
  have e : ¬ F.getD (outOf ds (d, w)) 0 = 0 := of_decide_eq_false e
  refine ds_seq (ds_setO rfl (by simp) (do_listL (dL_var rfl fun D => ?_)))
  walk_at "nrm"
  refine ds_seq (ds_callO rfl ?_)
  walk_at "de"
  refine ⟨⟨n, ds, F, d, w⟩, rfl, rfl, rfl, ⟨hD, lF, d0, dl⟩, fun ys hy => ?_⟩
  rw [hy]
  walk_at "nrm"
  have lS : (stepTo ds F (d, w)).length = n := by rw [step_len, lF]
  refine ds_freeze 5 rfl ?_
  walk_at "nrm"
  refine ds_seq (ds_setO rfl (by simp) (do_lck rfl (di_listL (dL_var rfl ?_))))
  refine lcM prD L (fun p => .int (p.1 + p.2)) (szL (by omega)) rfl (fun p hp => ?_) ?_
  · refine dg_unl rfl (dgs_cons (dg_name rfl (by simp) (dgs_cons (dg_name rfl (by simp) (dgs_nil ?_)))))
    walk_at "nrm"
    exact dI_e (dI_op0 (dI_var rfl (dI_var rfl ⟨rfl, rfl⟩)))
  intro D2
  have eS : (L.map fun p => PyData.int (p.1 + p.2)) = (sumL L).map .int := by unfold sumL; rw [List.map_map]; rfl
  rw [eS]
  walk_at "nrm"
  have dn : d.toNat < (sumL L).length := by rw [sumL_len, lL]; omega
  refine ds_seq (ds_augSI rfl (dI_var rfl ⟨d.toNat, (sumL L).getD d.toNat 0, by omega, get_ints dn, dI_c ?_⟩))
  rw [← List.map_set]
  walk_at "nrm"
  have eC : (sumL L).set d.toNat ((sumL L).getD d.toNat 0 - 1) = lessC L d.toNat := rfl
  rw [eC]
  have ht : Hc.Ok ⟨n, ds, lessC L d.toNat⟩ := ⟨hD, hr1, hd1, by show (lessC L d.toNat).length = ds.length; unfold lessC; rw [List.length_set, sumL_len, lL]⟩
  obtain ⟨C, eCC⟩ : ∃ C, lessC L d.toNat = C := ⟨_, rfl⟩
  rw [eCC] at ht ⊢
  refine ds_freeze 6 rfl ?_
  walk_at "nrm"
  refine ds_ret <| dB_e <| dB_allL <| dL_o <| do_lck rfl <| di_listL <| dL_o <| do_call0 <| da_cons <| de_var rfl <| da_cons <| de_var rfl <| da_nil ⟨⟨n, ds, C⟩, rfl, ht, fun nn s hs => ?_⟩
  obtain ⟨a, rfl⟩ := hs
  refine ⟨a, _, rfl, ?_⟩
  dsimp only
  obtain ⟨pl, pm⟩ := parts_len (n := n) (z := Hc.z ⟨n, ds, C⟩) (by omega)
  refine lcM lotD (partsL n (Hc.z ⟨n, ds, C⟩)) (fun l => .bool (decide (l.length = 1) || (l.map fun r => (stepTo ds F (d, w)).getD r 0).any fun i => i != 0)) (szL (by omega)) rfl (fun l hl => ?_) ?_
  · have ll := pm l hl
    have lr : ∀ r ∈ l, r < n := fun r hr => by
      obtain ⟨m, h1, h2, e⟩ := lots_mem.mp (show l ∈ lotsOf n (leadL n (Hc.z ⟨n, ds, C⟩)) from hl)
      rw [e] at hr
      exact (class_mem.mp hr).1
    walk_at "dg"
    refine dB_e (dB_or (dB_eqI (dI_lenKL (dL_var rfl (dI_c ?_)))))
    have el : decide (((((natsL l).map PyData.int).length : Nat) : Int) = 1) = decide (l.length = 1) := decide_eq_decide.mpr (by rw [List.length_map, natsL_len]; omega)
    rw [el]
    refine ⟨fun e => ⟨rfl, by rw [e]; rfl⟩, fun e => ?_⟩
    rw [e]
    refine dB_anyI (dL_o (do_lck rfl (di_listL (dL_var rfl ?_))))
    refine lcM (fun (r : Nat) => PyData.int (r : Int)) l (fun r => .int ((stepTo ds F (d, w)).getD r 0)) (szL (n := l.length) (by omega)) (lot_map l) (fun r hr => ?_) ?_
    · walk_at "dg"
      exact dI_e (dI_ixL (dL_var rfl (dI_var rfl ⟨_, atD_ints (by rw [lS]; exact lr r hr), rfl, rfl⟩)))
    · exact ⟨l.map fun r => (stepTo ds F (d, w)).getD r 0, by rw [List.map_map]; rfl, rfl, rfl⟩
  · refine ⟨(partsL n (Hc.z ⟨n, ds, C⟩)).map fun l => decide (l.length = 1) || (l.map fun r => (stepTo ds F (d, w)).getD r 0).any fun i => i != 0, by rw [List.map_map]; rfl, _, rfl, ?_⟩
    have eW : Well ⟨n, ds, F, L, d, w⟩ ↔ emptyL ⟨n, ds, C⟩ (stepTo ds F (d, w)) = [] := by
      unfold Well
      rw [eCC]
      exact ⟨fun h => h.2, fun h => ⟨e, h⟩⟩
    rw [eW, List.all_map, List.all_eq_true]
    unfold emptyL
    rw [List.filter_eq_nil_iff]
    have ne : ∀ l ∈ partsL n (Hc.z ⟨n, ds, C⟩), 0 < l.length := fun l hl => by
      obtain ⟨m, h1, h2, e⟩ := lots_mem.mp (show l ∈ lotsOf n (leadL n (Hc.z ⟨n, ds, C⟩)) from hl)
      have hLd : Led n (Hc.z ⟨n, ds, C⟩) (leadL n (Hc.z ⟨n, ds, C⟩)) := led_all _ fun x hx => ⟨(ht.lt hx).1, (ht.lt hx).2.1⟩
      obtain ⟨r, hr⟩ := List.getElem?_of_mem h2
      refine List.length_pos_of_mem (a := r) ?_
      rw [e]
      exact class_mem.mpr ⟨by rw [← hLd.len]; exact lt_of_at hr, by rw [List.getD_eq_getElem?_getD, hr]; rfl⟩
    constructor
    · intro h l hl hb
      have h1 := h l hl
      rw [Bool.and_eq_true, decide_eq_true_iff] at hb
      have h1 : (decide (l.length = 1) || (l.map fun r => (stepTo ds F (d, w)).getD r 0).any fun i => i != 0) = true := h1
      rw [Bool.or_eq_true, decide_eq_true_iff] at h1
      rcases h1 with q | q
      · omega
      · rw [q] at hb
        exact absurd hb.2 (by decide)
    · intro h l hl
      have h1 := h l hl
      have h2 := ne l hl
      show (decide (l.length = 1) || (l.map fun r => (stepTo ds F (d, w)).getD r 0).any fun i => i != 0) = true
      rw [Bool.or_eq_true, decide_eq_true_iff]
      by_cases c : l.length = 1
      · exact .inl c
      · right
        refine Bool.not_eq_false _ |>.mp fun q => h1 ?_
        rw [Bool.and_eq_true, decide_eq_true_iff]
        exact ⟨by omega, by rw [q]; rfl⟩
theorem ok_next {f : Addr} {fd : FuncData} (F : Fun K "_next_going" "_next_going" sNextGoing f fd) (cal_goes_well : Cg P w K mg base 3 "_goes_well" (spWell K)) (m_range : mg "range" = none) (m_len : mg "len" = none) : FnG P w K mg base 4 f fd ["house", "numbers", "left"] (spNext K) := by
  have sc := scNextGoing
  refine fnG_of F scNextGoing (fun vs H Q E h => spD_len h fun i => rfl) (fun cdv A outer s H vs Q E hr hg h => ?_)
  refine ⟨_, (pss_cons (ps_for PassesOwn.never rfl (pi_range1 (by rfl) m_range (pa_cons (pe_callB call_len_seq (by rfl) m_len PySem.boot_len (pa_cons (pv 2) pa_nil)) pa_nil)) (pg_name (i := 3) sc.nd rfl (.inl rfl))
    (pss_one (ps_for PassesOwn.never rfl (pi_tup (pe_tup (pa_cons pe_int (pa_cons pe_int pa_nil)))) (pg_name (i := 4) sc.nd rfl (.inl rfl))
    (pss_one (ps_if (PW.pt (pw_and (pt_cmpR op_gt (pe_ix ix_list (pe_ix ix_list (pv 2) (pv 3) (fun _ _ => rfl)) (pv 4) (fun _ _ => rfl)) pe_int (nomark _)) (pw_and1 (pt_val (pe_g cal_goes_well hg hr (by first | decide | exact Nat.le_refl _ | omega) (by rfl) (pa_cons (pv 0) (pa_cons (pv 1) (pa_cons (pv 2) (pa_cons (pv 3) (pa_cons (pv 4) pa_nil))))))))))
    (pss_one (ps_ret (pe_tup (pa_cons (pv 3) (pa_cons (pv 4) pa_nil)))))
    pss_nil)))))
  (pss_one (ps_ret pe_non))), ?_⟩
  try dsimp only [cxOf, L2.Cx.nox]
  refine fn_ds (fun i : Nx => [.d (houseD i.n i.ds), .d (intsD i.F), .d (matD i.L), .un, .un]) h (fun i => rfl) fun i ν hi => ?_
  obtain ⟨n, ds, F, L⟩ := i
  obtain ⟨hD, hr1, hd1, lF, lL, d1, w1, hG⟩ := hi
  dsimp only at hD hr1 hd1 lF lL hG ⊢
  refine ds_seq (ds_fork (di_rngI (dI_lenL (dL_var rfl ⟨by omega, by rw [List.length_map]; omega, ?_⟩))))
  rw [Int.toNat_natCast, rngD_map, List.length_map, lL]
  refine forN [3, 4] (fun (r : Nat) => PyData.int (r : Int)) (List.range ds.length) rfl (fun k r => (∀ d w, d < k → ¬ NxG ⟨n, ds, F, L⟩ d w) ∧ r = [.d (houseD n ds), .d (intsD F), .d (matD L), .un, .un]) rfl ⟨fun d w h => by omega, rfl⟩ (fun k d ν1 r0 ha hI => ?_) (fun ν2 ρ' hv hI => ?_)
  · obtain ⟨hno, rfl⟩ := hI
    have hk : k < ds.length := by have := lt_of_at ha; rwa [List.length_range] at this
    have ed : d = k := by rw [List.getElem?_range hk] at ha; exact (Option.some.inj ha).symm
    subst ed
    refine dg_nm rfl ?_
    walk_at "nrm"
    refine ds_thn2 (fun _ r => ([4].all fun v => nOwn r v) = true ∧ ((∀ w, ¬ NxG ⟨n, ds, F, L⟩ d w) ∧ wipeR r [4] = [.d (houseD n ds), .d (intsD F), .d (matD L), .d (.int (d : Int)), .un])) (ds_fork (di_tup (de_tup (da_cons (de_c rfl (da_cons (de_c rfl (da_nil ⟨szd rfl, _, rfl, ?_⟩)))))))) (fun ν5 ρ5 hM => ?_)
    · refine forN [4] PyData.int [0, 1] rfl (fun j r => (∀ w, w ∈ ([0, 1] : List Int).take j → ¬ NxG ⟨n, ds, F, L⟩ d w) ∧ r = [.d (houseD n ds), .d (intsD F), .d (matD L), .d (.int (d : Int)), .un]) rfl ⟨fun w h => by simp at h, rfl⟩ (fun j w ν3 r1 hj hI => ?_) (fun ν3 ρ3 hv3 hI => ?_)
      · obtain ⟨hnw, rfl⟩ := hI
        have hw : w = 0 ∨ w = 1 := by
          rcases List.mem_cons.mp (List.mem_of_getElem? hj) with q | q
          · exact .inl q
          · exact .inr (List.mem_singleton.mp q)
        have ls : L.getD d (0, 0) = ((L.getD d (0, 0)).1, (L.getD d (0, 0)).2) := rfl
        have at1 : atD ([(L.getD d (0, 0)).1, (L.getD d (0, 0)).2].map PyData.int) w = some (.int (share L d w)) := by
          unfold share
          rcases hw with rfl | rfl
          · rfl
          · rfl
        have tk : ([0, 1] : List Int).take (j + 1) = ([0, 1] : List Int).take j ++ [w] := take_snoc hj
        refine dg_nm rfl ?_
        walk_at "nrm"
        refine ds_if (dt_and (dt_tTest (dB_op0 (dI_ixL (dL_ixL (dL_var rfl (dI_var rfl ⟨_, atD_nat (mat_at (by rw [lL]; exact hk)), dI_var rfl ⟨_, at1, dI_c ⟨fun e => ?_, fun e => ?_⟩⟩⟩)))))))
        · have e : share L d w > 0 := of_decide_eq_true e
          refine dt_tB <| de_call0 <| da_cons <| de_var rfl <| da_cons <| de_var rfl <| da_cons <| de_var rfl <| da_cons <| de_var rfl <| da_cons <| de_var rfl <| da_nil ⟨⟨n, ds, F, L, (d : Int), w⟩, rfl, ⟨hD, hr1, hd1, lF, lL, by show (0 : Int) ≤ (d : Int); omega, by show (d : Int) < ds.length; omega⟩, fun nn s hs => ?_⟩
          obtain ⟨b, rfl, hb⟩ := hs
          refine ⟨_, rfl, b, rfl, fun e2 => ?_, fun e2 => ?_⟩
          · exact ds_ret (de_tup (da_cons (de_var rfl (da_cons (de_var rfl (da_nil ⟨szd rfl, d, w, rfl, hk, hw, e, hb.mp e2⟩))))))
          · refine ds_next ⟨rfl, fun v hv q => ?_, rfl⟩
            rw [tk] at hv
            rcases List.mem_append.mp hv with h | h
            · exact hnw v h q
            · rw [List.mem_singleton.mp h] at q
              have := hb.mpr q.g
              rw [e2] at this
              cases this
        · have e : ¬ share L d w > 0 := of_decide_eq_false e
          refine ⟨(fun z => nomatch z), fun _ => ds_next ⟨rfl, fun v hv q => ?_, rfl⟩⟩
          rw [tk] at hv
          rcases List.mem_append.mp hv with h | h
          · exact hnw v h q
          · rw [List.mem_singleton.mp h] at q
            exact e q.s
      · refine ⟨hv3, fun w q => ?_, hI.2⟩
        refine hI.1 w ?_ q
        rcases q.hw with rfl | rfl
        · exact List.mem_cons_self
        · exact List.mem_cons_of_mem _ List.mem_cons_self
    · obtain ⟨h1, h2, h3⟩ := hM
      refine ds_wipe [4] h1 ?_
      rw [h3]
      refine ds_next ⟨rfl, fun d' w' hd' q => ?_, rfl⟩
      by_cases c : d' = d
      · rw [c] at q; exact h2 w' q
      · exact hno d' w' (by omega) q
  · rw [List.length_range] at hI
    exact absurd hG (hI.1 d1 w1 hG.hd)
end
end Bd
set_option maxHeartbeats 4000000
namespace Bd
open PySem PySem.Spec PyProof.Rows L2 HT
/-! lists within a list that are changed: hidden, and told by the heap beneath -/
section
variable {K : PySem.W.Frag} {S S' : List Addr} {B B' : Hp} {ρ : List Sl} {σ : L2.St} {H : Hp} {ν : Nat}
theorem same_poke {T : List Addr} {a : Addr} {o : HO} (ha : a ∈ T) : Same (hid T H) (hid T (upd H a o)) := fun b u e => by
  obtain ⟨e1, e2⟩ := of_hid e
  exact hid_of (by rw [upd_ne' (fun z : b = a => e2 (by rw [z]; exact ha))]; exact e1) e2
/-- a hidden thing is changed -/
theorem Sta.poke (st : Sta K Wn S B ρ σ H ν) {a : Addr} (o : HO) (ha : a ∈ S) : Sta K Wn S (upd B a o) ρ σ (upd H a o) ν := by
  have no : a ∉ ownA ρ := fun z => st.out a z ha
  have sm : Same (hid (S ++ ownA ρ) H) (hid (S ++ ownA ρ) (upd H a o)) := same_poke (List.mem_append_left _ ha)
  refine ⟨st.len, fun i s e => ?_, st.nd, st.out, st.js, fun b u e => ?_, trivial, fun b hb => ?_, fun b u e => (nomatch e)⟩
  · obtain ⟨u, eu, h⟩ := st.sl i s e
    refine ⟨u, eu, ?_⟩
    cases s with
    | un => trivial
    | d x => obtain ⟨v, e1, d⟩ := h; exact ⟨v, e1, d.same sm⟩
    | own b xs =>
      obtain ⟨e1, vs, e2, d⟩ := h
      exact ⟨e1, vs, by rw [upd_ne' (fun z : b = a => no (by rw [← z]; exact mem_ownA.mpr ⟨_, _, e⟩))]; exact e2, d.same sm⟩
    | «at» v => exact h
  · by_cases c : b = a
    · subst c
      rw [upd_same] at e
      cases e
      exact hid_of upd_same fun z => (List.mem_append.mp z).elim (fun z => nomatch z) no
    · rw [upd_ne' c] at e
      obtain ⟨e1, e2⟩ := of_hid (st.fr b u e)
      exact hid_of (by rw [upd_ne' c]; exact e1) e2
  · right
    by_cases c : b = a
    · subst c; exact ⟨_, upd_same⟩
    · rw [upd_ne' c]
      rcases st.al b hb with z | z
      · exact (nomatch z)
      · exact z
/-- a new thing, hidden at once -/
theorem Sta.neu (st : Sta K Wn S B ρ σ H ν) {q : Addr} (o : HO) (n : H q = none) : Sta K Wn (q :: S) (upd B q o) ρ σ (upd H q o) ν := by
  have f := st.fresh n
  have sm : Same (hid (S ++ ownA ρ) H) (hid ((q :: S) ++ ownA ρ) (upd H q o)) := fun b u e => by
    obtain ⟨e1, e2⟩ := of_hid e
    have c : b ≠ q := fun z => by rw [z, n] at e1; cases e1
    refine hid_of (by rw [upd_ne' c]; exact e1) fun z => ?_
    rcases List.mem_cons.mp z with z | z
    · exact c z
    · exact e2 z
  refine ⟨st.len, fun i s e => ?_, st.nd, fun b hb z => ?_, fun b hb => (nomatch hb), fun b u e => ?_, trivial, fun b hb => ?_, fun b u e => (nomatch e)⟩
  · obtain ⟨u, eu, h⟩ := st.sl i s e
    refine ⟨u, eu, ?_⟩
    cases s with
    | un => trivial
    | d x => obtain ⟨v, e1, d⟩ := h; exact ⟨v, e1, d.same sm⟩
    | own b xs =>
      obtain ⟨e1, vs, e2, d⟩ := h
      exact ⟨e1, vs, by rw [upd_ne' (fun z : b = q => by rw [z, n] at e2; cases e2)]; exact e2, d.same sm⟩
    | «at» v => exact h
  · rcases List.mem_cons.mp z with rfl | z
    · exact f.2.1 hb
    · exact st.out b hb z
  · by_cases c : b = q
    · subst c
      rw [upd_same] at e
      cases e
      exact hid_of upd_same fun z => (List.mem_append.mp z).elim (fun z => nomatch z) f.2.1
    · rw [upd_ne' c] at e
      obtain ⟨e1, e2⟩ := of_hid (st.fr b u e)
      exact hid_of (by rw [upd_ne' c]; exact e1) e2
  · right
    by_cases c : b = q
    · subst c; exact ⟨_, upd_same⟩
    · rw [upd_ne' c]
      rcases List.mem_cons.mp hb with hb | hb
      · exact absurd hb c
      · rcases st.al b hb with z | z
        · exact (nomatch z)
        · exact z
/-- fewer hidden, over the heap before -/
theorem Sta.back (st : Sta K Wn S' B' ρ σ H ν) (hs : ∀ a ∈ S, a ∈ S') (hb : Same B B') (al : ∀ a ∈ S, ∃ o, B a = some o) : Sta K Wn S B ρ σ H ν := by
  have sm : Same (hid (S' ++ ownA ρ) H) (hid (S ++ ownA ρ) H) := hid_sub fun b hb => (List.mem_append.mp hb).elim (fun z => List.mem_append_left _ (hs b z)) fun z => List.mem_append_right _ z
  refine ⟨st.len, fun i s e => ?_, st.nd, fun b hb z => st.out b hb (hs b z), fun b hb => (nomatch hb), hb.trans st.fr, trivial, fun b hb => .inr (al b hb), fun b u e => (nomatch e)⟩
  obtain ⟨u, eu, h⟩ := st.sl i s e
  refine ⟨u, eu, ?_⟩
  cases s with
  | un => trivial
  | d x => obtain ⟨v, e1, d⟩ := h; exact ⟨v, e1, d.same sm⟩
  | own b xs => obtain ⟨e1, vs, e2, d⟩ := h; exact ⟨e1, vs, e2, d.same sm⟩
  | «at» v => exact h
theorem Sta.here (st : Sta K Wn S B ρ σ H ν) {a : Addr} {o : HO} (h : B a = some o) : H a = some o := (of_hid (st.fr a o h)).1
theorem Ds.runS {t u : TS} {M : Nat → List Sl → Prop} {D : Ends} (h : Ds K Wn ρ ν t ⟨M, fun _ _ => False, fun _ _ => False, fun _ _ => False⟩) (st : Sta K Wn S B ρ σ H ν) (hn : ∀ ν' ρ' σ' H', Sta K Wn S B ρ' σ' H' ν' → M ν' ρ' → u D σ' H') : tSeq t u D σ H :=
  h S B σ H _ st ⟨fun ν' ρ' σ' H' st' hm => hn ν' ρ' σ' H' st' hm, fun _ _ _ _ _ z => z.elim, fun _ _ _ _ _ z => z.elim, fun _ _ _ _ _ z => z.elim⟩
theorem Ds.runE {t : TS} {M : Nat → List Sl → Prop} {D : Ends} (h : Ds K Wn ρ ν t ⟨M, fun _ _ => False, fun _ _ => False, fun _ _ => False⟩) (st : Sta K Wn S B ρ σ H ν) (hn : ∀ ν' ρ' σ' H', Sta K Wn S B ρ' σ' H' ν' → M ν' ρ' → D.nx σ' H') : t D σ H :=
  h S B σ H _ st ⟨fun ν' ρ' σ' H' st' hm => hn ν' ρ' σ' H' st' hm, fun _ _ _ _ _ z => z.elim, fun _ _ _ _ _ z => z.elim, fun _ _ _ _ _ z => z.elim⟩
theorem Dg.runK {g : TG} {x : PyData} {v : V} {Θ : List Sl → Prop} {Q : L2.St → Hp → Prop} (h : Dg K Wn ρ ν (fun _ => True) g x Θ) (st : Sta K Wn S B ρ σ H ν) (dv : Dd K (hid (S ++ ownA ρ) H) v x) (q : ∀ ρ' σ', Sta K Wn S B ρ' σ' H ν → Θ ρ' → Q σ' H) : g v σ H Q :=
  h S B σ H v Q st dv fun ρ' σ' st' _ _ hΘ => q ρ' σ' st' hΘ
theorem cons_lst {t r : TA} {Q : List V → Hp → Prop} (h : t σ H fun xs H1 => xs.length ≤ sizeLine ∧ ∀ p, H1 p = none → r σ (upd H1 p (.lst xs)) fun ys H2 => Q (.ref p :: ys) H2) : tCons (tLst t) r σ H Q := h
theorem seq_of {t u : TS} {D : Ends} (h : t { D with nx := u D } σ H) : tSeq t u D σ H := h
theorem new_of {u : TS} {D : Ends} {i : Nat} (h : ∀ p, H p = none → u D (σ.set i (some (.ref p))) (upd H p (.lst []))) : tSeq (tAsg (tLst tNil) (gName i)) u D σ H := ⟨szd rfl, fun p np => h p np⟩
/-- a loop in which more is hidden at each turn -/
theorem for_raw {wi : TI} {g : TG} {tb : TS} {D : Ends} {xs : List PyData} (st : Sta K Wn S B ρ σ H ν) (h : Di K Wn ρ ν wi fun _ ys => ys = xs) (Iv : Nat → List Addr → Hp → List Sl → Prop)
    (h0 : ∀ B1, (∀ b o, B b = some o → B1 b = some o) → Iv 0 S B1 ρ)
    (hs : ∀ k x S2 B2 ρ2 σ2 H2 ν2, xs[k]? = some x → Iv k S2 B2 ρ2 → (∀ b ∈ S, b ∈ S2) → Sta K Wn S2 B2 ρ2 σ2 H2 ν2 → ∀ v, Dd K (hid (S2 ++ ownA ρ2) H2) v x → ∀ N : L2.St → Hp → Prop,
      (∀ S3 B3 ρ3 σ3 H3 ν3, Sta K Wn S3 B3 ρ3 σ3 H3 ν3 → (∀ b ∈ S2, b ∈ S3) → (∀ b ∈ S3, b ∈ S2 ∨ B2 b = none) → (∀ b o, b ∉ S → B2 b = some o → B3 b = some o) → Iv (k + 1) S3 B3 ρ3 → N σ3 H3) → g v σ2 H2 fun σ4 H4 => tb { D with nx := N, ct := N, bk := D.nx } σ4 H4)
    (hd : ∀ S2 B2 ρ2 σ2 H2 ν2, Iv xs.length S2 B2 ρ2 → (∀ b ∈ S, b ∈ S2) → (∀ b o, b ∉ S → B b = some o → B2 b = some o) → Sta K Wn S2 B2 ρ2 σ2 H2 ν2 → D.nx σ2 H2) : tFor wi g tb D σ H := by
  refine h S B σ H _ st fun ν1 J H1 ys k1 i1 it hx => ?_
  subst hx
  have st1 := st.keep k1 i1
  have st1' := st1.rebase
  have bs : Same B (hid (Wn.J ++ ownA ρ) H1) := st1.fr
  refine ⟨fun i m σ2 H2 => m = ys.length - i ∧ i ≤ ys.length ∧ ∃ S2 B2 ρ2 ν2, Sta K Wn S2 B2 ρ2 σ2 H2 ν2 ∧ (∀ b ∈ S, b ∈ S2) ∧ (∀ b ∈ S2, b ∈ S ∨ hid (Wn.J ++ ownA ρ) H1 b = none) ∧ (∀ b o, b ∉ S → hid (Wn.J ++ ownA ρ) H1 b = some o → B2 b = some o) ∧ Iv i S2 B2 ρ2, ⟨ys.length, by simp, Nat.zero_le _, S, _, ρ, _, st1', fun b hb => hb, fun b hb => .inl hb, fun b o _ e => e, h0 _ bs⟩, ?_⟩
  rintro i m σ2 H2 ⟨rfl, hi, S2, B2, ρ2, ν2, st2, hS, hN, hB, hI⟩
  have vis : ∀ {b o}, hid (S ++ ownA ρ) H1 b = some o → B2 b = some o ∧ b ∉ S2 := fun {b o} e => by
    obtain ⟨e1, e2⟩ := of_hid e
    have e3 : hid (Wn.J ++ ownA ρ) H1 b = some o := hid_of e1 fun z => (List.mem_append.mp z).elim (fun z => nomatch z) fun z => e2 (List.mem_append_right _ z)
    have nS : b ∉ S := fun z => e2 (List.mem_append_left _ z)
    refine ⟨hB b o nS e3, fun z => ?_⟩
    rcases hN b z with z | z
    · exact nS z
    · rw [e3] at z; cases z
  have ik := it i H2 (fun b o e => st2.here (vis e).1)
  by_cases hlt : i < ys.length
  · right
    obtain ⟨g1, g2⟩ := ik.2 _ (List.getElem?_eq_getElem hlt)
    refine ⟨g1, fun σ3 H3 => ∃ S3 B3 ρ3 ν3, Sta K Wn S3 B3 ρ3 σ3 H3 ν3 ∧ (∀ b ∈ S, b ∈ S3) ∧ (∀ b ∈ S3, b ∈ S ∨ hid (Wn.J ++ ownA ρ) H1 b = none) ∧ (∀ b o, b ∉ S → hid (Wn.J ++ ownA ρ) H1 b = some o → B3 b = some o) ∧ Iv (i + 1) S3 B3 ρ3, fun σ3 H3 h3 => ⟨ys.length - (i + 1), by omega, rfl, hlt, h3⟩, fun v H3 y => ?_⟩
    obtain ⟨s3, g3⟩ := g2 v H3 y
    have st3 : Sta K Wn S2 B2 ρ2 σ2 H3 ν2 := st2.keep (Kp.same s3) trivial
    refine hs i _ S2 B2 ρ2 σ2 H3 ν2 (List.getElem?_eq_getElem hlt) hI hS st3 v (g3 _ (fun b o e => ?_) st2.alive) _ fun S3 B3 ρ3 σ4 H4 ν3 st4 a1 a2 a3 a4 => ⟨S3, B3, ρ3, ν3, st4, fun b hb => a1 b (hS b hb), fun b hb => ?_, fun b o n e => a3 b o n (hB b o n e), a4⟩
    · obtain ⟨v1, v2⟩ := vis e
      obtain ⟨w1, w2⟩ := of_hid (st2.fr b o v1)
      refine hid_of w1 fun z => ?_
      rcases List.mem_append.mp z with z | z
      · exact v2 z
      · exact w2 (List.mem_append_right _ z)
    · rcases a2 b hb with z | z
      · exact hN b z
      · by_cases c : b ∈ S
        · exact .inl c
        · right
          cases q : hid (Wn.J ++ ownA ρ) H1 b with
          | none => rfl
          | some o => rw [hB b o c q] at z; cases z
  · left
    refine ⟨ik.1 (by omega), hd S2 B2 ρ2 σ2 H2 ν2 ?_ hS (fun b o n e => hB b o n (bs b o e)) st2⟩
    rw [show ys.length = i by omega]
    exact hI
end
end Bd
set_option maxHeartbeats 4000000
namespace Bd
open PySem PySem.Spec PyProof.Rows L2 HT
local macro_rules | `(tactic| walk_at "de1") => `(tactic| (with_reducible first
  | refine dI_var rfl ?_ | refine dI_c ?_ | refine dI_op0 ?_ | refine dI_op ?_ | refine dI_un ?_ | refine dI_ixO rfl ?_ | refine dI_ixT ?_ | refine dI_ixL ?_ | refine dI_if ?_ | refine dI_lenO rfl ?_ | refine dI_lenL ?_ | refine dI_abs ?_ | refine dI_two ?_ | refine dI_intB ?_
  | refine dB_var rfl ?_ | refine dB_c ?_ | refine dB_op0 ?_ | refine dB_eqI ?_ | refine dB_neI ?_ | refine dB_inI ?_ | refine dB_not ?_ | refine dB_and ?_ | refine dB_or ?_ | refine dB_chain ?_ | refine dB_eqD ?_ | refine dB_neD ?_ | refine dB_isi ?_
  | refine dL_var rfl ?_ | refine dL_ixO rfl ?_ | refine dL_ixT ?_ | refine dL_ixL ?_ | refine dL_o ?_
  | refine dT_var rfl ?_ | refine dT_ixL ?_ | refine dT_ixT ?_ | refine dT_tup ?_ | refine dT_slT ?_ | refine dT_catT ?_
  | refine de_var rfl ?_ | refine dX_ixO rfl ?_ | refine dX_ixT ?_ | refine dX_ixL ?_ | refine de_tup ?_ | refine de_c rfl ?_ | refine de_if ?_ | refine Do.de (do_lst ?_) | refine de_catTT ?_ | refine de_slTT ?_
  | refine dI_e (dI_op0 ?_) | refine dI_e (dI_op ?_) | refine dI_e (dI_un ?_) | refine dI_e (dI_lenO rfl ?_) | refine dI_e (dI_lenL ?_) | refine dI_e (dI_abs ?_) | refine dI_e (dI_two ?_) | refine dI_e (dI_intB ?_)
  | refine dB_e (dB_op0 ?_) | refine dB_e (dB_eqI ?_) | refine dB_e (dB_neI ?_) | refine dB_e (dB_inI ?_) | refine dB_e (dB_not ?_) | refine dB_e (dB_and ?_) | refine dB_e (dB_or ?_) | refine dB_e (dB_chain ?_) | refine dB_e (dB_eqD ?_) | refine dB_e (dB_neD ?_)
  | refine dt_tB ?_ | refine dt_tTest ?_ | refine dt_not ?_ | refine dt_and ?_ | refine dt_or ?_ | refine dt_yes ?_
  | refine da_nil ?_ | refine da_cons ?_ | refine dp_no ?_ | refine dp_partI ?_
  | refine di_rngI ?_ | refine di_listL ?_ | refine di_zipL ?_ | refine di_enumL ?_
  | refine do_lck rfl ?_ | refine do_lst ?_ | refine do_catL ?_ | refine do_slLL ?_ | refine do_revL ?_
  | refine dg_nm rfl ?_ | refine dg_name rfl (by simp) ?_ | refine dg_tup rfl ?_ | refine dgs_cons ?_ | refine dgs_nil ?_))
local macro_rules | `(tactic| walk_at "de") => `(tactic| (repeat (first | walk_at "de1" | (refine ⟨_, rfl, ?_⟩))))
local macro_rules | `(tactic| walk_at "nrm") => `(tactic| (try dsimp only [List.set, toD, wipeR, List.map, pairD, beadD, lookD]))

local macro_rules | `(tactic| walk_at "dg") => `(tactic| ((repeat (with_reducible first | refine dg_tup rfl ?_ | refine dg_unl rfl ?_ | refine dgs_cons ?_ | refine dgs_nil ?_ | refine dg_name rfl (by simp) ?_)); walk_at "nrm"))
/-! the doors' shares -/
/-- a list at p of lists at `as`, pairs of numbers -/
structure Mt (B : Hp) (p : Addr) (as : List Addr) (L : List (Int × Int)) : Prop where
  hp : B p = some (.lst (as.map V.ref))
  ln : as.length = L.length
  at_ : ∀ (i : Nat) (a : Addr) (x : Int × Int), as[i]? = some a → L[i]? = some x → B a = some (.lst [V.int x.1, V.int x.2])
  nd : as.Nodup
  np : p ∉ as
structure SplitOk (i : He1) (L : List (Int × Int)) : Prop where
  l : L.length = i.t.ds.length
  nn : ∀ x ∈ L, 0 ≤ x.1 ∧ 0 ≤ x.2
  s : L.map (fun p => p.1 + p.2) = i.t.C
  e : ∀ r, r < i.t.rooms → i.B.getD r 0 + ntr (i.t.ds.zip L) r = i.E.getD r 0
def spSplit (K : PySem.W.Frag) : Sp := fun vs H Q _ => ∃ (i : He1) (S : List Addr), (∀ b ∈ S, ∃ o, H b = some o) ∧ Dds K (hid S H) vs i.arg ∧ (Rt21 ⟨i.t, i.B⟩ ∧ EndC i.t i.B i.E ∧ i.E.length = i.t.rooms) ∧
  ∀ H' p as L, Same H H' → H p = none → (∀ a ∈ as, H a = none) → Mt H' p as L → SplitOk i L → Q (.ref p) H'
theorem Mt.push {B : Hp} {p q : Addr} {as : List Addr} {L : List (Int × Int)} {x : Int × Int} (h : Mt B p as L) (n : B q = none) : Mt (upd (upd B q (.lst [V.int x.1, V.int x.2])) p (.lst (as.map V.ref ++ [V.ref q]))) p (as ++ [q]) (L ++ [x]) := by
  have qp : q ≠ p := fun e => by rw [e, h.hp] at n; cases n
  have inas : ∀ {a}, a ∈ as → ∃ o, B a = some o := fun {a} ha => by
    obtain ⟨i, hi⟩ := List.getElem?_of_mem ha
    have := lt_of_at hi
    exact ⟨_, h.at_ i a _ hi (List.getElem?_eq_getElem (by rw [← h.ln]; exact this))⟩
  have qa : q ∉ as := fun z => by
    obtain ⟨o, e⟩ := inas z
    rw [n] at e; cases e
  refine ⟨by rw [upd_same, List.map_append]; rfl, by rw [List.length_append, List.length_append, h.ln]; rfl, fun i a y hi hy => ?_, ?_, fun z => ?_⟩
  · by_cases c : i < as.length
    · rw [List.getElem?_append_left c] at hi
      rw [List.getElem?_append_left (by rw [← h.ln]; exact c)] at hy
      have ma := List.mem_of_getElem? hi
      rw [upd_ne' (fun z : a = p => h.np (by rw [← z]; exact ma)), upd_ne' (fun z : a = q => qa (by rw [← z]; exact ma))]
      exact h.at_ i a y hi hy
    · have hl := lt_of_at hi
      rw [List.length_append, List.length_singleton] at hl
      have e : i = as.length := by omega
      rw [List.getElem?_append_right (by omega), e, Nat.sub_self] at hi
      rw [e, h.ln, List.getElem?_append_right (by omega), Nat.sub_self] at hy
      cases hi; cases hy
      rw [upd_ne' qp, upd_same]
  · exact List.nodup_append.mpr ⟨h.nd, List.nodup_cons.mpr ⟨nofun, List.nodup_nil⟩, fun a ha b hb => by rw [List.mem_singleton.mp hb]; exact fun e => qa (by rw [← e]; exact ha)⟩
  · rcases List.mem_append.mp z with z | z
    · exact h.np z
    · exact qp (List.mem_singleton.mp z).symm
structure SpL (i : He1) (k : Nat) (left W : List Int) (L : List (Int × Int)) : Prop where
  ll : left.length = i.t.ds.length
  lw : W.length = i.t.rooms
  l0 : ∀ x ∈ left, 0 ≤ x
  lz : ∀ j, j < k → left.getD j 0 = 0
  lc : ∀ j, k ≤ j → left.getD j 0 = i.t.C.getD j 0
  sp : SpI i.t.rooms (i.t.ds.zip left) fun r => W.getD r 0
  n : L.length = k
  nn : ∀ x ∈ L, 0 ≤ x.1 ∧ 0 ≤ x.2
  s : ∀ j x, L[j]? = some x → x.1 + x.2 = i.t.C.getD j 0
  e : ∀ r, r < i.t.rooms → W.getD r 0 = i.B.getD r 0 - i.E.getD r 0 + ntr (i.t.ds.zip L) r
theorem zip_snoc {α β : Type} : ∀ {A : List α} {B : List β} {a : α} {b : β}, A[B.length]? = some a → A.zip (B ++ [b]) = A.zip B ++ [(a, b)]
  | [], B, _, _, h => by simp at h
  | x :: A, [], a, b, h => by
    have : x = a := by simpa using h
    subst this
    show (x, b) :: A.zip [] = [(x, b)]
    rw [List.zip_nil_right]
  | x :: A, y :: B, a, b, h => by
    show (x, y) :: A.zip (B ++ [b]) = (x, y) :: (A.zip B ++ [(a, b)])
    rw [zip_snoc (A := A) (B := B) (by simpa using h)]
theorem SpL.step {i : He1} {k a b : Nat} {left W : List Int} {L : List (Int × Int)} {m t : Int} (h : SpL i k left W L) (ok : i.t.Ok) (hd : i.t.ds[k]? = some (a, b))
    (m1 : ∀ K, K < 2 ^ i.t.rooms → K.testBit a = true → K.testBit b = false → m ≤ ssum i.t.rooms (fun r => W.getD r 0) K + cutv (i.t.ds.zip (left.set k 0)) K)
    (m2 : ∃ K, K < 2 ^ i.t.rooms ∧ K.testBit a = true ∧ K.testBit b = false ∧ m = ssum i.t.rooms (fun r => W.getD r 0) K + cutv (i.t.ds.zip (left.set k 0)) K) (ht : t = if m < i.t.C.getD k 0 then m else i.t.C.getD k 0) :
    SpL i (k + 1) (left.set k 0) ((W.set a (W.getD a 0 - t)).set b ((W.set a (W.getD a 0 - t)).getD b 0 + t)) (L ++ [((i.t.C.getD k 0 + t) / 2, (i.t.C.getD k 0 - t) / 2)]) := by
  have kl := lt_of_at hd
  have hdo := ok.doors (a, b) (List.mem_of_getElem? hd)
  obtain ⟨ha, hb, hab⟩ := hdo
  have ha : a < i.t.rooms := ha
  have hb : b < i.t.rooms := hb
  have hab : a ≠ b := hab
  have kll : k < left.length := by rw [h.ll]; exact kl
  have ec : left.getD k 0 = i.t.C.getD k 0 := h.lc k (Nat.le_refl _)
  obtain ⟨z1, z2, e1, _, e3⟩ := zip_mid hd (getD_some kll)
  rw [ec] at e1
  have c0 : 0 ≤ i.t.C.getD k 0 := by rw [← ec]; exact h.l0 _ (getD_mem kll)
  have hI := h.sp
  rw [e1] at hI
  rw [e3] at m1 m2
  have zin : ∀ x ∈ z1 ++ z2, x ∈ i.t.ds.zip left := fun x hx => by
    rw [e1]
    rcases List.mem_append.mp hx with q | q
    · exact List.mem_append_left _ q
    · exact List.mem_append_right _ (List.mem_cons_of_mem _ q)
  have hz : ∀ x ∈ z1 ++ z2, x.1.1 < i.t.rooms ∧ x.1.2 < i.t.rooms := fun x hx => by
    have := ok.doors _ (List.of_mem_zip (a := x.1) (b := x.2) (zin x hx)).1
    exact ⟨this.1, this.2.1⟩
  have h0 : ∀ x ∈ z1 ++ z2, 0 ≤ x.2 := fun x hx => h.l0 _ (List.of_mem_zip (a := x.1) (b := x.2) (zin x hx)).2
  obtain ⟨t1, t2, t3, I2⟩ := spl_one hI hz h0 ha hb hab c0 m1 m2 t ht
  have la : a < W.length := by rw [h.lw]; exact ha
  have lb : b < (W.set a (W.getD a 0 - t)).length := by rw [List.length_set, h.lw]; exact hb
  have gW : ∀ r, ((W.set a (W.getD a 0 - t)).set b ((W.set a (W.getD a 0 - t)).getD b 0 + t)).getD r 0 = owe (fun r => W.getD r 0) a b t r := fun r => by
    have h2b : (W.set a (W.getD a 0 - t)).getD b 0 = W.getD b 0 := by rw [getD_set2 la, if_neg (fun e => hab e.symm)]
    rw [getD_set2 lb, h2b, getD_set2 la]
    unfold owe
    dsimp only
    by_cases c1 : r = b
    · have c2 : ¬ r = a := fun e => hab (e.symm.trans c1)
      simp only [if_pos c1, if_neg c2]
      rw [c1]; omega
    · by_cases c2 : r = a
      · simp only [if_neg c1, if_pos c2]
        rw [c2]; omega
      · simp only [if_neg c1, if_neg c2]
        omega
  refine ⟨by rw [List.length_set]; exact h.ll, by rw [List.length_set, List.length_set]; exact h.lw, fun x hx => ?_, fun j hj => ?_, fun j hj => ?_, ?_, by rw [List.length_append, h.n]; rfl, fun x hx => ?_, fun j x hj => ?_, fun r hr => ?_⟩
  · rcases List.mem_or_eq_of_mem_set hx with q | q
    · exact h.l0 x q
    · rw [q]; exact Int.le_refl 0
  · rw [getD_set2 kll]
    by_cases c : j = k
    · rw [if_pos c]
    · rw [if_neg c]; exact h.lz j (by omega)
  · rw [getD_set2 kll, if_neg (by omega)]
    exact h.lc j (by omega)
  · rw [e3]
    have : (fun r => ((W.set a (W.getD a 0 - t)).set b ((W.set a (W.getD a 0 - t)).getD b 0 + t)).getD r 0) = owe (fun r => W.getD r 0) a b t := funext gW
    rw [this]
    exact I2
  · rcases List.mem_append.mp hx with q | q
    · exact h.nn x q
    · rw [List.mem_singleton.mp q]
      exact ⟨by show 0 ≤ (i.t.C.getD k 0 + t) / 2; omega, by show 0 ≤ (i.t.C.getD k 0 - t) / 2; omega⟩
  · by_cases c : j < L.length
    · rw [List.getElem?_append_left c] at hj
      exact h.s j x hj
    · have hl := lt_of_at hj
      rw [List.length_append, List.length_singleton] at hl
      have e : j = L.length := by omega
      rw [List.getElem?_append_right (by omega), e, Nat.sub_self] at hj
      cases hj
      rw [e, h.n]
      show (i.t.C.getD k 0 + t) / 2 + (i.t.C.getD k 0 - t) / 2 = _
      omega
  · rw [gW, zip_snoc (by rw [h.n]; exact hd)]
    have en : ntr (i.t.ds.zip L ++ [((a, b), ((i.t.C.getD k 0 + t) / 2, (i.t.C.getD k 0 - t) / 2))]) r = ntr (i.t.ds.zip L) r + nt1 r ((a, b), ((i.t.C.getD k 0 + t) / 2, (i.t.C.getD k 0 - t) / 2)) := by
      unfold ntr
      rw [List.map_append, List.sum_append]
      simp
    rw [en]
    have h1 := h.e r hr
    unfold owe nt1
    dsimp only
    by_cases c1 : r = b
    · have c2 : ¬ r = a := fun e => hab (e.symm.trans c1)
      rw [if_pos c1, if_neg c2, if_neg (fun e => c2 e.symm), if_pos c1.symm]; omega
    · by_cases c2 : r = a
      · rw [if_neg c1, if_pos c2, if_pos c2.symm, if_neg (fun e => c1 e.symm)]; omega
      · rw [if_neg c1, if_neg c2, if_neg (fun e => c2 e.symm), if_neg (fun e => c1 e.symm)]; omega
theorem SpL.done {i : He1} {left W : List Int} {L : List (Int × Int)} (h : SpL i i.t.ds.length left W L) (hC : i.t.C.length = i.t.ds.length) : SplitOk i L := by
  refine ⟨h.n, h.nn, ?_, fun r hr => ?_⟩
  · apply List.ext_getElem?
    intro j
    rw [List.getElem?_map]
    by_cases c : j < L.length
    · have e : L[j]? = some L[j] := List.getElem?_eq_getElem c
      rw [e, getD_some (F := i.t.C) (by rw [hC, ← h.n]; exact c), ← h.s j _ e]; rfl
    · rw [List.getElem?_eq_none (by omega), List.getElem?_eq_none (by rw [hC, ← h.n]; omega)]; rfl
  · have hz : ∀ x ∈ i.t.ds.zip left, x.2 = 0 := fun x hx => by
      have := (List.of_mem_zip (a := x.1) (b := x.2) hx).2
      obtain ⟨j, hj⟩ := List.getElem?_of_mem this
      have jl := lt_of_at hj
      have h2 := h.lz j (by rw [← h.ll]; exact jl)
      rw [List.getD_eq_getElem?_getD, hj] at h2
      exact h2
    have h1 := spl_end h.sp hz r hr
    have h2 := h.e r hr
    omega
theorem SpL.start {i : He1} (R : Rt21 ⟨i.t, i.B⟩) (E : EndC i.t i.B i.E) (hE : i.E.length = i.t.rooms) : SpL i 0 i.t.C ((List.range i.t.rooms).map fun r => i.B.getD r 0 - i.E.getD r 0) [] := by
  have hB : i.B.length = i.t.rooms := R.ok.b
  have gW : ∀ r, r < i.t.rooms → ((List.range i.t.rooms).map fun r => i.B.getD r 0 - i.E.getD r 0).getD r 0 = i.B.getD r 0 - i.E.getD r 0 := fun r hr => getD_range hr
  have sW : ∀ k, ssum i.t.rooms (fun r => ((List.range i.t.rooms).map fun r => i.B.getD r 0 - i.E.getD r 0).getD r 0) k = lsum i.B k - lsum i.E k := fun k => by
    have h1 : ssum i.t.rooms (fun r => ((List.range i.t.rooms).map fun r => i.B.getD r 0 - i.E.getD r 0).getD r 0) k = ssum i.t.rooms (fun r => i.B.getD r 0 - i.E.getD r 0) k := ssum_congr fun r hr => gW r hr
    have h2 := ssum_add i.t.rooms (fun r => i.B.getD r 0 - i.E.getD r 0) (fun r => i.E.getD r 0) k
    have h3 : ssum i.t.rooms (fun r => (i.B.getD r 0 - i.E.getD r 0) + i.E.getD r 0) k = ssum i.t.rooms (fun r => i.B.getD r 0) k := ssum_congr fun r _ => by omega
    unfold lsum
    rw [hB, hE]
    omega
  refine ⟨R.ok.t.cl, by rw [List.length_map, List.length_range], R.c, fun j hj => by omega, fun j _ => rfl, ⟨fun k hk => ?_, ?_, fun r hr => ?_⟩, rfl, fun x hx => (nomatch hx), fun j x h => by simp at h, fun r hr => ?_⟩
  · rw [sW]
    have := E.k k hk
    unfold slk at this
    show 0 ≤ lsum i.B k - lsum i.E k + cutv i.t.z k
    omega
  · rw [sW]
    have h1 := lsum_full i.B
    have h2 := lsum_full i.E
    rw [hB] at h1
    rw [hE] at h2
    have := E.s
    omega
  · rw [gW r hr]
    have := E.o r hr
    unfold oddAt at this
    show (i.B.getD r 0 - i.E.getD r 0 - metAt i.t.z r) % 2 = 0
    omega
  · rw [gW r hr, List.zip_nil_right]
    show _ = _ + (0 : Int)
    omega
end Bd
set_option maxHeartbeats 4000000
namespace Bd
open PySem PySem.Spec PyProof.Rows L2 HT
local macro_rules | `(tactic| walk_at "de1") => `(tactic| (with_reducible first
  | refine dI_var rfl ?_ | refine dI_c ?_ | refine dI_op0 ?_ | refine dI_op ?_ | refine dI_un ?_ | refine dI_ixO rfl ?_ | refine dI_ixT ?_ | refine dI_ixL ?_ | refine dI_if ?_ | refine dI_lenO rfl ?_ | refine dI_lenL ?_ | refine dI_abs ?_ | refine dI_two ?_ | refine dI_intB ?_
  | refine dB_var rfl ?_ | refine dB_c ?_ | refine dB_op0 ?_ | refine dB_eqI ?_ | refine dB_neI ?_ | refine dB_inI ?_ | refine dB_not ?_ | refine dB_and ?_ | refine dB_or ?_ | refine dB_chain ?_ | refine dB_eqD ?_ | refine dB_neD ?_ | refine dB_isi ?_
  | refine dL_var rfl ?_ | refine dL_ixO rfl ?_ | refine dL_ixT ?_ | refine dL_ixL ?_ | refine dL_o ?_
  | refine dT_var rfl ?_ | refine dT_ixL ?_ | refine dT_ixT ?_ | refine dT_tup ?_ | refine dT_slT ?_ | refine dT_catT ?_
  | refine de_var rfl ?_ | refine dX_ixO rfl ?_ | refine dX_ixT ?_ | refine dX_ixL ?_ | refine de_tup ?_ | refine de_c rfl ?_ | refine de_if ?_ | refine Do.de (do_lst ?_) | refine de_catTT ?_ | refine de_slTT ?_
  | refine dI_e (dI_op0 ?_) | refine dI_e (dI_op ?_) | refine dI_e (dI_un ?_) | refine dI_e (dI_lenO rfl ?_) | refine dI_e (dI_lenL ?_) | refine dI_e (dI_abs ?_) | refine dI_e (dI_two ?_) | refine dI_e (dI_intB ?_)
  | refine dB_e (dB_op0 ?_) | refine dB_e (dB_eqI ?_) | refine dB_e (dB_neI ?_) | refine dB_e (dB_inI ?_) | refine dB_e (dB_not ?_) | refine dB_e (dB_and ?_) | refine dB_e (dB_or ?_) | refine dB_e (dB_chain ?_) | refine dB_e (dB_eqD ?_) | refine dB_e (dB_neD ?_)
  | refine dt_tB ?_ | refine dt_tTest ?_ | refine dt_not ?_ | refine dt_and ?_ | refine dt_or ?_ | refine dt_yes ?_
  | refine da_nil ?_ | refine da_cons ?_ | refine dp_no ?_ | refine dp_partI ?_
  | refine di_rngI ?_ | refine di_listL ?_ | refine di_zipL ?_ | refine di_enumL ?_
  | refine do_lck rfl ?_ | refine do_lst ?_ | refine do_catL ?_ | refine do_slLL ?_ | refine do_revL ?_
  | refine dg_nm rfl ?_ | refine dg_name rfl (by simp) ?_ | refine dg_tup rfl ?_ | refine dgs_cons ?_ | refine dgs_nil ?_))
local macro_rules | `(tactic| walk_at "de") => `(tactic| (repeat (first | walk_at "de1" | (refine ⟨_, rfl, ?_⟩))))
local macro_rules | `(tactic| walk_at "nrm") => `(tactic| (try dsimp only [List.set, toD, wipeR, List.map, pairD, beadD, lookD]))

local macro_rules | `(tactic| walk_at "dg") => `(tactic| ((repeat (with_reducible first | refine dg_tup rfl ?_ | refine dg_unl rfl ?_ | refine dgs_cons ?_ | refine dgs_nil ?_ | refine dg_name rfl (by simp) ?_)); walk_at "nrm"))
abbrev sSplit : Stmt := topS 20
theorem scSplit : FnScope ["house", "begin", "counts", "end", "left", "owed", "shares", "door", "a", "b", "more", "had", "has"] ["house", "begin", "counts", "end"] (defScope sSplit) := ⟨rfl, rfl, rfl, by decide +kernel, rfl, by decide +kernel, by decide +kernel⟩
section
variable {P : Program} {w : World} {K : PySem.W.Frag} {mg : Str → Option Value} {base : Heap}
theorem ok_split {f : Addr} {fd : FuncData} (F : Fun K "_split" "_split" sSplit f fd) (cal_lot_sums : Cg P w K mg base 2 "lot_sums" (spSumsD K)) (cal_most_across : Cg P w K mg base 1 "_most_across" (spMost K)) (m_list : mg "list" = none) (m_zip : mg "zip" = none) (m_enumerate : mg "enumerate" = none) (m_min : mg "min" = none) : FnG P w K mg base 3 f fd ["house", "begin", "counts", "end"] (spSplit K) := by
  have sc := scSplit
  refine fnG_of F scSplit (fun vs H Q E h => by obtain ⟨i, S, _, d, _⟩ := h; exact d.len) (fun cdv A outer s H vs Q E hr hg h => ?_)
  refine ⟨_, (pss_cons (ps_set (i := 4) sc.nd rfl (.inl rfl) (pe_callTy call_list_of (by rfl) m_list (by decide +kernel) (pa_cons (pv 2) pa_nil)))
  (pss_cons (ps_setLc (i := 5) (own := [("had", 11), ("has", 12)]) (g := gTup K 2 (gCons (gName 11) (gCons (gName 12) gNil))) (tt := tYes) (by rfl) sc.nd rfl rfl (sw_true rfl rfl rfl (by decide +kernel)) (pi_zip (by rfl) m_zip (pa_cons (pv 1) (pa_cons (pv 3) pa_nil))) (blkOk_by (own := [("had", 11), ("has", 12)]) (N := ["house", "begin", "counts", "end", "left", "owed", "shares", "door", "a", "b", "more", "had", "has"]) (sc := defScope sSplit) (by decide +kernel)) (fun _ _ _ _ _ => (pg_tup (by rfl) (pgs_cons (pg_name (i := 11) sc.nd rfl (.inl rfl)) (pgs_cons (pg_name (i := 12) sc.nd rfl (.inl rfl)) pgs_nil)))) (fun _ _ _ _ _ => pts_nil) (fun _ _ _ _ _ => (pe_op op_sub (pv 11) (pv 12))))
  (pss_cons (ps_set (i := 6) sc.nd rfl (.inl rfl) (pe_lst pa_nil))
  (pss_cons (ps_for PassesOwn.never rfl (pi_enum (by rfl) m_enumerate (pa_cons (pe_ix ix_tup (pv 0) pe_int (fun _ _ => rfl)) pa_nil)) (pg_tup (by rfl) (pgs_cons (pg_name (i := 7) sc.nd rfl (.inl rfl)) (pgs_cons (pg_tup (by rfl) (pgs_cons (pg_name (i := 8) sc.nd rfl (.inl rfl)) (pgs_cons (pg_name (i := 9) sc.nd rfl (.inl rfl)) pgs_nil))) pgs_nil)))
    (pss_cons (ps_asg pe_int (pg_sub (pv 4) (pv 7) set_list))
  (pss_cons (ps_set (i := 10) sc.nd rfl (.inl rfl) (pe_callB (call_min2 rfl) (by rfl) m_min (by decide +kernel) (pa_cons (pe_ix ix_list (pv 2) (pv 7) (fun _ _ => rfl)) (pa_cons (pe_g cal_most_across hg hr (by first | decide | exact Nat.le_refl _ | omega) (by rfl) (pa_cons (pe_g cal_lot_sums hg hr (by first | decide | exact Nat.le_refl _ | omega) (by rfl) (pa_cons (pv 0) (pa_cons (pv 4) (pa_cons (pv 5) pa_nil)))) (pa_cons (pv 8) (pa_cons (pv 9) pa_nil)))) pa_nil))))
  (pss_cons (ps_augS (pv 5) (pv 8) get_list (pv 10) ip_sub set_list)
  (pss_cons (ps_augS (pv 5) (pv 9) get_list (pv 10) ip_add set_list)
  (pss_one (ps_expr (pe_bm PySem.F.plainAttrs_list PySem.F.slot_list_append PySem.F.type_list_append mt_append (pv 6) (pa_cons (pe_lst (pa_cons (pe_op op_fdiv (pe_op op_add (pe_ix ix_list (pv 2) (pv 7) (fun _ _ => rfl)) (pv 10)) pe_int) (pa_cons (pe_op op_fdiv (pe_op op_sub (pe_ix ix_list (pv 2) (pv 7) (fun _ _ => rfl)) (pv 10)) pe_int) pa_nil))) pa_nil)))))))))
  (pss_one (ps_ret (pv 6))))))), ?_⟩
  try dsimp only [cxOf, L2.Cx.nox]
  obtain ⟨⟨⟨n, ds, C⟩, B, E⟩, S, hal, dd, ⟨R, EC, hE⟩, q⟩ := h
  have ht := R.ok.t
  have hB := R.ok.b
  have hC := R.c
  have st00 := SpL.start (i := ⟨⟨n, ds, C⟩, B, E⟩) R EC hE
  have hdn : ∀ {i' : He1} {left W L}, SpL i' i'.t.ds.length left W L → i'.t.C.length = i'.t.ds.length → SplitOk i' L := fun h1 h2 => h1.done h2
  dsimp only at ht hB hC hE
  have hr1 := ht.r1
  have hdl := ht.d1
  have hcl := ht.cl
  dsimp only at hr1 hdl hcl
  have hall : AllSl K (hid S H) H ([houseD n ds, intsD B, intsD C, intsD E].map .d ++ List.replicate 9 .un) (vs.map some ++ List.replicate 9 none) := (AllSl.ds (H := H) dd).app (AllSl.un 9)
  have st := Sta.init (W := Wn) (ν := 0) (ownA_start [] [houseD n ds, intsD B, intsD C, intsD E] 9) hall (fun c hc => nomatch hc) hal trivial (fun _ _ h => (nomatch h))
  have est : L2.start ["house", "begin", "counts", "end", "left", "owed", "shares", "door", "a", "b", "more", "had", "has"] vs = vs.map some ++ List.replicate 9 none := by
    unfold L2.start
    rw [dd.len]
    rfl
  rw [est]
  have H0B : ∀ b o, H b = some o → hid Wn.J H b = some o := fun b o e => hid_of e (fun z => nomatch z)
  generalize hid Wn.J H = B0 at st H0B
  change Sta K Wn S B0 [.d (houseD n ds), .d (intsD B), .d (intsD C), .d (intsD E), .un, .un, .un, .un, .un, .un, .un, .un, .un] _ H 0 at st
  -- left
  refine Ds.runS (M := fun _ r => ∃ a1, r = [.d (houseD n ds), .d (intsD B), .d (intsD C), .d (intsD E), .own a1 (C.map .int), .un, .un, .un, .un, .un, .un, .un, .un]) (ds_setO rfl (by simp) (do_listL (dL_var rfl fun a1 => ⟨a1, rfl⟩))) st fun ν1 ρ1 σ1 H1 st1 hM => ?_
  obtain ⟨a1, rfl⟩ := hM
  -- owed
  refine Ds.runS (M := fun _ r => ∃ a2, r = [.d (houseD n ds), .d (intsD B), .d (intsD C), .d (intsD E), .own a1 (C.map .int), .own a2 (((List.range n).map fun r => B.getD r 0 - E.getD r 0).map .int), .un, .un, .un, .un, .un, .un, .un]) (ds_setO rfl (by simp) (do_lck rfl (di_zipL (dL_var rfl (dL_var rfl ?_))))) st1 fun ν2 ρ2 σ2 H2 st2 hM => ?_
  · rw [zipD_map]
    refine lcM (fun q : Int × Int => .tuple [.int q.1, .int q.2]) (B.zip E) (fun q => .int (q.1 - q.2)) (szL (by rw [List.length_zip]; omega)) rfl (fun q hq => ?_) ?_
    · walk_at "dg"
      walk_at "de"
      exact ⟨rfl, rfl⟩
    · intro a2
      refine ⟨a2, ?_⟩
      rw [show ((B.zip E).map fun q => PyData.int (q.1 - q.2)) = ((B.zip E).map fun q => q.1 - q.2).map .int from by rw [List.map_map]; rfl, diff_two hB hE]
      rfl
  obtain ⟨a2, rfl⟩ := hM
  -- shares
  refine new_of fun p np => ?_
  have st3 := (st2.neu (.lst []) np).setS (i := 6) (s := .at (.ref p)) (u := some (.ref p)) rfl rfl rfl
  have H2p : ∀ b o, H b = some o → H2 b = some o := fun b o e => st2.here (H0B b o e)
  have nHp : H p = none := by
    cases z : H p with
    | none => rfl
    | some o => rw [H2p p o z] at np; cases np
  have B3 : ∀ b o, H b = some o → upd B0 p (HO.lst []) b = some o := fun b o e => by rw [upd_ne' (fun z => by rw [z, nHp] at e; cases e)]; exact H0B b o e
  have B3p : upd B0 p (HO.lst []) p = some (.lst []) := upd_same
  generalize upd B0 p (HO.lst []) = B3' at st3 B3 B3p
  change Sta K Wn (p :: S) B3' [.d (houseD n ds), .d (intsD B), .d (intsD C), .d (intsD E), .own a1 (C.map .int), .own a2 (((List.range n).map fun r => B.getD r 0 - E.getD r 0).map .int), .at (.ref p), .un, .un, .un, .un, .un, .un] _ _ _ at st3
  refine seq_of (for_raw (xs := ds.zipIdx.map fun p => PyData.tuple [.int (p.2 : Int), pairD p.1]) st3 (di_enumL (dL_ixT (dT_var rfl (dI_c ⟨_, rfl, ?_⟩)))) (fun k S2 B2 r => ∃ as left W L, r = [.d (houseD n ds), .d (intsD B), .d (intsD C), .d (intsD E), .own a1 (left.map .int), .own a2 (W.map .int), .at (.ref p), .un, .un, .un, .un, .un, .un] ∧ p ∈ S2 ∧ (∀ b o, H b = some o → B2 b = some o) ∧ Mt B2 p as L ∧ (∀ a ∈ as, H a = none) ∧ SpL ⟨⟨n, ds, C⟩, B, E⟩ k left W L) (fun B1 hB1 => ?_) (fun k x S2 B2 ρ4 σ4 H4 ν4 hx hI hS2 st4 v dv N hN => ?_) (fun S2 B2 ρ4 σ4 H4 ν4 hI hS2 hB2 st4 => ?_))
  · exact enumD_map _ _
  · exact ⟨[], C, _, [], rfl, List.mem_cons_self, fun b o e => hB1 b o (B3 b o e), ⟨hB1 _ _ B3p, rfl, fun i a x h => by simp at h, List.nodup_nil, nofun⟩, fun a ha => (nomatch ha), st00⟩
  · obtain ⟨as, left, W, L, rfl, hp2, hH, hMt, hfr, I⟩ := hI
    obtain ⟨⟨⟨a, b⟩, k'⟩, hx1, rfl⟩ : ∃ d, ds.zipIdx[k]? = some d ∧ x = PyData.tuple [.int (d.2 : Int), pairD d.1] := by
      rw [List.getElem?_map] at hx
      cases hz : ds.zipIdx[k]? with
      | none => rw [hz] at hx; cases hx
      | some d => rw [hz] at hx; cases hx; exact ⟨d, rfl, rfl⟩
    obtain ⟨hd, ek⟩ := zipIdx_at hx1
    dsimp only at hd ek
    subst ek
    have hk := lt_of_at hd
    obtain ⟨ha, hb, hab⟩ : a < n ∧ b < n ∧ a ≠ b := ht.doors (a, b) (List.mem_of_getElem? hd)
    have ll := I.ll
    have lw := I.lw
    dsimp only at ll lw
    refine Dg.runK (Θ := fun r => r = [.d (houseD n ds), .d (intsD B), .d (intsD C), .d (intsD E), .own a1 (left.map .int), .own a2 (W.map .int), .at (.ref p), .d (.int (k' : Int)), .d (.int (a : Int)), .d (.int (b : Int)), .un, .un, .un]) (by dsimp only [pairD]; walk_at "dg") st4 dv fun ρ5 σ5 st5 hr => ?_
    subst hr
    refine Ds.runS (M := fun _ r => r = [.d (houseD n ds), .d (intsD B), .d (intsD C), .d (intsD E), .own a1 ((left.set k' 0).map .int), .own a2 (W.map .int), .at (.ref p), .d (.int (k' : Int)), .d (.int (a : Int)), .d (.int (b : Int)), .un, .un, .un]) (ds_subI rfl (de_c rfl (dI_var rfl ⟨k', by rw [List.length_map]; exact ixN_nat (by omega), by rw [List.map_set]; rfl⟩))) st5 fun ν6 ρ6 σ6 H6 st6 hr => ?_
    subst hr
    have okl : Hc.Ok ⟨n, ds, left.set k' 0⟩ := ⟨ht.doors, hr1, hdl, by show (left.set k' 0).length = ds.length; rw [List.length_set, ll]⟩
    have eS : sumsL n (Hc.z ⟨n, ds, left.set k' 0⟩) W = tabL n (fun K => ssum n (fun r => W.getD r 0) K + cutv (ds.zip (left.set k' 0)) K) := sums_range fun x hx => ⟨(okl.lt hx).1, (okl.lt hx).2.1⟩
    refine Ds.runS (M := fun _ r => ∃ m t : Int, (∀ K, K < 2 ^ n → K.testBit a = true → K.testBit b = false → m ≤ ssum n (fun r => W.getD r 0) K + cutv (ds.zip (left.set k' 0)) K) ∧ (∃ K, K < 2 ^ n ∧ K.testBit a = true ∧ K.testBit b = false ∧ m = ssum n (fun r => W.getD r 0) K + cutv (ds.zip (left.set k' 0)) K) ∧ t = (if m < C.getD k' 0 then m else C.getD k' 0) ∧ r = [.d (houseD n ds), .d (intsD B), .d (intsD C), .d (intsD E), .own a1 ((left.set k' 0).map .int), .own a2 (W.map .int), .at (.ref p), .d (.int (k' : Int)), .d (.int (a : Int)), .d (.int (b : Int)), .d (.int t), .un, .un]) (ds_set rfl <| de_peek 4 rfl <| de_peek 5 rfl <| dI_e <| dI_two <| dI_ixL <| dL_var rfl <| dI_var rfl ⟨_, atD_ints (by rw [hcl]; exact hk), dI_call0 <| da_cons <| de_call0 <| da_cons <| de_var rfl <| da_cons <| de_var rfl <| da_cons <| de_var rfl <| da_nil ⟨⟨⟨n, ds, left.set k' 0⟩, W⟩, rfl, ⟨okl, lw⟩, fun nn s hs => ⟨_, hs, da_cons <| de_var rfl <| da_cons <| de_var rfl <| da_nil ⟨⟨n, _, a, b⟩, by dsimp only; rw [eS], ⟨hr1, ha, hb, hab⟩, fun nn s hs => ?_⟩⟩⟩⟩) st6 fun ν7 ρ7 σ7 H7 st7 hr => ?_
    · obtain ⟨m, rfl, m1, m2⟩ := hs
      exact ⟨m, rfl, rfl, rfl, m, _, m1, m2, rfl, rfl⟩
    obtain ⟨m, t, m1, m2, ht2, rfl⟩ := hr
    have I2 := I.step ht hd m1 m2 ht2
    dsimp only at I2
    have gb : ((W.set a (W.getD a 0 - t)).map PyData.int)[b]? = some (.int ((W.set a (W.getD a 0 - t)).getD b 0)) := get_ints (by rw [List.length_set, lw]; exact hb)
    refine Ds.runS (M := fun _ r => r = [.d (houseD n ds), .d (intsD B), .d (intsD C), .d (intsD E), .own a1 ((left.set k' 0).map .int), .own a2 ((W.set a (W.getD a 0 - t)).map .int), .at (.ref p), .d (.int (k' : Int)), .d (.int (a : Int)), .d (.int (b : Int)), .d (.int t), .un, .un]) (ds_augSI rfl (dI_var rfl ⟨a, _, rfl, get_ints (by rw [lw]; exact ha), dI_var rfl (by rw [← List.map_set]; rfl)⟩)) st7 fun ν8 ρ8 σ8 H8 st8 hr => ?_
    subst hr
    refine Ds.runS (M := fun _ r => r = [.d (houseD n ds), .d (intsD B), .d (intsD C), .d (intsD E), .own a1 ((left.set k' 0).map .int), .own a2 (((W.set a (W.getD a 0 - t)).set b ((W.set a (W.getD a 0 - t)).getD b 0 + t)).map .int), .at (.ref p), .d (.int (k' : Int)), .d (.int (a : Int)), .d (.int (b : Int)), .d (.int t), .un, .un]) (ds_augSI rfl (dI_var rfl ⟨b, _, rfl, gb, dI_var rfl (by rw [← List.map_set]; rfl)⟩)) st8 fun ν9 ρ9 σ9 H9 st9 hr => ?_
    subst hr
    -- the door's shares
    have hDa : Da K Wn [.d (houseD n ds), .d (intsD B), .d (intsD C), .d (intsD E), .own a1 ((left.set k' 0).map .int), .own a2 (((W.set a (W.getD a 0 - t)).set b ((W.set a (W.getD a 0 - t)).getD b 0 + t)).map .int), .at (.ref p), .d (.int (k' : Int)), .d (.int (a : Int)), .d (.int (b : Int)), .d (.int t), .un, .un] ν9 (tCons (tOp (rI CDiv fun i j => V.int (i / j)) (tOp (rI0 fun i j => V.int (i + j)) (tOp (rIxL K) (tVar 2) (tVar 7)) (tVar 10)) (tC (V.int 2))) (tCons (tOp (rI CDiv fun i j => V.int (i / j)) (tOp (rI0 fun i j => V.int (i - j)) (tOp (rIxL K) (tVar 2) (tVar 7)) (tVar 10)) (tC (V.int 2))) tNil)) (fun _ xs => xs = [.int ((C.getD k' 0 + t) / 2), .int ((C.getD k' 0 - t) / 2)]) :=
      da_cons <| dI_e <| dI_op <| dI_op0 <| dI_ixL <| dL_var rfl <| dI_var rfl ⟨_, atD_ints (by rw [hcl]; exact hk), dI_var rfl <| dI_c ⟨⟨by decide, by decide⟩, da_cons <| dI_e <| dI_op <| dI_op0 <| dI_ixL <| dL_var rfl <| dI_var rfl ⟨_, atD_ints (by rw [hcl]; exact hk), dI_var rfl <| dI_c ⟨⟨by decide, by decide⟩, da_nil rfl⟩⟩⟩⟩
    obtain ⟨u6, eu6, e6⟩ := st9.sl 6 _ rfl
    subst e6
    have hpH := st9.here hMt.hp
    refine ⟨_, eu6, .inl ⟨rfl, _, .inl (.inl hpH)⟩, ?_⟩
    refine cons_lst (hDa S2 B2 σ9 H9 _ st9 fun νa vs2 Ha xs2 ka ia da hx2 => ?_)
    subst hx2
    have ev : vs2 = [V.int ((C.getD k' 0 + t) / 2), V.int ((C.getD k' 0 - t) / 2)] := da.ints_eq (ns := [(C.getD k' 0 + t) / 2, (C.getD k' 0 - t) / 2])
    subst ev
    have sta := st9.keep ka ia
    refine ⟨szd rfl, fun qq nq => ?_⟩
    have hpa := sta.here hMt.hp
    have qp : qq ≠ p := fun e => by rw [e, hpa] at nq; cases nq
    have nB : B2 qq = none := by
      cases z : B2 qq with
      | none => rfl
      | some o => rw [sta.here z] at nq; cases nq
    refine ⟨p, as.map V.ref, .ref qq, rfl, rfl, by rw [upd_ne' qp.symm]; exact hpa, by rw [List.length_map, hMt.ln, I.n, sizeLine_eq]; show k' < _; omega, ?_⟩
    have stb := (sta.neu (.lst [V.int ((C.getD k' 0 + t) / 2), V.int ((C.getD k' 0 - t) / 2)]) nq).poke (.lst (as.map V.ref ++ [V.ref qq])) (List.mem_cons_of_mem _ hp2)
    have stc := stb.forgets (vs := [7, 8, 9, 10]) fun v hm => List.all_eq_true.mp (show ([7, 8, 9, 10].all fun v => nOwn _ v) = true from rfl) v hm
    refine hN _ _ _ _ _ _ stc (fun b hb => List.mem_cons_of_mem _ hb) (fun b hb => ?_) (fun b o nb e => ?_) ⟨as ++ [qq], _, _, _, rfl, List.mem_cons_of_mem _ hp2, fun b o e => ?_, hMt.push (x := ((C.getD k' 0 + t) / 2, (C.getD k' 0 - t) / 2)) nB, fun c hc => ?_, I2⟩
    · rcases List.mem_cons.mp hb with rfl | hb
      · exact .inr nB
      · exact .inl hb
    · have c1 : b ≠ p := fun e => nb (by rw [e]; exact List.mem_cons_self)
      have c2 : b ≠ qq := fun z => by rw [z, nB] at e; cases e
      rw [upd_ne' c1, upd_ne' c2]; exact e
    · have c1 : b ≠ p := fun z => by rw [z, nHp] at e; cases e
      have c2 : b ≠ qq := fun z => by
        have := hH b o e
        rw [z, nB] at this; cases this
      rw [upd_ne' c1, upd_ne' c2]; exact hH b o e
    · rcases List.mem_append.mp hc with hc | hc
      · exact hfr c hc
      · rw [List.mem_singleton.mp hc]
        cases z : H qq with
        | none => rfl
        | some o =>
          have := hH qq o z
          rw [nB] at this; cases this
  · obtain ⟨as, left, W, L, rfl, hp2, hH, hMt, hfr, I⟩ := hI
    rw [List.length_map, List.length_zipIdx] at I
    obtain ⟨u, eu, e6⟩ := st4.sl 6 _ rfl
    subst e6
    show tRet (tVar 6) _ _ _
    refine ⟨_, eu, ?_⟩
    refine q H4 p as L (fun b o e => st4.here (hH b o e)) nHp hfr ⟨st4.here hMt.hp, hMt.ln, fun i a x h1 h2 => st4.here (hMt.at_ i a x h1 h2), hMt.nd, hMt.np⟩ (hdn I hcl)
end
end Bd
set_option maxHeartbeats 4000000
namespace Bd
open PySem PySem.Spec PyProof.Rows L2 HT
local macro_rules | `(tactic| walk_at "de1") => `(tactic| (with_reducible first
  | refine dI_var rfl ?_ | refine dI_c ?_ | refine dI_op0 ?_ | refine dI_op ?_ | refine dI_un ?_ | refine dI_ixO rfl ?_ | refine dI_ixT ?_ | refine dI_ixL ?_ | refine dI_if ?_ | refine dI_lenO rfl ?_ | refine dI_lenL ?_ | refine dI_abs ?_ | refine dI_two ?_ | refine dI_intB ?_
  | refine dB_var rfl ?_ | refine dB_c ?_ | refine dB_op0 ?_ | refine dB_eqI ?_ | refine dB_neI ?_ | refine dB_inI ?_ | refine dB_not ?_ | refine dB_and ?_ | refine dB_or ?_ | refine dB_chain ?_ | refine dB_eqD ?_ | refine dB_neD ?_ | refine dB_isi ?_
  | refine dL_var rfl ?_ | refine dL_ixO rfl ?_ | refine dL_ixT ?_ | refine dL_ixL ?_ | refine dL_o ?_
  | refine dT_var rfl ?_ | refine dT_ixL ?_ | refine dT_ixT ?_ | refine dT_tup ?_ | refine dT_slT ?_ | refine dT_catT ?_
  | refine de_var rfl ?_ | refine dX_ixO rfl ?_ | refine dX_ixT ?_ | refine dX_ixL ?_ | refine de_tup ?_ | refine de_c rfl ?_ | refine de_if ?_ | refine Do.de (do_lst ?_) | refine de_catTT ?_ | refine de_slTT ?_
  | refine dI_e (dI_op0 ?_) | refine dI_e (dI_op ?_) | refine dI_e (dI_un ?_) | refine dI_e (dI_lenO rfl ?_) | refine dI_e (dI_lenL ?_) | refine dI_e (dI_abs ?_) | refine dI_e (dI_two ?_) | refine dI_e (dI_intB ?_)
  | refine dB_e (dB_op0 ?_) | refine dB_e (dB_eqI ?_) | refine dB_e (dB_neI ?_) | refine dB_e (dB_inI ?_) | refine dB_e (dB_not ?_) | refine dB_e (dB_and ?_) | refine dB_e (dB_or ?_) | refine dB_e (dB_chain ?_) | refine dB_e (dB_eqD ?_) | refine dB_e (dB_neD ?_)
  | refine dt_tB ?_ | refine dt_tTest ?_ | refine dt_not ?_ | refine dt_and ?_ | refine dt_or ?_ | refine dt_yes ?_
  | refine da_nil ?_ | refine da_cons ?_ | refine dp_no ?_ | refine dp_partI ?_
  | refine di_rngI ?_ | refine di_listL ?_ | refine di_zipL ?_ | refine di_enumL ?_
  | refine do_lck rfl ?_ | refine do_lst ?_ | refine do_catL ?_ | refine do_slLL ?_ | refine do_revL ?_
  | refine dg_nm rfl ?_ | refine dg_name rfl (by simp) ?_ | refine dg_tup rfl ?_ | refine dgs_cons ?_ | refine dgs_nil ?_))
local macro_rules | `(tactic| walk_at "de") => `(tactic| (repeat (first | walk_at "de1" | (refine ⟨_, rfl, ?_⟩))))
local macro_rules | `(tactic| walk_at "nrm") => `(tactic| (try dsimp only [List.set, toD, wipeR, List.map, pairD, beadD, lookD]))

local macro_rules | `(tactic| walk_at "dg") => `(tactic| ((repeat (with_reducible first | refine dg_tup rfl ?_ | refine dg_unl rfl ?_ | refine dgs_cons ?_ | refine dgs_nil ?_ | refine dg_name rfl (by simp) ?_)); walk_at "nrm"))
/-! a row of goings is found -/
def decP (L : List (Int × Int)) (d : Nat) (w : Int) : List (Int × Int) := L.set d (if w = 0 then ((L.getD d (0, 0)).1 - 1, (L.getD d (0, 0)).2) else ((L.getD d (0, 0)).1, (L.getD d (0, 0)).2 - 1))
theorem toC_zip : ∀ (ds : List (Nat × Nat)) (L : List (Int × Int)), toC (ds.zip L) = ds.zip (sumL L)
  | [], _ => rfl
  | _ :: _, [] => rfl
  | d :: ds, p :: L => by
    show (d, p.1 + p.2) :: toC (ds.zip L) = (d, p.1 + p.2) :: ds.zip (sumL L)
    rw [toC_zip ds L]
theorem pair_at {L : List (Int × Int)} {d : Nat} (h : d < L.length) : L[d]? = some (L.getD d (0, 0)) := by rw [List.getD_eq_getElem?_getD, List.getElem?_eq_getElem h]; rfl
theorem sumL_at {L : List (Int × Int)} {d : Nat} (h : d < L.length) : (sumL L).getD d 0 = (L.getD d (0, 0)).1 + (L.getD d (0, 0)).2 := by
  unfold sumL
  rw [List.getD_eq_getElem?_getD, List.getElem?_map, pair_at h]; rfl
theorem less_dec {L : List (Int × Int)} {d : Nat} {w : Int} (h : d < L.length) : sumL (decP L d w) = lessC L d := by
  unfold lessC decP
  rw [sumL_at h]
  unfold sumL
  rw [List.map_set]
  congr 1
  split
  · show (L.getD d (0, 0)).1 - 1 + (L.getD d (0, 0)).2 = _; omega
  · show (L.getD d (0, 0)).1 + ((L.getD d (0, 0)).2 - 1) = _; omega
theorem eg_of {ds : List (Nat × Nat)} {L : List (Int × Int)} {d : Nat} {w : Int} (hl : L.length = ds.length) (hd : d < ds.length) (hw : w = 0 ∨ w = 1) (hs : 0 < share L d w) : Eg (ds.zip L) (outOf ds ((d : Int), w)) (intoOf ds ((d : Int), w)) (ds.zip (decP L d w)) := by
  have h1 : ds[d]? = some (ds.getD d (0, 0)) := by rw [List.getD_eq_getElem?_getD, List.getElem?_eq_getElem hd]; rfl
  have h2 := pair_at (L := L) (d := d) (by omega)
  obtain ⟨z1, z2, e1, _, e3⟩ := zip_mid h1 h2
  have ez : ds.zip (decP L d w) = _ := e3 _
  rw [e1, ez]
  refine ⟨z1, z2, (ds.getD d (0, 0)).1, (ds.getD d (0, 0)).2, (L.getD d (0, 0)).1, (L.getD d (0, 0)).2, rfl, ?_⟩
  unfold share at hs
  unfold outOf intoOf
  rw [Int.toNat_natCast]
  rcases hw with rfl | rfl
  · rw [if_pos rfl] at hs
    exact .inl ⟨rfl, rfl, hs, rfl⟩
  · rw [if_neg (by decide)] at hs
    exact .inr ⟨rfl, rfl, hs, rfl⟩
theorem of_eg {ds : List (Nat × Nat)} {L : List (Int × Int)} {o i : Nat} {z' : List Dw2} (e : Eg (ds.zip L) o i z') : ∃ d w, d < ds.length ∧ d < L.length ∧ (w = 0 ∨ w = 1) ∧ 0 < share L d w ∧ o = outOf ds ((d : Int), w) ∧ i = intoOf ds ((d : Int), w) ∧ z' = ds.zip (decP L d w) := by
  obtain ⟨z1, z2, a, b, f, g, e1, h⟩ := e
  have at_ : (ds.zip L)[z1.length]? = some ((a, b), (f, g)) := by rw [e1, List.getElem?_append_right (Nat.le_refl _), Nat.sub_self]; rfl
  obtain ⟨q1, q2⟩ := List.getElem?_zip_eq_some.mp at_
  have l1 := lt_of_at q1
  have l2 := lt_of_at q2
  obtain ⟨y1, y2, e2, e3, e4⟩ := zip_mid q1 q2
  obtain ⟨r1, r2⟩ := List.append_inj (e1.symm.trans e2) e3.symm
  have r2 : z2 = y2 := (List.cons.inj r2).2
  subst r1 r2
  have gd : ds.getD z1.length (0, 0) = (a, b) := by rw [List.getD_eq_getElem?_getD, q1]; rfl
  have gL : L.getD z1.length (0, 0) = (f, g) := by rw [List.getD_eq_getElem?_getD, q2]; rfl
  rcases h with ⟨rfl, rfl, h0, rfl⟩ | ⟨rfl, rfl, h0, rfl⟩
  · refine ⟨z1.length, 0, l1, l2, .inl rfl, ?_, ?_, ?_, ?_⟩
    · unfold share; rw [if_pos rfl, gL]; exact h0
    · unfold outOf; rw [Int.toNat_natCast, gd]; rfl
    · unfold intoOf; rw [Int.toNat_natCast, gd]; rfl
    · unfold decP; rw [if_pos rfl, gL]; exact (e4 _).symm
  · refine ⟨z1.length, 1, l1, l2, .inr rfl, ?_, ?_, ?_, ?_⟩
    · unfold share; rw [if_neg (by decide), gL]; exact h0
    · unfold outOf; rw [Int.toNat_natCast, gd]; rfl
    · unfold intoOf; rw [Int.toNat_natCast, gd]; rfl
    · unfold decP; rw [if_neg (by decide), gL]; exact (e4 _).symm
theorem fM_sum {ds : List (Nat × Nat)} {B : List Int} : ∀ {m : Nat} {L : List Gg}, L.length = m → Rn ds B L → (fM ds L).sum = m ∧ ∀ x ∈ fM ds L, 0 ≤ x := by
  intro m
  induction m with
  | zero =>
    intro L hl _
    have : L = [] := List.length_eq_zero_iff.mp hl
    subst this
    have gen : ∀ n : Nat, (List.replicate n (0 : Int)).sum = 0 := by
      intro n
      induction n with
      | zero => rfl
      | succ n ih => rw [List.replicate_succ, List.sum_cons, ih]; rfl
    exact ⟨gen _, fun x hx => by rw [(List.mem_replicate.mp hx).2]; exact Int.le_refl 0⟩
  | succ m ih =>
    intro L hl hL
    obtain ⟨L0, x, rfl⟩ : ∃ L0 x, L = L0 ++ [x] := ⟨L.dropLast, L.getLast (fun e => by rw [e] at hl; cases hl), (List.dropLast_concat_getLast _).symm⟩
    obtain ⟨hR, g⟩ := hL.front
    obtain ⟨h1, h2⟩ := ih (by simpa using hl) hR
    have dl : x.1.toNat < (fM ds L0).length := by
      rw [fM_len]
      have := g.d0
      have := g.d1
      omega
    rw [fM_snoc]
    unfold addM
    refine ⟨by rw [sum_set dl]; omega, fun y hy => ?_⟩
    rcases List.mem_or_eq_of_mem_set hy with q | q
    · exact h2 y q
    · rw [q]
      have := h2 _ (getD_mem dl)
      omega
structure GoI (n : Nat) (ds : List (Nat × Nat)) (B C E : List Int) (row : List Gg) (F : List Int) (L : List (Int × Int)) : Prop where
  r : Rn ds B row
  f : F = fN ds B row
  g : GS n (ds.zip L) fun r => F.getD r 0
  l : L.length = ds.length
  c : ∀ j, (fM ds row).getD j 0 + (sumL L).getD j 0 = C.getD j 0
  e : ∀ r, r < n → F.getD r 0 + ntr (ds.zip L) r = E.getD r 0
section
variable {n : Nat} {ds : List (Nat × Nat)} {B C E : List Int} {row : List Gg} {F : List Int} {L : List (Int × Int)}
theorem GoI.lF (h : GoI n ds B C E row F L) (hB : B.length = n) : F.length = n := by rw [h.f, fN_len, hB]
theorem step_fun {d : Nat} {w : Int} (hD : Doors n ds) (lF : F.length = n) (hd : d < ds.length) : (fun r => (stepTo ds F ((d : Int), w)).getD r 0) = stN (fun r => F.getD r 0) (outOf ds ((d : Int), w)) (intoOf ds ((d : Int), w)) := by
  obtain ⟨a, b, _, ha, hb, hab, hw⟩ := outs_of hD (x := ((d : Int), w)) (by show (0 : Int) ≤ (d : Int); omega) (by show (d : Int) < ds.length; omega)
  have hoi : outOf ds ((d : Int), w) < n ∧ intoOf ds ((d : Int), w) < n ∧ outOf ds ((d : Int), w) ≠ intoOf ds ((d : Int), w) := by
    rcases hw with ⟨_, e1, e2⟩ | ⟨_, e1, e2⟩ <;> rw [e1, e2]
    · exact ⟨ha, hb, hab⟩
    · exact ⟨hb, ha, fun e => hab e.symm⟩
  exact funext fun r => step_at (by rw [lF]; exact hoi.1) (by rw [lF]; exact hoi.2.1) hoi.2.2
theorem well_iff {d : Nat} {w : Int} (hD : Doors n ds) (hn : n ≤ 10) (hd1 : ds.length ≤ 100) (lF : F.length = n) (hl : L.length = ds.length) (nn : ∀ x ∈ L, 0 ≤ x.1 ∧ 0 ≤ x.2) (hF : ∀ r, r < n → 0 ≤ F.getD r 0) (hd : d < ds.length) (hw : w = 0 ∨ w = 1) (hs : 0 < share L d w) (ho : 1 ≤ F.getD (outOf ds ((d : Int), w)) 0) :
    emptyL ⟨n, ds, lessC L d⟩ (stepTo ds F ((d : Int), w)) = [] ↔ OpS n (toC (ds.zip (decP L d w))) (stN (fun r => F.getD r 0) (outOf ds ((d : Int), w)) (intoOf ds ((d : Int), w))) := by
  have dl : d < L.length := by omega
  have ok : Hc.Ok ⟨n, ds, lessC L d⟩ := ⟨hD, hn, hd1, by show (lessC L d).length = ds.length; unfold lessC; rw [List.length_set, sumL_len, hl]⟩
  have lS : (stepTo ds F ((d : Int), w)).length = n := by rw [step_len, lF]
  have sf := step_fun (F := F) (w := w) hD lF hd
  have c0 : ∀ x ∈ lessC L d, 0 ≤ x := fun x hx => by
    unfold lessC at hx
    rcases List.mem_or_eq_of_mem_set hx with q | q
    · unfold sumL at q
      obtain ⟨p, hp, rfl⟩ := List.mem_map.mp q
      have := nn p hp
      omega
    · rw [q, sumL_at dl]
      have := nn _ (List.mem_of_getElem? (pair_at dl))
      unfold share at hs
      split at hs <;> omega
  have s0 : ∀ x ∈ stepTo ds F ((d : Int), w), 0 ≤ x := fun x hx => by
    obtain ⟨r, hr⟩ := List.getElem?_of_mem hx
    have rl := lt_of_at hr
    rw [lS] at rl
    have e1 : (stepTo ds F ((d : Int), w)).getD r 0 = x := by rw [List.getD_eq_getElem?_getD, hr]; rfl
    have e2 := congrFun sf r
    rw [← e1, e2]
    unfold stN
    dsimp only
    have h1 := hF r rl
    by_cases c : r = outOf ds ((d : Int), w)
    · have h5 : F.getD r 0 = F.getD (outOf ds ((d : Int), w)) 0 := by rw [c]
      rw [if_pos c]; split <;> omega
    · rw [if_neg c]; split <;> omega
  rw [empty_iff ok c0 lS s0, toC_zip, less_dec dl]
  unfold OpS
  have es : ∀ k, lsum (stepTo ds F ((d : Int), w)) k = ssum n (stN (fun r => F.getD r 0) (outOf ds ((d : Int), w)) (intoOf ds ((d : Int), w))) k := fun k => by
    unfold lsum
    rw [lS, sf]
  constructor
  · intro h k hk hc i hi hki hm
    rw [← es]
    exact h k hk hc i hi hki hm
  · intro h k hk hc i hi hki hm
    rw [es]
    exact h k hk hc i hi hki hm
theorem GoI.nn (h : GoI n ds B C E row F L) : ∀ x ∈ L, 0 ≤ x.1 ∧ 0 ≤ x.2 := fun x hx => by
  obtain ⟨j, hj⟩ := List.getElem?_of_mem hx
  have jl := lt_of_at hj
  rw [h.l] at jl
  have : (ds.zip L)[j]? = some (ds[j], x) := List.getElem?_zip_eq_some.mpr ⟨List.getElem?_eq_getElem jl, hj⟩
  exact h.g.nn _ (List.mem_of_getElem? this)
theorem GoI.next (h : GoI n ds B C E row F L) (hD : Doors n ds) (hn : n ≤ 10) (hd1 : ds.length ≤ 100) (hB : B.length = n) {d : Nat} {w : Int} (g : NxG ⟨n, ds, F, L⟩ d w) : GoI n ds B C E (row ++ [((d : Int), w)]) (stepTo ds F ((d : Int), w)) (decP L d w) := by
  have hd : d < ds.length := g.hd
  have hs : 0 < share L d w := g.s
  have dl : d < L.length := by rw [h.l]; exact hd
  have lF := h.lF hB
  have eg := eg_of h.l hd g.hw hs
  have hg := g.g
  unfold Well at hg
  obtain ⟨g1, g2⟩ := hg
  dsimp only at g1 g2
  rw [Int.toNat_natCast] at g2
  have hat := h.g.at eg
  have ho : 1 ≤ F.getD (outOf ds ((d : Int), w)) 0 := by
    have := h.g.n0 _ hat.1
    omega
  have hop := (well_iff hD hn hd1 lF h.l h.nn h.g.n0 hd g.hw hs ho).mp g2
  have gs := h.g.step eg ho hop
  have sf := step_fun (F := F) (w := w) hD lF hd
  refine ⟨h.r.snoc ⟨by show (0 : Int) ≤ (d : Int); omega, by show (d : Int) < ds.length; omega, ?_, ?_, by rw [← h.f]; exact ho⟩, by rw [fN_snoc, ← h.f], by rw [sf]; exact gs, by unfold decP; rw [List.length_set]; exact h.l, fun j => ?_, fun r hr => ?_⟩
  · show 0 ≤ w
    rcases g.hw with e | e <;> rw [e] <;> decide
  · show w ≤ 1
    rcases g.hw with e | e <;> rw [e] <;> decide
  · have hc := h.c j
    rw [fM_snoc, less_dec dl]
    unfold addM lessC
    rw [Int.toNat_natCast, getD_set2 (by rw [fM_len]; exact hd), getD_set2 (by rw [sumL_len]; exact dl)]
    by_cases c : j = d
    · subst c
      rw [if_pos rfl, if_pos rfl]; omega
    · rw [if_neg c, if_neg c]; exact hc
  · have he := h.e r hr
    have e1 := congrFun sf r
    rw [e1]
    have e2 := eg.nt r
    unfold stN
    dsimp only
    have s1 : (if r = intoOf ds ((d : Int), w) then (1 : Int) else 0) = if intoOf ds ((d : Int), w) = r then 1 else 0 := by
      by_cases c : r = intoOf ds ((d : Int), w)
      · rw [if_pos c, if_pos c.symm]
      · rw [if_neg c, if_neg (fun e => c e.symm)]
    have s2 : (if r = outOf ds ((d : Int), w) then (1 : Int) else 0) = if outOf ds ((d : Int), w) = r then 1 else 0 := by
      by_cases c : r = outOf ds ((d : Int), w)
      · rw [if_pos c, if_pos c.symm]
      · rw [if_neg c, if_neg (fun e => c e.symm)]
    rw [s1, s2]
    omega
theorem GoI.sums (h : GoI n ds B C E row F L) (hC : C.length = ds.length) : C.sum = row.length + (sumL L).sum ∧ ∀ x ∈ sumL L, 0 ≤ x := by
  have h1 := (fM_sum rfl h.r).1
  have e1 := lsum_full C
  have e2 := lsum_full (fM ds row)
  have e3 := lsum_full (sumL L)
  unfold lsum at e1 e2 e3
  rw [hC] at e1
  rw [fM_len] at e2
  rw [sumL_len, h.l] at e3
  have e4 := ssum_add ds.length (fun j => (fM ds row).getD j 0) (fun j => (sumL L).getD j 0) (2 ^ ds.length - 1)
  have e5 : ssum ds.length (fun j => (fM ds row).getD j 0 + (sumL L).getD j 0) (2 ^ ds.length - 1) = ssum ds.length (fun j => C.getD j 0) (2 ^ ds.length - 1) := ssum_congr fun j _ => h.c j
  refine ⟨by omega, fun x hx => ?_⟩
  unfold sumL at hx
  obtain ⟨p, hp, rfl⟩ := List.mem_map.mp hx
  have := h.nn p hp
  omega
theorem GoI.ex (h : GoI n ds B C E row F L) (hD : Doors n ds) (hn : n ≤ 10) (hd1 : ds.length ≤ 100) (hB : B.length = n) (hC : C.length = ds.length) (hlt : (row.length : Int) < C.sum) : ∃ d w, NxG ⟨n, ds, F, L⟩ d w := by
  obtain ⟨s1, s2⟩ := h.sums hC
  have lF := h.lF hB
  have hex : ∃ o i z', Eg (ds.zip L) o i z' := by
    have : 0 < ((sumL L).map id).sum := by rw [List.map_id]; omega
    obtain ⟨x, hx, h0⟩ := sum_pos_ex this
    unfold sumL at hx
    obtain ⟨p, hp, rfl⟩ := List.mem_map.mp hx
    obtain ⟨j, hj⟩ := List.getElem?_of_mem hp
    have jl := lt_of_at hj
    have jd : j < ds.length := by rw [← h.l]; exact jl
    have gp : L.getD j (0, 0) = p := by rw [List.getD_eq_getElem?_getD, hj]; rfl
    have h0 : 0 < p.1 + p.2 := h0
    by_cases c : 0 < p.1
    · exact ⟨_, _, _, eg_of (w := 0) h.l jd (.inl rfl) (by unfold share; rw [if_pos rfl, gp]; exact c)⟩
    · exact ⟨_, _, _, eg_of (w := 1) h.l jd (.inr rfl) (by unfold share; rw [if_neg (by decide), gp]; omega)⟩
  obtain ⟨o, i, z', eg, h1, hop⟩ := h.g.some_ hex
  obtain ⟨d, w, hd, dl, hw, hs, rfl, rfl, rfl⟩ := of_eg eg
  refine ⟨d, w, hd, hw, hs, ?_⟩
  unfold Well
  dsimp only
  rw [Int.toNat_natCast]
  exact ⟨by omega, (well_iff hD hn hd1 lF h.l h.nn h.g.n0 hd hw hs h1).mpr hop⟩
theorem GoI.done (h : GoI n ds B C E row F L) (hB : B.length = n) (hE : E.length = n) (hC : C.length = ds.length) (heq : (row.length : Int) = C.sum) : fN ds B row = E ∧ fM ds row = C := by
  obtain ⟨s1, s2⟩ := h.sums hC
  have z : ∀ j, j < ds.length → (sumL L).getD j 0 = 0 := fun j hj => by
    have e3 := lsum_full (sumL L)
    unfold lsum at e3
    rw [sumL_len, h.l] at e3
    have g := ssum_ge (n := ds.length) (x := fun j => (sumL L).getD j 0) (k := 2 ^ ds.length - 1) (r := j) (fun i hi => s2 _ (getD_mem (by rw [sumL_len, h.l]; exact hi))) hj (full_bit hj)
    have := s2 _ (getD_mem (B := sumL L) (r := j) (by rw [sumL_len, h.l]; exact hj))
    omega
  have zz : ∀ x ∈ L, x.1 = 0 ∧ x.2 = 0 := fun x hx => by
    obtain ⟨j, hj⟩ := List.getElem?_of_mem hx
    have jl := lt_of_at hj
    have g1 := z j (by rw [← h.l]; exact jl)
    rw [sumL_at jl] at g1
    have gp : L.getD j (0, 0) = x := by rw [List.getD_eq_getElem?_getD, hj]; rfl
    rw [gp] at g1
    have := h.nn x hx
    omega
  have nt : ∀ r, ntr (ds.zip L) r = 0 := fun r => by
    have gen : ∀ z : List Dw2, (∀ x ∈ z, x.2.1 = 0 ∧ x.2.2 = 0) → ntr z r = 0 := by
      intro z
      induction z with
      | nil => intro _; rfl
      | cons x z ih =>
        intro hx
        rw [ntr_cons, ih fun y hy => hx y (List.mem_cons_of_mem _ hy)]
        obtain ⟨q1, q2⟩ := hx x List.mem_cons_self
        unfold nt1
        rw [q1, q2]
        split <;> split <;> rfl
    exact gen _ fun x hx => zz _ (List.of_mem_zip (a := x.1) (b := x.2) hx).2
  refine ⟨ext_getD (by rw [fN_len, hB, hE]) fun r hr => ?_, ext_getD (by rw [fM_len, hC]) fun j hj => ?_⟩
  · rw [fN_len, hB] at hr
    have := h.e r hr
    rw [nt] at this
    rw [← h.f]
    omega
  · rw [fM_len] at hj
    have := h.c j
    rw [z j hj] at this
    omega
theorem GoI.start {i : He1} (R : Rt21 ⟨i.t, i.B⟩) (EC : EndC i.t i.B i.E) {L : List (Int × Int)} (h : SplitOk i L) : GoI i.t.rooms i.t.ds i.B i.t.C i.E [] i.B L := by
  have hB : i.B.length = i.t.rooms := R.ok.b
  have zin : ∀ x ∈ i.t.ds.zip L, x.1 ∈ i.t.ds ∧ x.2 ∈ L := fun x hx => List.of_mem_zip (a := x.1) (b := x.2) hx
  refine ⟨Rn.nil _ _, rfl, ⟨fun x hx => R.ok.t.doors _ (zin x hx).1, fun x hx => h.nn _ (zin x hx).2, fun r hr => R.b _ (getD_mem (by rw [hB]; exact hr)), fun r hr => ?_, ?_⟩, h.l, fun j => ?_, h.e⟩
  · rw [h.e r hr]
    exact EC.n r hr
  · have e1 : toC (i.t.ds.zip L) = i.t.z := by
      rw [toC_zip]
      unfold sumL
      rw [h.s]; rfl
    rw [e1]
    have := (empty_iff R.ok.t R.c hB R.b).mp EC.e
    intro k hk hc j hj hkj hm
    have q := this k hk hc j hj hkj hm
    unfold lsum at q
    rwa [hB] at q
  · have e1 : sumL L = i.t.C := h.s
    rw [e1]
    have e0 : (fM i.t.ds []).getD j 0 = 0 := by
      show (List.replicate _ (0 : Int)).getD j 0 = 0
      rw [List.getD_eq_getElem?_getD, List.getElem?_replicate]
      split <;> rfl
    rw [e0]
    omega
end
end Bd
set_option maxHeartbeats 4000000
namespace Bd
open PySem PySem.Spec PyProof.Rows L2 HT
local macro_rules | `(tactic| walk_at "de1") => `(tactic| (with_reducible first
  | refine dI_var rfl ?_ | refine dI_c ?_ | refine dI_op0 ?_ | refine dI_op ?_ | refine dI_un ?_ | refine dI_ixO rfl ?_ | refine dI_ixT ?_ | refine dI_ixL ?_ | refine dI_if ?_ | refine dI_lenO rfl ?_ | refine dI_lenL ?_ | refine dI_abs ?_ | refine dI_two ?_ | refine dI_intB ?_
  | refine dB_var rfl ?_ | refine dB_c ?_ | refine dB_op0 ?_ | refine dB_eqI ?_ | refine dB_neI ?_ | refine dB_inI ?_ | refine dB_not ?_ | refine dB_and ?_ | refine dB_or ?_ | refine dB_chain ?_ | refine dB_eqD ?_ | refine dB_neD ?_ | refine dB_isi ?_
  | refine dL_var rfl ?_ | refine dL_ixO rfl ?_ | refine dL_ixT ?_ | refine dL_ixL ?_ | refine dL_o ?_
  | refine dT_var rfl ?_ | refine dT_ixL ?_ | refine dT_ixT ?_ | refine dT_tup ?_ | refine dT_slT ?_ | refine dT_catT ?_
  | refine de_var rfl ?_ | refine dX_ixO rfl ?_ | refine dX_ixT ?_ | refine dX_ixL ?_ | refine de_tup ?_ | refine de_c rfl ?_ | refine de_if ?_ | refine Do.de (do_lst ?_) | refine de_catTT ?_ | refine de_slTT ?_
  | refine dI_e (dI_op0 ?_) | refine dI_e (dI_op ?_) | refine dI_e (dI_un ?_) | refine dI_e (dI_lenO rfl ?_) | refine dI_e (dI_lenL ?_) | refine dI_e (dI_abs ?_) | refine dI_e (dI_two ?_) | refine dI_e (dI_intB ?_)
  | refine dB_e (dB_op0 ?_) | refine dB_e (dB_eqI ?_) | refine dB_e (dB_neI ?_) | refine dB_e (dB_inI ?_) | refine dB_e (dB_not ?_) | refine dB_e (dB_and ?_) | refine dB_e (dB_or ?_) | refine dB_e (dB_chain ?_) | refine dB_e (dB_eqD ?_) | refine dB_e (dB_neD ?_)
  | refine dt_tB ?_ | refine dt_tTest ?_ | refine dt_not ?_ | refine dt_and ?_ | refine dt_or ?_ | refine dt_yes ?_
  | refine da_nil ?_ | refine da_cons ?_ | refine dp_no ?_ | refine dp_partI ?_
  | refine di_rngI ?_ | refine di_listL ?_ | refine di_zipL ?_ | refine di_enumL ?_
  | refine do_lck rfl ?_ | refine do_lst ?_ | refine do_catL ?_ | refine do_slLL ?_ | refine do_revL ?_
  | refine dg_nm rfl ?_ | refine dg_name rfl (by simp) ?_ | refine dg_tup rfl ?_ | refine dgs_cons ?_ | refine dgs_nil ?_))
local macro_rules | `(tactic| walk_at "de") => `(tactic| (repeat (first | walk_at "de1" | (refine ⟨_, rfl, ?_⟩))))
local macro_rules | `(tactic| walk_at "nrm") => `(tactic| (try dsimp only [List.set, toD, wipeR, List.map, pairD, beadD, lookD]))

local macro_rules | `(tactic| walk_at "dg") => `(tactic| ((repeat (with_reducible first | refine dg_tup rfl ?_ | refine dg_unl rfl ?_ | refine dgs_cons ?_ | refine dgs_nil ?_ | refine dg_name rfl (by simp) ?_)); walk_at "nrm"))
abbrev sGoings : Stmt := topS 18
theorem scGoings : FnScope ["house", "begin", "counts", "end", "left", "numbers", "row", "_", "door", "way"] ["house", "begin", "counts", "end"] (defScope sGoings) := ⟨rfl, rfl, rfl, by decide +kernel, rfl, by decide +kernel, by decide +kernel⟩
/-! the row of goings -/
structure GoOk1 (i : He1) : Prop where
  r : Rt21 ⟨i.t, i.B⟩
  e : EndC i.t i.B i.E
  l : i.E.length = i.t.rooms
  s : i.t.C.sum ≤ 100000
def spGoings (K : PySem.W.Frag) : Sp := spD (ι := He1) K Wn [] He1.arg (fun i _ => GoOk1 i) (fun i _ _ s => ∃ a row, s = .own a (row.map ggD) ∧ Rn i.t.ds i.B row ∧ fN i.t.ds i.B row = i.E ∧ fM i.t.ds row = i.t.C)
section
variable {K : PySem.W.Frag} {S : List Addr} {B : Hp} {ρ : List Sl} {σ : L2.St} {H : Hp} {ν : Nat}
/-- things that were made meanwhile are hidden, and stand from now on -/
theorem Sta.adopt (st : Sta K Wn S B ρ σ H ν) {H' : Hp} {T : List Addr} (k : Same H H') (n : ∀ a ∈ T, H a = none) (al : ∀ a ∈ T, ∃ o, H' a = some o) : Sta K Wn (T ++ S) (fun b => if b ∈ T then H' b else B b) ρ σ H' ν := by
  have vis : ∀ {b o}, H b = some o → b ∉ T := fun {b o} e z => by rw [n b z] at e; cases e
  have own : ∀ {b}, b ∈ ownA ρ → ∃ o, H b = some o := fun {b} hb => st.alive b (List.mem_append_right _ hb)
  have sm : Same (hid (S ++ ownA ρ) H) (hid ((T ++ S) ++ ownA ρ) H') := fun b u e => by
    obtain ⟨e1, e2⟩ := of_hid e
    refine hid_of (k b u e1) fun z => ?_
    rcases List.mem_append.mp z with z | z
    · rcases List.mem_append.mp z with z | z
      · exact vis e1 z
      · exact e2 (List.mem_append_left _ z)
    · exact e2 (List.mem_append_right _ z)
  refine ⟨st.len, fun i s e => ?_, st.nd, fun b hb z => ?_, fun b hb => (nomatch hb), fun b u e => ?_, trivial, fun b hb => ?_, fun b u e => (nomatch e)⟩
  · obtain ⟨u, eu, h⟩ := st.sl i s e
    refine ⟨u, eu, ?_⟩
    cases s with
    | un => trivial
    | d x => obtain ⟨v, e1, d⟩ := h; exact ⟨v, e1, d.same sm⟩
    | own b xs =>
      obtain ⟨e1, vs, e2, d⟩ := h
      exact ⟨e1, vs, k _ _ e2, d.same sm⟩
    | «at» v => exact h
  · rcases List.mem_append.mp z with z | z
    · obtain ⟨o, e⟩ := own hb
      exact vis e z
    · exact st.out b hb z
  · by_cases c : b ∈ T
    · have e : H' b = some u := by rw [← e]; exact (if_pos c).symm
      refine hid_of e fun z => ?_
      rcases List.mem_append.mp z with z | z
      · exact (nomatch z)
      · obtain ⟨o, e'⟩ := own z
        exact vis e' c
    · have e : B b = some u := by rw [← e]; exact (if_neg c).symm
      obtain ⟨e1, e2⟩ := of_hid (st.fr b u e)
      exact hid_of (k b u e1) e2
  · right
    by_cases c : b ∈ T
    · obtain ⟨o, e⟩ := al b c
      exact ⟨o, (if_pos c).trans e⟩
    · rcases List.mem_append.mp hb with z | z
      · exact absurd z c
      · rcases st.al b z with q | ⟨o, q⟩
        · exact (nomatch q)
        · exact ⟨o, (if_neg c).trans q⟩
theorem asg_call {sp : Sp} {dvs : List V} {E : XK} {t : TA} {g : TG} {u : TS} {D : Ends} (h : t σ H fun vs H1 => sp (vs ++ dvs) H1 (fun x H2 => g x σ H2 fun σ' H' => u D σ' H') E) : tSeq (tAsg (tCall sp dvs E t) g) u D σ H := h
theorem sum_nn0 : ∀ {l : List Int}, (∀ x ∈ l, 0 ≤ x) → 0 ≤ l.sum
  | [], _ => Int.le_refl 0
  | x :: l, h => by
    have ih := sum_nn0 (l := l) fun y hy => h y (List.mem_cons_of_mem _ hy)
    have := h x List.mem_cons_self
    rw [List.sum_cons]; omega
theorem Mt.hold {p : Addr} {as : List Addr} {L : List (Int × Int)} {H' : Hp} (h : Mt H p as L) (k : ∀ b, (b = p ∨ b ∈ as) → ∀ o, H b = some o → H' b = some o) : Mt H' p as L :=
  ⟨k p (.inl rfl) _ h.hp, h.ln, fun i a x h1 h2 => k a (.inr (List.mem_of_getElem? h1)) _ (h.at_ i a x h1 h2), h.nd, h.np⟩
theorem Mt.alive {p : Addr} {as : List Addr} {L : List (Int × Int)} (h : Mt H p as L) : ∀ a ∈ p :: as, ∃ o, H a = some o := fun a ha => by
  rcases List.mem_cons.mp ha with rfl | ha
  · exact ⟨_, h.hp⟩
  · obtain ⟨i, hi⟩ := List.getElem?_of_mem ha
    have := lt_of_at hi
    exact ⟨_, h.at_ i a _ hi (List.getElem?_eq_getElem (by rw [← h.ln]; exact this))⟩
theorem Mt.set {p a : Addr} {as : List Addr} {L : List (Int × Int)} {d : Nat} {x : Int × Int} (h : Mt H p as L) (ha : as[d]? = some a) : Mt (upd H a (.lst [V.int x.1, V.int x.2])) p as (L.set d x) := by
  have hm := List.mem_of_getElem? ha
  refine ⟨by rw [upd_ne' (fun z : p = a => h.np (by rw [z]; exact hm))]; exact h.hp, by rw [List.length_set]; exact h.ln, fun i b y h1 h2 => ?_, h.nd, h.np⟩
  by_cases c : i = d
  · subst c
    rw [ha] at h1
    cases h1
    have il := lt_of_at h2
    rw [List.length_set] at il
    rw [List.getElem?_set_self il] at h2
    cases h2
    exact upd_same
  · rw [List.getElem?_set_ne (fun e => c e.symm)] at h2
    have : b ≠ a := fun e => by
      rw [e, ← ha] at h1
      exact c ((List.getElem?_inj (lt_of_at (h1.trans ha)) h.nd).mp h1)
    rw [upd_ne' this]
    exact h.at_ i b y h1 h2
theorem Mt.dd {p : Addr} {as : List Addr} {L : List (Int × Int)} (h : Mt H p as L) : Dd K H (.ref p) (matD L) := by
  refine .lst h.hp ?_
  have gen : ∀ (as : List Addr) (L : List (Int × Int)), as.length = L.length → (∀ (i : Nat) (a : Addr) (x : Int × Int), as[i]? = some a → L[i]? = some x → H a = some (.lst [V.int x.1, V.int x.2])) → Dds K H (as.map V.ref) (L.map prD) := by
    intro as
    induction as with
    | nil =>
      intro L hl _
      have : L = [] := List.length_eq_zero_iff.mp hl.symm
      subst this
      exact .nil
    | cons a as ih =>
      intro L hl hat
      cases L with
      | nil => cases hl
      | cons x L => exact .cons (.lst (hat 0 a x rfl rfl) (.cons (.int _) (.cons (.int _) .nil))) (ih L (by simpa using hl) fun i b y h1 h2 => hat (i + 1) b y (by simpa using h1) (by simpa using h2))
  exact gen as L h.ln h.at_
end
section
variable {P : Program} {w : World} {K : PySem.W.Frag} {mg : Str → Option Value} {base : Heap}
theorem ok_goings {f : Addr} {fd : FuncData} (F : Fun K "goings" "goings" sGoings f fd) (cal_paper_of : Cg P w K mg base 4 "paper_of" (spPaper K)) (cal_split : Cg P w K mg base 3 "_split" (spSplit K)) (cal_next_going : Cg P w K mg base 4 "_next_going" (spNext K)) (cal_go : Cg P w K mg base 2 "go" (spGo K)) (m_list : mg "list" = none) (m_range : mg "range" = none) (m_sum : mg "sum" = none) : FnG P w K mg base 5 f fd ["house", "begin", "counts", "end"] (spGoings K) := by
  have sc := scGoings
  refine fnG_of F scGoings (fun vs H Q E h => spD_len h fun i => rfl) (fun cdv A outer s H vs Q E hr hg h => ?_)
  refine ⟨_, (pss_cons (ps_if (pt_cmpR op_notN (pe_g cal_paper_of hg hr (by first | decide | exact Nat.le_refl _ | omega) (by rfl) (pa_cons (pv 0) (pa_cons (pv 1) (pa_cons (pv 2) (pa_cons (pv 3) pa_nil))))) pe_non (nomark _))
    (pss_one ps_never)
    pss_nil)
  (pss_cons (ps_set (i := 4) sc.nd rfl (.inl rfl) (pe_g cal_split hg hr (by first | decide | exact Nat.le_refl _ | omega) (by rfl) (pa_cons (pv 0) (pa_cons (pv 1) (pa_cons (pv 2) (pa_cons (pv 3) pa_nil))))))
  (pss_cons (ps_set (i := 5) sc.nd rfl (.inl rfl) (pe_callTy call_list_of (by rfl) m_list (by decide +kernel) (pa_cons (pv 1) pa_nil)))
  (pss_cons (ps_set (i := 6) sc.nd rfl (.inl rfl) (pe_lst pa_nil))
  (pss_cons (ps_for PassesOwn.never rfl (pi_range1 (by rfl) m_range (pa_cons (pe_callB (cr_sum rfl) (by rfl) m_sum (by decide +kernel) (pa_cons (pv 2) pa_nil)) pa_nil)) (pg_name (i := 7) sc.nd rfl (.inl rfl))
    (pss_cons (ps_asg (pe_g cal_next_going hg hr (by first | decide | exact Nat.le_refl _ | omega) (by rfl) (pa_cons (pv 0) (pa_cons (pv 5) (pa_cons (pv 4) pa_nil)))) (pg_tup (by rfl) (pgs_cons (pg_name (i := 8) sc.nd rfl (.inl rfl)) (pgs_cons (pg_name (i := 9) sc.nd rfl (.inl rfl)) pgs_nil))))
  (pss_cons (ps_augS (pe_ix ix_list (pv 4) (pv 8) (fun _ _ => rfl)) (pv 9) get_list pe_int ip_sub set_list)
  (pss_cons (ps_expr (pe_g cal_go hg hr (by first | decide | exact Nat.le_refl _ | omega) (by rfl) (pa_cons (pv 0) (pa_cons (pv 5) (pa_cons (pv 8) (pa_cons (pv 9) pa_nil))))))
  (pss_one (ps_expr (pe_bm PySem.F.plainAttrs_list PySem.F.slot_list_append PySem.F.type_list_append mt_append (pv 6) (pa_cons (pe_tup (pa_cons (pv 8) (pa_cons (pv 9) pa_nil))) pa_nil))))))))
  (pss_one (ps_ret (pv 6)))))))), ?_⟩
  try dsimp only [cxOf, L2.Cx.nox]
  obtain ⟨⟨⟨n, ds, C⟩, B, E⟩, ν, S, vs, rfl, hJS, hal, hI, hG, dd, ⟨R, EC, hE, hCs⟩, q⟩ := h
  have ht := R.ok.t
  have hB := R.ok.b
  have gst := fun {L} h => GoI.start (i := ⟨⟨n, ds, C⟩, B, E⟩) (L := L) R EC h
  dsimp only at ht hB hE hCs gst q
  have hr1 := ht.r1
  have hdl := ht.d1
  have hcl := ht.cl
  have hDo := ht.doors
  have hC0 : 0 ≤ C.sum := sum_nn0 R.c
  dsimp only at hr1 hdl hcl hDo
  have hall : AllSl K (hid S H) H ([houseD n ds, intsD B, intsD C, intsD E].map .d ++ List.replicate 6 .un) (vs.map some ++ List.replicate 6 none) := (AllSl.ds (H := H) dd).app (AllSl.un 6)
  have st := Sta.init (W := Wn) (ν := 0) (ownA_start [] [houseD n ds, intsD B, intsD C, intsD E] 6) hall (fun c hc => nomatch hc) hal trivial (fun _ _ h => (nomatch h))
  have est : L2.start ["house", "begin", "counts", "end", "left", "numbers", "row", "_", "door", "way"] vs = vs.map some ++ List.replicate 6 none := by
    unfold L2.start
    rw [dd.len]
    rfl
  rw [est]
  have alB : ∀ a ∈ S, ∃ o, hid Wn.J H a = some o := fun a ha => by
    obtain ⟨o, e⟩ := hal a ha
    exact ⟨o, hid_of e (fun z => nomatch z)⟩
  generalize hid Wn.J H = B0 at st q alB
  change Sta K Wn S B0 [.d (houseD n ds), .d (intsD B), .d (intsD C), .d (intsD E), .un, .un, .un, .un, .un, .un] _ H 0 at st
  -- no paper
  refine Ds.runS (M := fun _ r => r = [.d (houseD n ds), .d (intsD B), .d (intsD C), .d (intsD E), .un, .un, .un, .un, .un, .un]) (ds_if <| dt_tTest <| dB_notN <| de_call0 <| da_cons <| de_var rfl <| da_cons <| de_var rfl <| da_cons <| de_var rfl <| da_cons <| de_var rfl <| da_nil ⟨⟨⟨n, ds, C⟩, B, E⟩, rfl, ⟨R, hE⟩, fun nn s hs => ?_⟩) st fun ν1 ρ1 σ1 H1 st1 hM => ?_
  · obtain ⟨pd, rfl, hpd⟩ := hs
    refine ⟨pd, rfl, ?_⟩
    rw [hpd.mpr EC]
    exact ⟨(fun z => nomatch z), fun _ => ds_next rfl⟩
  subst hM
  -- the shares
  have hDa : Da K Wn [.d (houseD n ds), .d (intsD B), .d (intsD C), .d (intsD E), .un, .un, .un, .un, .un, .un] ν1 (tCons (tVar 0) (tCons (tVar 1) (tCons (tVar 2) (tCons (tVar 3) tNil)))) (fun _ xs => xs = He1.arg ⟨⟨n, ds, C⟩, B, E⟩) := da_cons <| de_var rfl <| da_cons <| de_var rfl <| da_cons <| de_var rfl <| da_cons <| de_var rfl <| da_nil rfl
  refine asg_call (hDa S B0 σ1 H1 _ st1 fun νa vs2 Ha xs2 ka ia da hx2 => ?_)
  subst hx2
  have sta := st1.keep ka ia
  rw [List.append_nil]
  refine ⟨⟨⟨n, ds, C⟩, B, E⟩, _, sta.alive, da, ⟨R, EC, hE⟩, fun Hb p as L0 kb np nas hMt hSp => ?_⟩
  have stb := (sta.adopt (T := p :: as) kb (fun a ha => by
    rcases List.mem_cons.mp ha with rfl | ha
    · exact np
    · exact nas a ha) hMt.alive).setS (i := 4) (s := .at (.ref p)) (u := some (.ref p)) rfl rfl rfl
  have hMt0 : Mt (fun b => if b ∈ p :: as then Hb b else B0 b) p as L0 := hMt.hold fun b hb o e => by
    have : b ∈ p :: as := by
      rcases hb with rfl | hb
      · exact List.mem_cons_self
      · exact List.mem_cons_of_mem _ hb
    exact (if_pos this).trans e
  have hB0 : ∀ b o, B0 b = some o → (fun b => if b ∈ p :: as then Hb b else B0 b) b = some o := fun b o e => by
    have h1 := sta.here e
    have : b ∉ p :: as := fun z => by
      rcases List.mem_cons.mp z with rfl | z
      · rw [np] at h1; cases h1
      · rw [nas b z] at h1; cases h1
    exact (if_neg this).trans e
  have nB0 : ∀ a, a ∈ p :: as → B0 a = none := fun a ha => by
    cases z : B0 a with
    | none => rfl
    | some o =>
      have h1 := sta.here z
      rcases List.mem_cons.mp ha with rfl | ha
      · rw [np] at h1; cases h1
      · rw [nas a ha] at h1; cases h1
  generalize (fun b => if b ∈ p :: as then Hb b else B0 b) = B1 at stb hMt0 hB0
  change Sta K Wn (p :: as ++ S) B1 [.d (houseD n ds), .d (intsD B), .d (intsD C), .d (intsD E), .at (.ref p), .un, .un, .un, .un, .un] _ _ _ at stb
  -- numbers, row
  refine Ds.runS (M := fun _ r => ∃ a1, r = [.d (houseD n ds), .d (intsD B), .d (intsD C), .d (intsD E), .at (.ref p), .own a1 (B.map .int), .un, .un, .un, .un]) (ds_setO rfl (by simp) (do_listL (dL_var rfl fun a1 => ⟨a1, rfl⟩))) stb fun ν2 ρ2 σ2 H2 st2 hM => ?_
  obtain ⟨a1, rfl⟩ := hM
  refine Ds.runS (M := fun _ r => ∃ a2, r = [.d (houseD n ds), .d (intsD B), .d (intsD C), .d (intsD E), .at (.ref p), .own a1 (B.map .int), .own a2 (([] : List Gg).map ggD), .un, .un, .un]) (ds_setO rfl (by simp) (do_lst (da_nil ⟨szd rfl, fun a2 => ⟨a2, rfl⟩⟩))) st2 fun ν3 ρ3 σ3 H3 st3 hM => ?_
  obtain ⟨a2, rfl⟩ := hM
  have g0 := gst hSp
  refine seq_of (for_raw (xs := (List.range C.sum.toNat).map fun (i : Nat) => PyData.int (i : Int)) st3 (di_rngI (dI_sumL (dL_var rfl ⟨C, rfl, by omega, by omega, ?_⟩))) (fun k S2 B2 r => ∃ row F L, r = [.d (houseD n ds), .d (intsD B), .d (intsD C), .d (intsD E), .at (.ref p), .own a1 (F.map .int), .own a2 (row.map ggD), .un, .un, .un] ∧ S2 = p :: as ++ S ∧ (∀ b o, B0 b = some o → B2 b = some o) ∧ Mt B2 p as L ∧ row.length = k ∧ GoI n ds B C E row F L) (fun Bx hBx => ?_) (fun k x S2 B2 ρ4 σ4 H4 ν4 hx hI2 hS2 st4 v dv N hN => ?_) (fun S2 B2 ρ4 σ4 H4 ν4 hI2 hS2 hB2 st4 => ?_))
  · rw [rngD_map]
  · exact ⟨[], B, L0, rfl, rfl, fun b o e => hBx b o (hB0 b o e), hMt0.hold fun b _ o e => hBx b o e, rfl, g0⟩
  · obtain ⟨row, F, L, rfl, rfl, hB3, hM3, hrow, hgo⟩ := hI2
    have hkm : k < C.sum.toNat := by have := lt_of_at hx; rwa [List.length_map, List.length_range] at this
    have hxk : x = .int (k : Int) := by
      rw [List.getElem?_map, List.getElem?_range hkm] at hx
      exact (Option.some.inj hx).symm
    subst hxk
    have lF := hgo.lF hB
    refine Dg.runK (Θ := fun r => r = [.d (houseD n ds), .d (intsD B), .d (intsD C), .d (intsD E), .at (.ref p), .own a1 (F.map .int), .own a2 (row.map ggD), .d (.int (k : Int)), .un, .un]) (dg_nm rfl rfl) st4 dv fun ρ5 σ5 st5 hr => ?_
    subst hr
    obtain ⟨v0, ev0, d0⟩ := st5.slot (i := 0) rfl
    obtain ⟨u5, eu5, e5, vsF, eF, dF⟩ := st5.sl 5 _ rfl
    subst e5
    cases dF.ints_eq
    obtain ⟨u4, eu4, e4⟩ := st5.sl 4 _ rfl
    subst e4
    have hM4 : Mt H4 p as L := hM3.hold fun b _ o e => st5.here e
    have hM4' : Mt (hid [] H4) p as L := hM4.hold fun b _ o e => hid_of e (fun z => nomatch z)
    refine asg_call ⟨v0, ev0, _, eu5, _, eu4, ?_⟩
    show spNext K [v0, .ref a1, .ref p] H4 _ _
    refine ⟨⟨n, ds, F, L⟩, 0, [], [v0, .ref a1, .ref p], rfl, (fun a ha => nomatch ha), (fun a ha => nomatch ha), trivial, (fun _ _ h => (nomatch h)), .cons (d0.same (hid_sub (S' := []) fun b hb => (nomatch hb))) (.cons (.lst (hid_of eF (fun z => nomatch z)) (Dds.ints F)) (.cons hM4'.dd .nil)), ⟨hDo, hr1, hdl, lF, hgo.l, hgo.ex hDo hr1 hdl hB hcl (by omega)⟩, fun νb s v H5 hs r => ?_⟩
    obtain ⟨d, w, rfl, hG⟩ := hs
    have sm : Same H4 H5 := fun b o e => (of_hid (r.1 b o (hid_of e (fun z => nomatch z)))).1
    have dt : Dd K (hid [] H5) v (.tuple [.int (d : Int), .int w]) := r.2.2
    cases dt with
    | @tup qt tvs _ et dts =>
    have etv : tvs = [V.int (d : Int), V.int w] := dts.ints_eq (ns := [(d : Int), w])
    subst etv
    refine ⟨qt, _, rfl, same_tup hid_same et, rfl, _, _, rfl, _, _, rfl, rfl, ?_⟩
    have st6 := ((st5.keep (ν' := ν4) (Kp.same sm) trivial).setD (i := 8) (x := .int (d : Int)) (v := .int (d : Int)) rfl (.int _)).setD (i := 9) (x := .int w) (v := .int w) rfl (.int _)
    change Sta K Wn (p :: as ++ S) B2 [.d (houseD n ds), .d (intsD B), .d (intsD C), .d (intsD E), .at (.ref p), .own a1 (F.map .int), .own a2 (row.map ggD), .d (.int (k : Int)), .d (.int (d : Int)), .d (.int w)] _ _ _ at st6
    have hMa : Mt H5 p as L := hM3.hold fun b _ o e => st6.here e
    have hd : d < ds.length := hG.hd
    have dL : d < L.length := by rw [hgo.l]; exact hd
    obtain ⟨ad, had⟩ : ∃ ad, as[d]? = some ad := ⟨_, List.getElem?_eq_getElem (by rw [hM3.ln]; exact dL)⟩
    have had2 := List.mem_of_getElem? had
    have hH5 := hMa.at_ d ad _ had (pair_at dL)
    obtain ⟨u8, eu8, v8, e8, d8⟩ := st6.sl 8 _ rfl
    subst e8
    cases d8
    obtain ⟨u9, eu9, v9, e9, d9⟩ := st6.sl 9 _ rfl
    subst e9
    cases d9
    obtain ⟨u4, eu4', e4'⟩ := st6.sl 4 _ rfl
    subst e4'
    -- one less on this door, this way
    have fin : ∀ o : HO, o = .lst [V.int (decP L d w |>.getD d (0, 0)).1, V.int (decP L d w |>.getD d (0, 0)).2] → Sta K Wn (p :: as ++ S) (upd B2 ad o) [.d (houseD n ds), .d (intsD B), .d (intsD C), .d (intsD E), .at (.ref p), .own a1 (F.map .int), .own a2 (row.map ggD), .d (.int (k : Int)), .d (.int (d : Int)), .d (.int w)] _ (upd H5 ad o) ν4 ∧ Mt (upd B2 ad o) p as (decP L d w) := fun o ho => by
      refine ⟨st6.poke o (List.mem_append_left _ (List.mem_cons_of_mem _ had2)), ?_⟩
      rw [ho]
      have h1 := hM3.set (x := (decP L d w).getD d (0, 0)) had
      have h2 : L.set d ((decP L d w).getD d (0, 0)) = decP L d w := by
        unfold decP
        rw [List.getD_eq_getElem?_getD, List.getElem?_set_self dL]; rfl
      rwa [h2] at h1
    have lSt : (stepTo ds F ((d : Int), w)).length = n := by rw [step_len, lF]
    have rest : ∀ o : HO, o = .lst [V.int (decP L d w |>.getD d (0, 0)).1, V.int (decP L d w |>.getD d (0, 0)).2] → tSeq (tDrop (tCall (spGo K) [] E0 (tCons (tVar 0) (tCons (tVar 5) (tCons (tVar 8) (tCons (tVar 9) tNil)))))) (tDrop (tBM K "list" rAppend (tVar 6) (tCons (tTup (tCons (tVar 8) (tCons (tVar 9) tNil))) tNil))) { nx := N, rt := Q, bk := tRet (tVar 6) { nx := fun _ H' => Q .non H', rt := Q }, ct := N } ((σ5.set 8 (some (V.int (d : Int)))).set 9 (some (V.int w))) (upd H5 ad o) := fun o ho => by
      obtain ⟨st7, hM7⟩ := fin o ho
      refine Ds.runS (M := fun _ r => r = [.d (houseD n ds), .d (intsD B), .d (intsD C), .d (intsD E), .at (.ref p), .own a1 ((stepTo ds F ((d : Int), w)).map .int), .own a2 (row.map ggD), .d (.int (k : Int)), .d (.int (d : Int)), .d (.int w)]) (ds_callO rfl <| de_var rfl <| da_cons <| de_var rfl <| da_cons <| de_var rfl <| da_nil ⟨⟨n, ds, F, (d : Int), w⟩, rfl, rfl, rfl, ⟨hDo, lF, by show (0 : Int) ≤ (d : Int); omega, by show (d : Int) < ds.length; omega⟩, fun ys hy => by rw [hy]; rfl⟩) st7 fun ν8 ρ8 σ8 H8 st8 hr => ?_
      subst hr
      refine Ds.runE (M := fun _ r => r = [.d (houseD n ds), .d (intsD B), .d (intsD C), .d (intsD E), .at (.ref p), .own a1 ((stepTo ds F ((d : Int), w)).map .int), .own a2 ((row ++ [((d : Int), w)]).map ggD), .d (.int (k : Int)), .d (.int (d : Int)), .d (.int w)]) (ds_append rfl <| de_tup <| da_cons <| de_var rfl <| da_cons <| de_var rfl <| da_nil ⟨szd rfl, by rw [List.length_map, hrow, sizeLine_eq]; omega, by rw [List.map_append]; rfl⟩) st8 fun ν9 ρ9 σ9 H9 st9 hr => ?_
      subst hr
      have stc := st9.forgets (vs := [7, 8, 9]) fun v hm => List.all_eq_true.mp (show ([7, 8, 9].all fun v => nOwn _ v) = true from rfl) v hm
      refine hN _ _ _ _ _ _ stc (fun b hb => hb) (fun b hb => .inl hb) (fun b o nb e => ?_) ⟨row ++ [((d : Int), w)], _, decP L d w, rfl, rfl, fun b o e => ?_, hM7, by rw [List.length_append, hrow]; rfl, hgo.next hDo hr1 hdl hB hG⟩
      · rw [upd_ne' (fun z : b = ad => nb (by rw [z]; exact List.mem_append_left _ (List.mem_cons_of_mem _ had2)))]; exact e
      · rw [upd_ne' (fun z : b = ad => by rw [z, nB0 ad (List.mem_cons_of_mem _ had2)] at e; cases e)]; exact hB3 b o e
    have gdec : (decP L d w).getD d (0, 0) = if w = 0 then ((L.getD d (0, 0)).1 - 1, (L.getD d (0, 0)).2) else ((L.getD d (0, 0)).1, (L.getD d (0, 0)).2 - 1) := by
      unfold decP
      rw [List.getD_eq_getElem?_getD, List.getElem?_set_self dL]; rfl
    refine ⟨.ref p, eu4', .int (d : Int), eu8, p, as.map V.ref, (d : Int), .ref ad, rfl, rfl, .inl (.inl hMa.hp), atI_nat (by rw [List.getElem?_map, had]; rfl), .int w, eu9, ?_⟩
    rcases hG.hw with rfl | rfl
    · refine ⟨ad, _, _, V.int (L.getD d (0, 0)).1, rfl, rfl, by decide, .inl (.inl hH5), atI_nat (j := 0) rfl, _, _, rfl, rfl, ad, _, 0, 0, rfl, rfl, hH5, ixN_nat (by show 0 < 2; decide), ?_⟩
      refine rest _ ?_
      rw [gdec, if_pos rfl]; rfl
    · refine ⟨ad, _, _, V.int (L.getD d (0, 0)).2, rfl, rfl, by decide, .inl (.inl hH5), atI_nat (j := 1) rfl, _, _, rfl, rfl, ad, _, 1, 1, rfl, rfl, hH5, ixN_nat (by show 1 < 2; decide), ?_⟩
      refine rest _ ?_
      rw [gdec, if_neg (by decide)]; rfl
  · obtain ⟨row, F, L, rfl, rfl, hB3, hM3, hrow, hgo⟩ := hI2
    rw [List.length_map, List.length_range] at hrow
    have hdn := hgo.done hB hE hcl (by omega)
    have stz := st4.back (S := S) (B := B0) (fun a ha => List.mem_append_right _ ha) hB3 alB
    exact (ds_retV (P := ⟨fun _ _ => False, fun ν' s => ∃ a row, s = .own a (row.map ggD) ∧ Rn ds B row ∧ fN ds B row = E ∧ fM ds row = C, fun _ _ => False, fun _ _ => False⟩) rfl ⟨a2, row, rfl, hgo.r, hdn.1, hdn.2⟩) S B0 σ4 H4 _ stz ⟨fun _ _ _ _ _ z => z.elim, fun ν' s v H' r hs => q ν' s v H' hs r, fun _ _ _ _ _ z => z.elim, fun _ _ _ _ _ z => z.elim⟩
end
end Bd
set_option maxHeartbeats 4000000
namespace Bd
open PySem PySem.Spec PyProof.Rows L2 HT
local macro_rules | `(tactic| walk_at "de1") => `(tactic| (with_reducible first
  | refine dI_var rfl ?_ | refine dI_c ?_ | refine dI_op0 ?_ | refine dI_op ?_ | refine dI_un ?_ | refine dI_ixO rfl ?_ | refine dI_ixT ?_ | refine dI_ixL ?_ | refine dI_if ?_ | refine dI_lenO rfl ?_ | refine dI_lenL ?_ | refine dI_abs ?_ | refine dI_two ?_ | refine dI_intB ?_
  | refine dB_var rfl ?_ | refine dB_c ?_ | refine dB_op0 ?_ | refine dB_eqI ?_ | refine dB_neI ?_ | refine dB_inI ?_ | refine dB_not ?_ | refine dB_and ?_ | refine dB_or ?_ | refine dB_chain ?_ | refine dB_eqD ?_ | refine dB_neD ?_ | refine dB_isi ?_
  | refine dL_var rfl ?_ | refine dL_ixO rfl ?_ | refine dL_ixT ?_ | refine dL_ixL ?_ | refine dL_o ?_
  | refine dT_var rfl ?_ | refine dT_ixL ?_ | refine dT_ixT ?_ | refine dT_tup ?_ | refine dT_slT ?_ | refine dT_catT ?_
  | refine de_var rfl ?_ | refine dX_ixO rfl ?_ | refine dX_ixT ?_ | refine dX_ixL ?_ | refine de_tup ?_ | refine de_c rfl ?_ | refine de_if ?_ | refine Do.de (do_lst ?_) | refine de_catTT ?_ | refine de_slTT ?_
  | refine dI_e (dI_op0 ?_) | refine dI_e (dI_op ?_) | refine dI_e (dI_un ?_) | refine dI_e (dI_lenO rfl ?_) | refine dI_e (dI_lenL ?_) | refine dI_e (dI_abs ?_) | refine dI_e (dI_two ?_) | refine dI_e (dI_intB ?_)
  | refine dB_e (dB_op0 ?_) | refine dB_e (dB_eqI ?_) | refine dB_e (dB_neI ?_) | refine dB_e (dB_inI ?_) | refine dB_e (dB_not ?_) | refine dB_e (dB_and ?_) | refine dB_e (dB_or ?_) | refine dB_e (dB_chain ?_) | refine dB_e (dB_eqD ?_) | refine dB_e (dB_neD ?_)
  | refine dt_tB ?_ | refine dt_tTest ?_ | refine dt_not ?_ | refine dt_and ?_ | refine dt_or ?_ | refine dt_yes ?_
  | refine da_nil ?_ | refine da_cons ?_ | refine dp_no ?_ | refine dp_partI ?_
  | refine di_rngI ?_ | refine di_listL ?_ | refine di_zipL ?_ | refine di_enumL ?_
  | refine do_lck rfl ?_ | refine do_lst ?_ | refine do_catL ?_ | refine do_slLL ?_ | refine do_revL ?_
  | refine dg_nm rfl ?_ | refine dg_name rfl (by simp) ?_ | refine dg_tup rfl ?_ | refine dgs_cons ?_ | refine dgs_nil ?_))
local macro_rules | `(tactic| walk_at "de") => `(tactic| (repeat (first | walk_at "de1" | (refine ⟨_, rfl, ?_⟩))))
local macro_rules | `(tactic| walk_at "nrm") => `(tactic| (try dsimp only [List.set, toD, wipeR, List.map, pairD, beadD, lookD]))

local macro_rules | `(tactic| walk_at "dp") => `(tactic| (repeat (first | walk_at "de1" | (refine ⟨_, rfl, ?_⟩) | (refine dI_take rfl ?_) | (refine dI_e (dI_take rfl ?_)) | (refine ⟨by omega, by omega, fun r h0 h1 => ?_⟩) | (refine ⟨szd rfl, ?_⟩) | (refine ⟨(⟨by decide, by decide, by decide⟩ : CPow _ _), ?_⟩))))

abbrev sLawWalk : Stmt := topS 30
theorem scLawWalk : FnScope ["purse", "home", "first", "many", "now", "passed", "line", "step", "some", "door", "way"] ["purse", "home", "first", "many"] (defScope sLawWalk) := ⟨rfl, rfl, rfl, by decide +kernel, rfl, by decide +kernel, by decide +kernel⟩
structure Wk1 where
  rooms : Nat
  ds : List (Nat × Nat)
  B : List Int
  many : Nat
def spWalk (K : PySem.W.Frag) : Sp := spP (ι := Wk1) K (fun i => [houseD i.rooms i.ds, intsD i.B, .int (i.many : Int)]) (fun i _ => Doors i.rooms i.ds ∧ i.ds.length ≤ 24 ∧ i.B.length = i.rooms ∧ i.many ≤ 400) (fun i _ _ s => ∃ L : List Gg, s = .d (.tuple [.list (L.map ggD), intsD (fM i.ds L), intsD (fN i.ds i.B L)]) ∧ L.length ≤ i.many ∧ Rn i.ds i.B L)
section
variable {P : Program} {w : World} {K : PySem.W.Frag} {mg : Str → Option Value} {base : Heap}
theorem ok_walk {f : Addr} {fd : FuncData} (F : Fun K "_law_walk" "_law_walk" sLawWalk f fd) (cal_law_take : Cg P w K mg base 1 "_law_take" spTake) (cal_law_steps : Cg P w K mg base 1 "_law_steps" (spSteps K)) (m_range : mg "range" = none) (m_len : mg "len" = none) (m_list : mg "list" = none) : FnG P w K mg base 2 f fd ["purse", "home", "first", "many"] (spWalk K) := by
  have sc := scLawWalk
  refine fnG_of F scLawWalk (fun vs H Q E h => by obtain ⟨G, p, g, h⟩ := h; exact spD_len h fun i => rfl) (fun cdv A outer s H vs Q E hr hg h => ?_)
  obtain ⟨G, p, g, h⟩ := h
  refine ⟨_, (pss_cons (ps_set (i := 4) sc.nd rfl (.inl rfl) (pe_callTy call_list_of (by rfl) m_list (by decide +kernel) (pa_cons (pv 2) pa_nil)))
  (pss_cons (ps_set (i := 5) sc.nd rfl (.inl rfl) (pe_op op_rep (pe_lst (pa_cons pe_int pa_nil)) (pe_callB call_len_seq (by rfl) m_len PySem.boot_len (pa_cons (pe_ix ix_tup (pv 1) pe_int (fun _ _ => rfl)) pa_nil))))
  (pss_cons (ps_set (i := 6) sc.nd rfl (.inl rfl) (pe_lst pa_nil))
  (pss_cons (ps_for PassesOwn.never rfl (pi_range1 (by rfl) m_range (pa_cons (pv 3) pa_nil)) (pg_name (i := 7) sc.nd rfl (.inl rfl))
    (pss_cons (ps_set (i := 8) sc.nd rfl (.inl rfl) (pe_g cal_law_steps hg hr (by first | decide | exact Nat.le_refl _ | omega) (by rfl) (pa_cons (pv 1) (pa_cons (pv 4) pa_nil))))
  (pss_one (ps_if (pt_cmpR (op_neD hr.units) (pv 8) (pe_lst pa_nil) (nomark _))
    (pss_cons (ps_asg (pe_ix ix_list (pv 8) (pe_g cal_law_take hg hr (by first | decide | exact Nat.le_refl _ | omega) (by rfl) (pa_cons (pv 0) (pa_cons (pe_callB call_len_seq (by rfl) m_len PySem.boot_len (pa_cons (pv 8) pa_nil)) pa_nil))) (fun _ _ => rfl)) (pg_tup (by rfl) (pgs_cons (pg_name (i := 9) sc.nd rfl (.inl rfl)) (pgs_cons (pg_name (i := 10) sc.nd rfl (.inl rfl)) pgs_nil))))
  (pss_cons (ps_augS (pv 4) (pe_ix ix_tup (pe_ix ix_list (pe_ix ix_tup (pv 1) pe_int (fun _ _ => rfl)) (pv 9) (fun _ _ => rfl)) (pv 10) (fun _ _ => rfl)) get_list pe_int ip_sub set_list)
  (pss_cons (ps_augS (pv 4) (pe_ix ix_tup (pe_ix ix_list (pe_ix ix_tup (pv 1) pe_int (fun _ _ => rfl)) (pv 9) (fun _ _ => rfl)) (pe_op op_sub pe_int (pv 10)) (fun _ _ => rfl)) get_list pe_int ip_add set_list)
  (pss_cons (ps_augS (pv 5) (pv 9) get_list pe_int ip_add set_list)
  (pss_one (ps_expr (pe_bm PySem.F.plainAttrs_list PySem.F.slot_list_append PySem.F.type_list_append mt_append (pv 6) (pa_cons (pe_tup (pa_cons (pv 9) (pa_cons (pv 10) pa_nil))) pa_nil))))))))
    pss_nil))))
  (pss_one (ps_ret (pe_tup (pa_cons (pv 6) (pa_cons (pv 5) (pa_cons (pv 4) pa_nil)))))))))), ?_⟩
  dsimp only [cxOf, L2.Cx.nox]
  refine fn_ds (fun i => [.at (.ref p), .d (houseD i.rooms i.ds), .d (intsD i.B), .d (.int (i.many : Int)), .un, .un, .un, .un, .un, .un, .un]) h (fun i => rfl) fun i ν hp => ?_
  obtain ⟨rooms, ds, B, many⟩ := i
  obtain ⟨hD, hd, hB, hm⟩ := hp
  dsimp only at hD hd hB hm ⊢
  refine ds_seq (ds_setO rfl (by simp) (do_list (de_var rfl ⟨_, .inl rfl, fun An => ?_⟩)))
  walk_at "nrm"
  refine ds_seq (ds_setO rfl (by simp) (do_rep ?_))
  walk_at "de"
  refine ⟨szd rfl, dI_e ?_⟩
  walk_at "de"
  rw [List.length_map]
  refine ⟨[.int 0], _, rfl, rfl, by omega, by omega, by rw [Int.toNat_natCast]; show 1 * ds.length ≤ sizeLine; unfold sizeLine; omega, fun Ap => ?_⟩
  rw [Int.toNat_natCast, flat_rep0]
  walk_at "nrm"
  refine ds_seq (ds_setO rfl (by simp) (do_lst (da_nil ⟨szd rfl, fun Al => ?_⟩)))
  walk_at "nrm"
  refine ds_seq (ds_fork ?_)
  walk_at "dp"
  refine ⟨by omega, by omega, ?_⟩
  rw [Int.toNat_natCast, rngD_map]
  refine forW [7, 8, 9, 10] (fun (i : Nat) => PyData.int (i : Int)) (List.range many) rfl 0 (fun i r => ∃ (F M : List Int) (L : List Gg), r = [.at (.ref p), .d (houseD rooms ds), .d (intsD B), .d (.int many), .own An (F.map .int), .own Ap (M.map .int), .own Al (L.map ggD), .un, .un, .un, .un] ∧ F.length = rooms ∧ M.length = ds.length ∧ L.length ≤ i ∧ F = fN ds B L ∧ M = fM ds L ∧ Rn ds B L) rfl ⟨B, _, [], rfl, hB, List.length_replicate, Nat.le_refl _, rfl, rfl, Rn.nil _ _⟩ (fun i k ν1 r0 ha hν hI => ?_) (fun ν2 ρ' hν hv hI => ?_)
  · obtain ⟨F, M, L, rfl, hF, hM, hL, eF, eM, hR⟩ := hI
    have hi : i < many := by have := lt_of_at ha; rw [List.length_range] at this; exact this
    refine dg_nm rfl ?_
    walk_at "nrm"
    refine ds_seq (ds_set rfl (Do.de (do_callV rfl ?_)))
    walk_at "de"
    refine ⟨⟨rooms, ds, F⟩, rfl, rfl, ⟨hD, hF, by show ds.length ≤ 100; omega⟩, fun ys hy => ?_⟩
    obtain ⟨gs, rfl, hgl, hgs⟩ := hy
    have hgl : gs.length ≤ 2 * ds.length := hgl
    walk_at "nrm"
    refine ds_if ?_
    walk_at "de"
    refine ⟨szd rfl, (shp_mapL (f := ggD) (n := 1) gs fun a => shp_pr).ok (by decide), rfl, ?_⟩
    rw [eqv_nilL]
    refine ⟨fun e => ?_, fun e => ds_next ⟨by omega, rfl, F, M, L, rfl, hF, hM, by omega, eF, eM, hR⟩⟩
    have g0 : 0 < gs.length := by
      cases gs with
      | nil => simp at e
      | cons x xs => simp
    refine ds_seq (ds_asg ?_)
    walk_at "dp"
    refine ⟨by rw [List.length_map]; omega, by rw [List.length_map]; have h2 : (gs.length : Int) ≤ 48 := by omega
                                               exact Int.lt_of_le_of_lt h2 (by decide), fun o oa ob => ?_⟩
    rw [List.length_map] at ob
    obtain ⟨x, ex, ex'⟩ := at_lt (f := ggD) oa ob
    obtain ⟨q1, q2, q3, q4, q5⟩ := hgs x (List.mem_of_getElem? ex')
    obtain ⟨dr, wy⟩ := x
    dsimp only at q1 q2 q3 q4
    have q2 : dr < ds.length := q2
    obtain ⟨d, ed, ed'⟩ := at_lt (f := pairD) q1 q2
    obtain ⟨w1, w2⟩ := way_at ed' q3 q4
    rw [Int.toNat_of_nonneg q1] at w1 w2
    obtain ⟨o1, o2⟩ := rooms_of hD (x := (dr, wy)) q1 q2
    refine ⟨_, ex, ?_⟩
    walk_at "de"
    walk_at "nrm"
    refine ds_seq (ds_augSI rfl ?_)
    walk_at "de"
    refine ⟨_, ed, ?_⟩
    walk_at "de"
    refine ⟨_, w1, outOf ds (dr, wy), _, rfl, get_ints (by omega), ?_⟩
    walk_at "de"
    rw [← List.map_set]
    walk_at "nrm"
    refine ds_seq (ds_augSI rfl ?_)
    walk_at "de"
    refine ⟨_, ed, ?_⟩
    walk_at "de"
    refine ⟨_, w2, intoOf ds (dr, wy), _, rfl, get_ints (by rw [List.length_set]; omega), ?_⟩
    walk_at "de"
    rw [← List.map_set]
    walk_at "nrm"
    refine ds_seq (ds_augSI rfl ?_)
    walk_at "de"
    refine ⟨dr.toNat, _, by omega, get_ints (by omega), ?_⟩
    walk_at "de"
    rw [← List.map_set]
    walk_at "nrm"
    refine ds_append rfl ?_
    walk_at "de"
    refine ⟨szd rfl, szL (n := (L.map ggD).length) (by rw [List.length_map]; omega), ?_⟩
    walk_at "nrm"
    exact ⟨by omega, rfl, _, _, L ++ [(dr, wy)], by rw [show (L ++ [(dr, wy)]).map ggD = L.map ggD ++ [ggD (dr, wy)] from List.map_append ..], by rw [List.length_set, List.length_set]; exact hF, by rw [List.length_set]; exact hM, by rw [List.length_append]; show L.length + 1 ≤ i + 1; omega, by rw [fN_snoc, ← eF]; rfl, by rw [fM_snoc, ← eM]; rfl, hR.snoc ⟨q1, q2, q3, q4, by rw [← eF]; dsimp only at q5; omega⟩⟩
  · obtain ⟨F, M, L, eR, hF, hM, hL, eF, eM, hR⟩ := hI
    rw [List.length_range] at hL
    refine ds_wipe [7, 8, 9, 10] hv ?_
    rw [eR]
    refine ds_freeze 4 rfl ?_
    walk_at "nrm"
    refine ds_freeze 5 rfl ?_
    walk_at "nrm"
    refine ds_freeze 6 rfl ?_
    walk_at "nrm"
    refine ds_ret ?_
    walk_at "de"
    exact ⟨szd rfl, L, by rw [← eF, ← eM]; rfl, by show L.length ≤ many; omega, hR⟩
end
end Bd
set_option maxHeartbeats 4000000
namespace Bd
open PySem PySem.Spec PyProof.Rows L2 HT
local macro_rules | `(tactic| walk_at "de1") => `(tactic| (with_reducible first
  | refine dI_var rfl ?_ | refine dI_c ?_ | refine dI_op0 ?_ | refine dI_op ?_ | refine dI_un ?_ | refine dI_ixO rfl ?_ | refine dI_ixT ?_ | refine dI_ixL ?_ | refine dI_if ?_ | refine dI_lenO rfl ?_ | refine dI_lenL ?_ | refine dI_abs ?_ | refine dI_two ?_ | refine dI_intB ?_
  | refine dB_var rfl ?_ | refine dB_c ?_ | refine dB_op0 ?_ | refine dB_eqI ?_ | refine dB_neI ?_ | refine dB_inI ?_ | refine dB_not ?_ | refine dB_and ?_ | refine dB_or ?_ | refine dB_chain ?_ | refine dB_eqD ?_ | refine dB_neD ?_ | refine dB_isi ?_
  | refine dL_var rfl ?_ | refine dL_ixO rfl ?_ | refine dL_ixT ?_ | refine dL_ixL ?_ | refine dL_o ?_
  | refine dT_var rfl ?_ | refine dT_ixL ?_ | refine dT_ixT ?_ | refine dT_tup ?_ | refine dT_slT ?_ | refine dT_catT ?_
  | refine de_var rfl ?_ | refine dX_ixO rfl ?_ | refine dX_ixT ?_ | refine dX_ixL ?_ | refine de_tup ?_ | refine de_c rfl ?_ | refine de_if ?_ | refine Do.de (do_lst ?_) | refine de_catTT ?_ | refine de_slTT ?_
  | refine dI_e (dI_op0 ?_) | refine dI_e (dI_op ?_) | refine dI_e (dI_un ?_) | refine dI_e (dI_lenO rfl ?_) | refine dI_e (dI_lenL ?_) | refine dI_e (dI_abs ?_) | refine dI_e (dI_two ?_) | refine dI_e (dI_intB ?_)
  | refine dB_e (dB_op0 ?_) | refine dB_e (dB_eqI ?_) | refine dB_e (dB_neI ?_) | refine dB_e (dB_inI ?_) | refine dB_e (dB_not ?_) | refine dB_e (dB_and ?_) | refine dB_e (dB_or ?_) | refine dB_e (dB_chain ?_) | refine dB_e (dB_eqD ?_) | refine dB_e (dB_neD ?_)
  | refine dt_tB ?_ | refine dt_tTest ?_ | refine dt_not ?_ | refine dt_and ?_ | refine dt_or ?_ | refine dt_yes ?_
  | refine da_nil ?_ | refine da_cons ?_ | refine dp_no ?_ | refine dp_partI ?_
  | refine di_rngI ?_ | refine di_listL ?_ | refine di_zipL ?_ | refine di_enumL ?_
  | refine do_lck rfl ?_ | refine do_lst ?_ | refine do_catL ?_ | refine do_slLL ?_ | refine do_revL ?_
  | refine dg_nm rfl ?_ | refine dg_name rfl (by simp) ?_ | refine dg_tup rfl ?_ | refine dgs_cons ?_ | refine dgs_nil ?_))
local macro_rules | `(tactic| walk_at "de") => `(tactic| (repeat (first | walk_at "de1" | (refine ⟨_, rfl, ?_⟩))))
local macro_rules | `(tactic| walk_at "nrm") => `(tactic| (try dsimp only [List.set, toD, wipeR, List.map, pairD, beadD, lookD]))

local macro_rules | `(tactic| walk_at "dg") => `(tactic| ((repeat (with_reducible first | refine dg_tup rfl ?_ | refine dg_unl rfl ?_ | refine dgs_cons ?_ | refine dgs_nil ?_ | refine dg_name rfl (by simp) ?_)); walk_at "nrm"))
abbrev sLawLeads : Stmt := topS 32
theorem scLawLeads : FnScope ["home", "first", "passed", "last", "line", "now", "many", "going", "door", "way"] ["home", "first", "passed", "last", "line"] (defScope sLawLeads) := ⟨rfl, rfl, rfl, by decide +kernel, rfl, by decide +kernel, by decide +kernel⟩
/-! rows that lead there are found to do so -/
structure Ld1 where
  n : Nat
  ds : List (Nat × Nat)
  B : List Int
  row : List Gg
structure Ld1.Ok (i : Ld1) : Prop where
  doors : Doors i.n i.ds
  r1 : i.n ≤ 10
  d1 : i.ds.length ≤ 100
  lB : i.B.length = i.n
  r : Rn i.ds i.B i.row
  l : i.row.length ≤ 100000
def spLeads (K : PySem.W.Frag) : Sp := spD (ι := Ld1) K Wn [] (fun i => [houseD i.n i.ds, intsD i.B, intsD (fM i.ds i.row), intsD (fN i.ds i.B i.row), .list (i.row.map ggD)]) (fun i _ => i.Ok) (fun _ _ _ s => s = .d (.bool true))
theorem goAll_run {ds : List (Nat × Nat)} : ∀ {L : List Gg} {k : Nat} {F M : List Int}, (∀ i x, L[i]? = some x → 1 ≤ ((L.take i).foldl (fun F x => stepTo ds F x) F).getD (outOf ds x) 0) → goAll ds L k F M = .inr (L.foldl (fun F x => stepTo ds F x) F, L.foldl addM M)
  | [], _, _, _, _ => rfl
  | x :: L, k, F, M, h => by
    have h0 := h 0 x rfl
    have h0 : 1 ≤ F.getD (outOf ds x) 0 := h0
    unfold goAll
    rw [if_neg (by omega)]
    exact goAll_run (L := L) fun i y hy => h (i + 1) y hy
theorem unlike_self : ∀ (a : List Int) (k : Nat), unlike a a k = none
  | [], _ => rfl
  | x :: a, k => by
    unfold unlike
    rw [if_neg (fun h => h rfl)]
    exact unlike_self a (k + 1)
theorem no_fault {n : Nat} {ds : List (Nat × Nat)} {B : List Int} {row : List Gg} (h : Rn ds B row) : faultOf ⟨n, ds, B, fM ds row, fN ds B row, row⟩ = .none := by
  have h1 : firstAt (badWay ds) row 0 = none := firstAt_none fun x hx => by
    obtain ⟨i, hi⟩ := List.getElem?_of_mem hx
    have g := h.at_ i x hi
    unfold badWay
    rw [decide_eq_true g.d0, decide_eq_true g.d1, decide_eq_true g.w0, decide_eq_true g.w1]; rfl
  have h2 : goAll ds row 0 B (List.replicate ds.length 0) = .inr (fN ds B row, fM ds row) := goAll_run fun i x hi => (h.at_ i x hi).n
  unfold faultOf
  dsimp only
  rw [h1]
  dsimp only
  rw [h2]
  dsimp only
  rw [unlike_self]
  dsimp only
  rw [unlike_self]
section
variable {P : Program} {w : World} {K : PySem.W.Frag} {mg : Str → Option Value} {base : Heap}
theorem ok_leads {f : Addr} {fd : FuncData} (F : Fun K "_law_leads" "_law_leads" sLawLeads f fd) (cal_law_whole : Cg P w K mg base 1 "_law_whole" (spWholeI K)) (m_isinstance : mg "isinstance" = none) (m_list : mg "list" = none) (m_tuple : mg "tuple" = none) (m_len : mg "len" = none) : FnG P w K mg base 2 f fd ["home", "first", "passed", "last", "line"] (spLeads K) := by
  have sc := scLawLeads
  refine fnG_of F scLawLeads (fun vs H Q E h => spD_len h fun i => rfl) (fun cdv A outer s H vs Q E hr hg h => ?_)
  refine ⟨_, (pss_cons (ps_if (pt_not (pt_val (pe_callB call_isi (by rfl) m_isinstance (by decide +kernel) (pa_cons (pv 4) (pa_cons (pe_bltn (v := V.ty "list") (by rfl) m_list (by decide +kernel) rfl) pa_nil)))))
    (pss_one (ps_ret pe_bl))
    pss_nil)
  (pss_cons (ps_set (i := 5) sc.nd rfl (.inl rfl) (pe_callTy call_list_of (by rfl) m_list (by decide +kernel) (pa_cons (pv 1) pa_nil)))
  (pss_cons (ps_set (i := 6) sc.nd rfl (.inl rfl) (pe_op op_rep (pe_lst (pa_cons pe_int pa_nil)) (pe_callB call_len_seq (by rfl) m_len PySem.boot_len (pa_cons (pe_ix ix_tup (pv 0) pe_int (fun _ _ => rfl)) pa_nil))))
  (pss_cons (ps_for PassesOwn.never rfl (pi_list (pv 4)) (pg_name (i := 7) sc.nd rfl (.inl rfl))
    (pss_cons (ps_if (PW.pt (pw_or (pt_not (pt_val (pe_callB call_isi (by rfl) m_isinstance (by decide +kernel) (pa_cons (pv 7) (pa_cons (pe_bltn (v := V.ty "tuple") (by rfl) m_tuple (by decide +kernel) rfl) pa_nil))))) (pw_or (pt_cmpR op_ne (pe_callB call_len_seq (by rfl) m_len PySem.boot_len (pa_cons (pv 7) pa_nil)) pe_int (nomark _)) (pw_or (pt_not (pt_val (pe_g cal_law_whole hg hr (by first | decide | exact Nat.le_refl _ | omega) (by rfl) (pa_cons (pe_ix ix_tup (pv 7) pe_int (fun _ _ => rfl)) pa_nil)))) (pw_or1 (pt_not (pt_val (pe_g cal_law_whole hg hr (by first | decide | exact Nat.le_refl _ | omega) (by rfl) (pa_cons (pe_ix ix_tup (pv 7) pe_int (fun _ _ => rfl)) pa_nil)))))))))
    (pss_one (ps_ret pe_bl))
    pss_nil)
  (pss_cons (ps_asg (pv 7) (pg_tup (by rfl) (pgs_cons (pg_name (i := 8) sc.nd rfl (.inl rfl)) (pgs_cons (pg_name (i := 9) sc.nd rfl (.inl rfl)) pgs_nil))))
  (pss_cons (ps_if (PW.pt (pw_or (pt_not (pt_chain op_le op_lt pe_int (pv 8) (pe_callB call_len_seq (by rfl) m_len PySem.boot_len (pa_cons (pv 6) pa_nil)))) (pw_or (pt_not (pt_chain op_le op_lt pe_int (pv 9) pe_int)) (pw_or1 (pt_cmpR op_lt (pe_ix ix_list (pv 5) (pe_ix ix_tup (pe_ix ix_list (pe_ix ix_tup (pv 0) pe_int (fun _ _ => rfl)) (pv 8) (fun _ _ => rfl)) (pv 9) (fun _ _ => rfl)) (fun _ _ => rfl)) pe_int (nomark _))))))
    (pss_one (ps_ret pe_bl))
    pss_nil)
  (pss_cons (ps_augS (pv 5) (pe_ix ix_tup (pe_ix ix_list (pe_ix ix_tup (pv 0) pe_int (fun _ _ => rfl)) (pv 8) (fun _ _ => rfl)) (pv 9) (fun _ _ => rfl)) get_list pe_int ip_sub set_list)
  (pss_cons (ps_augS (pv 5) (pe_ix ix_tup (pe_ix ix_list (pe_ix ix_tup (pv 0) pe_int (fun _ _ => rfl)) (pv 8) (fun _ _ => rfl)) (pe_op op_sub pe_int (pv 9)) (fun _ _ => rfl)) get_list pe_int ip_add set_list)
  (pss_one (ps_augS (pv 6) (pv 8) get_list pe_int ip_add set_list))))))))
  (pss_one (ps_ret (pe_and (pe_cmpR (op_eqD hr.units) (pv 5) (pv 3) (nomark _)) (pe_one (pe_cmpR (op_eqD hr.units) (pv 6) (pv 2) (nomark _)))))))))), ?_⟩
  try dsimp only [cxOf, L2.Cx.nox]
  refine fn_ds (fun i : Ld1 => [.d (houseD i.n i.ds), .d (intsD i.B), .d (intsD (fM i.ds i.row)), .d (intsD (fN i.ds i.B i.row)), .d (.list (i.row.map ggD)), .un, .un, .un, .un, .un]) h (fun i => rfl) fun i ν hi => ?_
  obtain ⟨n, ds, B, row⟩ := i
  obtain ⟨hD, hr1, hd1, lB, hR, hl⟩ := hi
  dsimp only at hD hr1 hd1 lB hR hl ⊢
  refine ds_seq (ds_if (dt_not (dt_tTest (dB_isi (de_var rfl ⟨true, kit_ty (show kitB "list" "list" = some true from by decide +kernel), ?_⟩)))))
  refine ⟨(fun z => nomatch z), fun _ => ds_next ?_⟩
  refine ds_seq (ds_setO rfl (by simp) (do_listL (dL_var rfl fun An => ?_)))
  walk_at "nrm"
  refine ds_seq (ds_setO rfl (by simp) (do_rep ?_))
  walk_at "de"
  refine ⟨szd rfl, dI_e ?_⟩
  walk_at "de"
  rw [List.length_map]
  refine ⟨[.int 0], _, rfl, rfl, by omega, by omega, by rw [Int.toNat_natCast]; show 1 * ds.length ≤ sizeLine; unfold sizeLine; omega, fun Am => ?_⟩
  rw [Int.toNat_natCast, flat_rep0]
  walk_at "nrm"
  refine ds_seq (ds_fork (di_listL (dL_var rfl ?_)))
  refine forN [7, 8, 9] ggD row rfl (fun i r => r = [.d (houseD n ds), .d (intsD B), .d (intsD (fM ds row)), .d (intsD (fN ds B row)), .d (.list (row.map ggD)), .own An ((fN ds B (row.take i)).map .int), .own Am ((fM ds (row.take i)).map .int), .un, .un, .un]) rfl (by rw [List.take_zero]; rfl) (fun i x ν1 r0 ha hI => ?_) (fun ν2 ρ' hv hI => ?_)
  · subst hI
    have g := hR.at_ i x ha
    have eN : fN ds B (row.take (i + 1)) = stepTo ds (fN ds B (row.take i)) x := by rw [take_snoc ha, fN_snoc]
    have eM : fM ds (row.take (i + 1)) = addM (fM ds (row.take i)) x := by rw [take_snoc ha, fM_snoc]
    rw [eN, eM]
    have lN : (fN ds B (row.take i)).length = n := by rw [fN_len, lB]
    have lM : (fM ds (row.take i)).length = ds.length := fM_len _ _
    generalize fN ds B (row.take i) = F at g lN
    generalize fM ds (row.take i) = M at lM
    obtain ⟨dr, wy⟩ := x
    obtain ⟨q1, q2, q3, q4, q5⟩ := g
    dsimp only at q1 q2 q3 q4
    have q2 : dr < ds.length := q2
    obtain ⟨d, ed, ed'⟩ := at_lt (f := pairD) q1 q2
    obtain ⟨w1, w2⟩ := way_at ed' q3 q4
    rw [Int.toNat_of_nonneg q1] at w1 w2
    obtain ⟨o1, o2⟩ := rooms_of hD (x := (dr, wy)) q1 q2
    refine dg_nm rfl ?_
    walk_at "nrm"
    refine ds_seq (ds_if (dt_or (dt_not (dt_tTest (dB_isi (de_var rfl ⟨true, kit_ty (show kitB "tuple" "tuple" = some true from by decide +kernel), ?_⟩))))))
    refine ⟨(fun z => nomatch z), fun _ => dt_or (dt_tTest (dB_neI (dI_lenT (dT_var rfl (dI_c ?_)))))⟩
    refine ⟨(fun z => nomatch z), fun _ => dt_or (dt_not (dt_tTest (dB_call0 (da_cons (dI_e (dI_ixT (dT_var rfl (dI_c ⟨dr, rfl, da_nil ?_⟩))))))))⟩
    refine ⟨dr, rfl, trivial, fun nn s hs => ⟨true, hs, (fun z => nomatch z), fun _ => dt_not (dt_tTest (dB_call0 (da_cons (dI_e (dI_ixT (dT_var rfl (dI_c ⟨wy, rfl, da_nil ?_⟩)))))))⟩⟩
    refine ⟨wy, rfl, trivial, fun nn s hs => ⟨true, hs, (fun z => nomatch z), fun _ => ds_next ?_⟩⟩
    refine ds_seq (ds_asg (de_var rfl ?_))
    walk_at "dg"
    refine ds_seq (ds_if (dt_or (dt_not (dt_tTest (dB_chain (dI_c (dI_var rfl ?_)))))))
    refine ⟨fun _ => dI_lenO rfl ?_, fun z => absurd (decide_eq_true q1) (by rw [z]; decide)⟩
    rw [List.length_map, decide_eq_true (show dr < (M.length : Int) by omega)]
    refine ⟨(fun z => nomatch z), fun _ => dt_or (dt_not (dt_tTest (dB_chain (dI_c (dI_var rfl ?_)))))⟩
    refine ⟨fun _ => dI_c ?_, fun z => absurd (decide_eq_true q3) (by rw [z]; decide)⟩
    rw [decide_eq_true (show wy < 2 by omega)]
    refine ⟨(fun z => nomatch z), fun _ => dt_tTest (dB_op0 (dI_ixO rfl ?_))⟩
    walk_at "de"
    refine ⟨_, ed, ?_⟩
    walk_at "de"
    refine ⟨_, w1, _, atD_ints (by rw [lN]; exact o1), ?_⟩
    walk_at "de"
    refine ⟨fun e => absurd (of_decide_eq_true e) (by omega), fun _ => ds_next ?_⟩
    walk_at "nrm"
    refine ds_seq (ds_augSI rfl ?_)
    walk_at "de"
    refine ⟨_, ed, ?_⟩
    walk_at "de"
    refine ⟨_, w1, outOf ds (dr, wy), _, rfl, get_ints (by omega), ?_⟩
    walk_at "de"
    rw [← List.map_set]
    walk_at "nrm"
    refine ds_seq (ds_augSI rfl ?_)
    walk_at "de"
    refine ⟨_, ed, ?_⟩
    walk_at "de"
    refine ⟨_, w2, intoOf ds (dr, wy), _, rfl, get_ints (by rw [List.length_set]; omega), ?_⟩
    walk_at "de"
    rw [← List.map_set]
    walk_at "nrm"
    refine ds_augSI rfl ?_
    walk_at "de"
    refine ⟨dr.toNat, _, by omega, get_ints (by omega), ?_⟩
    walk_at "de"
    rw [← List.map_set]
    exact ⟨rfl, rfl⟩
  · rw [List.take_of_length_le (Nat.le_refl _)] at hI
    refine ds_wipe [7, 8, 9] hv ?_
    rw [hI]
    refine ds_freeze 5 rfl ?_
    refine ds_freeze 6 rfl ?_
    walk_at "nrm"
    refine ds_ret (dB_e (dB_and (dB_eqD (de_var rfl (de_var rfl ⟨(shp_ints (n := 0) _).ok (by decide), (shp_ints (n := 0) _).ok (by decide), ?_⟩)))))
    have e1 : ∀ l : List Int, PyData.eqv (.list (l.map .int)) (intsD l) = true := fun l => by
      have := eqv_intsD l l
      rw [decide_eq_true rfl] at this
      exact this
    rw [e1]
    refine ⟨fun _ => dB_eqD (de_var rfl (de_var rfl ⟨(shp_ints (n := 0) _).ok (by decide), (shp_ints (n := 0) _).ok (by decide), ?_⟩)), (fun z => nomatch z)⟩
    rw [e1]
end
end Bd
set_option maxHeartbeats 4000000
namespace Bd
open PySem PySem.Spec PyProof.Rows L2 HT
/-! rows of goings: put together, cut, gone back -/
theorem ext_at {A B : List Int} (hl : A.length = B.length) (h : ∀ i, i < A.length → A.getD i 0 = B.getD i 0) : A = B := by
  refine List.ext_getElem hl fun i h1 h2 => ?_
  have := h i h1
  rw [List.getD_eq_getElem?_getD, List.getD_eq_getElem?_getD, List.getElem?_eq_getElem h1, List.getElem?_eq_getElem h2] at this
  exact this
theorem fN_app (ds : List (Nat × Nat)) (B : List Int) (L M : List Gg) : fN ds B (L ++ M) = fN ds (fN ds B L) M := by unfold fN; rw [List.foldl_append]
theorem fN_cons (ds : List (Nat × Nat)) (B : List Int) (x : Gg) (L : List Gg) : fN ds B (x :: L) = fN ds (stepTo ds B x) L := rfl
theorem addAll_at (i : Nat) : ∀ (L : List Gg) (M : List Int), i < M.length → (L.foldl addM M).getD i 0 = M.getD i 0 + (L.countP fun x => decide (x.1.toNat = i) : Nat)
  | [], M, _ => by simp
  | x :: L, M, h => by
    rw [List.foldl_cons, addAll_at i L (addM M x) (by unfold addM; rw [List.length_set]; exact h), List.countP_cons]
    unfold addM
    by_cases c : x.1.toNat = i
    · rw [c, List.getD_eq_getElem?_getD, List.getElem?_set_self h, if_pos (decide_eq_true rfl)]
      show M.getD i 0 + 1 + _ = _
      omega
    · rw [if_neg (by rw [decide_eq_false c]; decide), List.getD_eq_getElem?_getD, List.getElem?_set_ne c, ← List.getD_eq_getElem?_getD]; rfl
theorem fM_at {ds : List (Nat × Nat)} {i : Nat} (h : i < ds.length) (L : List Gg) : (fM ds L).getD i 0 = (L.countP fun x => decide (x.1.toNat = i) : Nat) := by
  unfold fM
  rw [addAll_at i L _ (by rw [List.length_replicate]; exact h), List.getD_eq_getElem?_getD, List.getElem?_replicate, if_pos h]
  show (0 : Int) + _ = _
  omega
theorem fM_app_at {ds : List (Nat × Nat)} {i : Nat} (h : i < ds.length) (L M : List Gg) : (fM ds (L ++ M)).getD i 0 = (fM ds L).getD i 0 + (fM ds M).getD i 0 := by
  rw [fM_at h, fM_at h, fM_at h, List.countP_append]; omega
theorem Rn.app {ds : List (Nat × Nat)} {B : List Int} {L M : List Gg} (h : Rn ds B L) (g : Rn ds (fN ds B L) M) : Rn ds B (L ++ M) := ⟨fun i y hi => by
  by_cases c : i < L.length
  · rw [List.getElem?_append_left c] at hi
    rw [List.take_append_of_le_length (by omega)]
    exact h.at_ i y hi
  · rw [List.getElem?_append_right (by omega)] at hi
    have := g.at_ (i - L.length) y hi
    rw [List.take_append, List.take_of_length_le (by omega), fN_app]
    exact this⟩
theorem Rn.take {ds : List (Nat × Nat)} {B : List Int} {L : List Gg} (h : Rn ds B L) (k : Nat) : Rn ds B (L.take k) := ⟨fun i y hi => by
  have hl := lt_of_at hi
  rw [List.length_take] at hl
  rw [List.getElem?_take_of_lt (by omega)] at hi
  rw [List.take_take, Nat.min_eq_left (by omega)]
  exact h.at_ i y hi⟩
theorem Rn.drop {ds : List (Nat × Nat)} {B : List Int} {L : List Gg} (h : Rn ds B L) (k : Nat) : Rn ds (fN ds B (L.take k)) (L.drop k) := ⟨fun i y hi => by
  rw [List.getElem?_drop] at hi
  have := h.at_ (k + i) y hi
  rw [← fN_app]
  have e : L.take k ++ (L.drop k).take i = L.take (k + i) := by rw [List.take_add]
  rw [e]; exact this⟩
def turnG (x : Gg) : Gg := (x.1, 1 - x.2)
def turnL (L : List Gg) : List Gg := L.reverse.map turnG
theorem turn_snoc (L : List Gg) (x : Gg) : turnL (L ++ [x]) = turnG x :: turnL L := by unfold turnL; rw [List.reverse_append]; rfl
theorem turn_len (L : List Gg) : (turnL L).length = L.length := by unfold turnL; rw [List.length_map, List.length_reverse]
theorem fM_turn (ds : List (Nat × Nat)) (L : List Gg) : fM ds (turnL L) = fM ds L := by
  refine ext_at (by rw [fM_len, fM_len]) fun i hi => ?_
  rw [fM_len] at hi
  rw [fM_at hi, fM_at hi]
  unfold turnL
  rw [List.countP_map, List.countP_reverse]; rfl
theorem turn_out {n : Nat} {ds : List (Nat × Nat)} (hD : Doors n ds) {x : Gg} (h0 : 0 ≤ x.1) (h1 : x.1 < ds.length) (w0 : 0 ≤ x.2) (w1 : x.2 ≤ 1) : outOf ds (turnG x) = intoOf ds x ∧ intoOf ds (turnG x) = outOf ds x := by
  unfold outOf intoOf turnG
  dsimp only
  rcases (by omega : x.2 = 0 ∨ x.2 = 1) with e | e <;> rw [e] <;> exact ⟨rfl, rfl⟩
theorem step_back {n : Nat} {ds : List (Nat × Nat)} (hD : Doors n ds) {F : List Int} (hF : F.length = n) {x : Gg} (g : GoOk ds F x) : stepTo ds (stepTo ds F x) (turnG x) = F := by
  obtain ⟨a, b, _, q1, q2, q3, hw⟩ := outs_of hD g.d0 g.d1
  have ho : outOf ds x < F.length ∧ intoOf ds x < F.length ∧ outOf ds x ≠ intoOf ds x := by
    rcases hw with ⟨_, e1, e2⟩ | ⟨_, e1, e2⟩ <;> rw [e1, e2] <;> refine ⟨by omega, by omega, ?_⟩
    · exact q3
    · exact fun z => q3 z.symm
  obtain ⟨t1, t2⟩ := turn_out hD g.d0 g.d1 g.w0 g.w1
  refine ext_at (by rw [step_len, step_len]) fun i hi => ?_
  rw [step_at (by rw [step_len, t1]; exact ho.2.1) (by rw [step_len, t2]; exact ho.1) (by rw [t1, t2]; exact fun z => ho.2.2 z.symm), t1, t2]
  unfold stN
  dsimp only
  rw [step_at ho.1 ho.2.1 ho.2.2]
  unfold stN
  dsimp only
  by_cases c1 : i = intoOf ds x
  · have c2 : ¬ i = outOf ds x := fun z => ho.2.2 (z.symm.trans c1)
    simp only [if_pos c1, if_neg c2]; omega
  · by_cases c2 : i = outOf ds x
    · simp only [if_neg c1, if_pos c2]; omega
    · simp only [if_neg c1, if_neg c2]; omega
theorem Rn.cons {ds : List (Nat × Nat)} {B : List Int} {x : Gg} {L : List Gg} (g : GoOk ds B x) (h : Rn ds (stepTo ds B x) L) : Rn ds B (x :: L) := ⟨fun i y hi => by
  cases i with
  | zero => cases hi; exact g
  | succ i => exact h.at_ i y hi⟩
theorem nn_of {n : Nat} {ds : List (Nat × Nat)} {B : List Int} (hD : Doors n ds) (hB : B.length = n) (hb : ∀ x ∈ B, 0 ≤ x) {L : List Gg} (hL : Rn ds B L) : ∀ x ∈ fN ds B L, 0 ≤ x := fun x hx => by
  have I := run_wk hD hB hb rfl hL
  obtain ⟨i, hi⟩ := List.getElem?_of_mem hx
  have hl := lt_of_at hi
  rw [fN_len, hB] at hl
  have := I.f0 i hl
  rw [List.getD_eq_getElem?_getD, hi] at this
  exact this
theorem Rn.turn {n : Nat} {ds : List (Nat × Nat)} {B : List Int} (hD : Doors n ds) (hB : B.length = n) (hb : ∀ x ∈ B, 0 ≤ x) : ∀ {m : Nat} {L : List Gg}, L.length = m → Rn ds B L → Rn ds (fN ds B L) (turnL L) ∧ fN ds (fN ds B L) (turnL L) = B := by
  intro m
  induction m with
  | zero =>
    intro L hl hL
    have : L = [] := List.length_eq_zero_iff.mp hl
    subst this
    exact ⟨Rn.nil _ _, rfl⟩
  | succ m ih =>
    intro L hl hL
    have ne : L ≠ [] := fun z => by rw [z] at hl; exact absurd hl (by simp)
    obtain ⟨L0, x, rfl⟩ : ∃ L0 x, L = L0 ++ [x] := ⟨L.dropLast, L.getLast ne, (List.dropLast_concat_getLast ne).symm⟩
    have l0 : L0.length = m := by rw [List.length_append, List.length_singleton] at hl; omega
    obtain ⟨h0, g⟩ := hL.front
    obtain ⟨r1, r2⟩ := ih l0 h0
    have lF : (fN ds B L0).length = n := by rw [fN_len, hB]
    have nn := nn_of hD hB hb h0
    have sb := step_back hD lF g
    rw [fN_snoc, turn_snoc]
    obtain ⟨a, b, _, q1, q2, q3, hw⟩ := outs_of hD g.d0 g.d1
    have ho : outOf ds x < (fN ds B L0).length ∧ intoOf ds x < (fN ds B L0).length ∧ outOf ds x ≠ intoOf ds x := by
      rcases hw with ⟨_, e1, e2⟩ | ⟨_, e1, e2⟩ <;> rw [e1, e2] <;> refine ⟨by omega, by omega, ?_⟩
      · exact q3
      · exact fun z => q3 z.symm
    obtain ⟨t1, t2⟩ := turn_out hD g.d0 g.d1 g.w0 g.w1
    refine ⟨Rn.cons ⟨g.d0, g.d1, ?_, ?_, ?_⟩ (by rw [sb]; exact r1), by rw [fN_cons, sb]; exact r2⟩
    · have := g.w1; show 0 ≤ 1 - x.2; omega
    · have := g.w0; show 1 - x.2 ≤ 1; omega
    · rw [t1, step_at ho.1 ho.2.1 ho.2.2]
      unfold stN
      have h1 : 0 ≤ (fN ds B L0).getD (intoOf ds x) 0 := by
        rw [List.getD_eq_getElem?_getD, List.getElem?_eq_getElem ho.2.1]
        exact nn _ (List.getElem_mem ho.2.1)
      dsimp only
      rw [if_neg (fun z => ho.2.2 z.symm : ¬ intoOf ds x = outOf ds x), if_pos rfl]
      omega
/-- what goings lead to can be asked for -/
theorem gok_of {n : Nat} {ds : List (Nat × Nat)} {B C E : List Int} (hn : n ≤ 10) (hd : ds.length ≤ 100) (hD : Doors n ds) (hB : B.length = n) (hb : ∀ x ∈ B, 0 ≤ x) {L : List Gg} (hL : Rn ds B L) (hl : L.length ≤ 100000) (hC : fM ds L = C) (hE : fN ds B L = E) : GoOk1 ⟨⟨n, ds, C⟩, B, E⟩ := by
  subst hC hE
  obtain ⟨R, EC⟩ := runs_end hn hd hD hB hb hL
  have hs := (fM_sum rfl hL).1
  exact ⟨R, EC, by show (fN ds B L).length = n; rw [fN_len, hB], by show (fM ds L).sum ≤ 100000; omega⟩
theorem twice_at {n : Nat} {ds : List (Nat × Nat)} {B : List Int} (L : List Gg) (L' : List Gg) (h : fM ds L' = fM ds L) : fM ds (L ++ L') = (fM ds L).map fun c => 2 * c := by
  refine ext_at (by rw [fM_len, List.length_map, fM_len]) fun i hi => ?_
  rw [fM_len] at hi
  rw [fM_app_at hi, h, List.getD_eq_getElem?_getD (l := (fM ds L).map _), List.getElem?_map, List.getD_eq_getElem?_getD]
  rw [List.getElem?_eq_getElem (by rw [fM_len]; exact hi)]
  show _ = 2 * _
  simp only [Option.getD_some]
  omega
end Bd
set_option maxHeartbeats 4000000
namespace Bd
open PySem PySem.Spec PyProof.Rows L2 HT
local macro_rules | `(tactic| walk_at "de1") => `(tactic| (with_reducible first
  | refine dI_var rfl ?_ | refine dI_c ?_ | refine dI_op0 ?_ | refine dI_op ?_ | refine dI_un ?_ | refine dI_ixO rfl ?_ | refine dI_ixT ?_ | refine dI_ixL ?_ | refine dI_if ?_ | refine dI_lenO rfl ?_ | refine dI_lenL ?_ | refine dI_abs ?_ | refine dI_two ?_ | refine dI_intB ?_
  | refine dB_var rfl ?_ | refine dB_c ?_ | refine dB_op0 ?_ | refine dB_eqI ?_ | refine dB_neI ?_ | refine dB_inI ?_ | refine dB_not ?_ | refine dB_and ?_ | refine dB_or ?_ | refine dB_chain ?_ | refine dB_eqD ?_ | refine dB_neD ?_ | refine dB_isi ?_
  | refine dL_var rfl ?_ | refine dL_ixO rfl ?_ | refine dL_ixT ?_ | refine dL_ixL ?_ | refine dL_o ?_
  | refine dT_var rfl ?_ | refine dT_ixL ?_ | refine dT_ixT ?_ | refine dT_tup ?_ | refine dT_slT ?_ | refine dT_catT ?_
  | refine de_var rfl ?_ | refine dX_ixO rfl ?_ | refine dX_ixT ?_ | refine dX_ixL ?_ | refine de_tup ?_ | refine de_c rfl ?_ | refine de_if ?_ | refine Do.de (do_lst ?_) | refine de_catTT ?_ | refine de_slTT ?_
  | refine dI_e (dI_op0 ?_) | refine dI_e (dI_op ?_) | refine dI_e (dI_un ?_) | refine dI_e (dI_lenO rfl ?_) | refine dI_e (dI_lenL ?_) | refine dI_e (dI_abs ?_) | refine dI_e (dI_two ?_) | refine dI_e (dI_intB ?_)
  | refine dB_e (dB_op0 ?_) | refine dB_e (dB_eqI ?_) | refine dB_e (dB_neI ?_) | refine dB_e (dB_inI ?_) | refine dB_e (dB_not ?_) | refine dB_e (dB_and ?_) | refine dB_e (dB_or ?_) | refine dB_e (dB_chain ?_) | refine dB_e (dB_eqD ?_) | refine dB_e (dB_neD ?_)
  | refine dt_tB ?_ | refine dt_tTest ?_ | refine dt_not ?_ | refine dt_and ?_ | refine dt_or ?_ | refine dt_yes ?_
  | refine da_nil ?_ | refine da_cons ?_ | refine dp_no ?_ | refine dp_partI ?_
  | refine di_rngI ?_ | refine di_listL ?_ | refine di_zipL ?_ | refine di_enumL ?_
  | refine do_lck rfl ?_ | refine do_lst ?_ | refine do_catL ?_ | refine do_slLL ?_ | refine do_revL ?_
  | refine dg_nm rfl ?_ | refine dg_name rfl (by simp) ?_ | refine dg_tup rfl ?_ | refine dgs_cons ?_ | refine dgs_nil ?_))
local macro_rules | `(tactic| walk_at "de") => `(tactic| (repeat (first | walk_at "de1" | (refine ⟨_, rfl, ?_⟩))))
local macro_rules | `(tactic| walk_at "nrm") => `(tactic| (try dsimp only [List.set, toD, wipeR, List.map, pairD, beadD, lookD]))

local macro_rules | `(tactic| walk_at "dg") => `(tactic| ((repeat (with_reducible first | refine dg_tup rfl ?_ | refine dg_unl rfl ?_ | refine dgs_cons ?_ | refine dgs_nil ?_ | refine dg_name rfl (by simp) ?_)); walk_at "nrm"))
abbrev sLawTurned : Stmt := topS 33
theorem scLawTurned : FnScope ["line", "door", "way"] ["line"] (defScope sLawTurned) := ⟨rfl, rfl, rfl, by decide +kernel, rfl, by decide +kernel, by decide +kernel⟩
abbrev sLawCounted : Stmt := topS 34
theorem scLawCounted : FnScope ["home", "first", "line", "now", "many", "door", "way"] ["home", "first", "line"] (defScope sLawCounted) := ⟨rfl, rfl, rfl, by decide +kernel, rfl, by decide +kernel, by decide +kernel⟩
abbrev sLawPiecesRight : Stmt := topS 35
theorem scLawPiecesRight : FnScope ["home", "first", "passed", "last", "found", "at", "early", "amid", "late", "one", "other", "many"] ["home", "first", "passed", "last", "found", "at"] (defScope sLawPiecesRight) := ⟨rfl, rfl, rfl, by decide +kernel, rfl, by decide +kernel, by decide +kernel⟩
def spTurned (K : PySem.W.Frag) : Sp := spD (ι := List Gg) K Wn [] (fun L => [.list (L.map ggD)]) (fun L _ => L.length ≤ 1000) (fun L _ _ s => ∃ a, s = .own a ((turnL L).map ggD))
def spCounted (K : PySem.W.Frag) : Sp := spD (ι := Ld1) K Wn [] (fun i => [houseD i.n i.ds, intsD i.B, .list (i.row.map ggD)]) (fun i _ => i.Ok) (fun i _ _ s => s = .d (.tuple [intsD (fM i.ds i.row), intsD (fN i.ds i.B i.row)]))
theorem len_like {ds : List (Nat × Nat)} {B B' : List Int} {L L' : List Gg} (h : Rn ds B L) (h' : Rn ds B' L') (e : fM ds L = fM ds L') : L.length = L'.length := by
  have h1 := (fM_sum rfl h).1
  have h2 := (fM_sum rfl h').1
  rw [e] at h1; omega
structure Pc1 where
  n : Nat
  ds : List (Nat × Nat)
  B : List Int
  row : List Gg
  k : Nat
structure Pc1.Ok (i : Pc1) : Prop where
  doors : Doors i.n i.ds
  r1 : i.n ≤ 10
  d1 : i.ds.length ≤ 100
  lB : i.B.length = i.n
  b : ∀ x ∈ i.B, 0 ≤ x
  r : Rn i.ds i.B i.row
  l : i.row.length ≤ 1000
  kl : i.k ≤ i.row.length
def spPcs24 (K : PySem.W.Frag) : Sp := spD (ι := Pc1) K Wn [] (fun i => [houseD i.n i.ds, intsD i.B, intsD (fM i.ds i.row), intsD (fN i.ds i.B i.row), .list (i.row.map ggD), .int (i.k : Int)]) (fun i _ => i.Ok) (fun i _ _ s => s = .d (.bool true))
section
variable {P : Program} {w : World} {K : PySem.W.Frag} {mg : Str → Option Value} {base : Heap}
theorem ok_turned {f : Addr} {fd : FuncData} (F : Fun K "_law_turned" "_law_turned" sLawTurned f fd) : FnG P w K mg base 1 f fd ["line"] (spTurned K) := by
  have sc := scLawTurned
  refine fnG_of F scLawTurned (fun vs H Q E h => spD_len h fun i => rfl) (fun cdv A outer s H vs Q E hr hg h => ?_)
  refine ⟨_, (pss_one (ps_ret (pe_lc (own := [("door", 1), ("way", 2)]) (g := gTup K 2 (gCons (gName 1) (gCons (gName 2) gNil))) (tt := tYes) (by rfl) sc.nd  (pi_list (pe_revL (pv 0))) (blkOk_by (own := [("door", 1), ("way", 2)]) (N := ["line", "door", "way"]) (sc := defScope sLawTurned) (by decide +kernel)) (fun _ _ _ _ _ => (pg_tup (by rfl) (pgs_cons (pg_name (i := 1) sc.nd rfl (.inl rfl)) (pgs_cons (pg_name (i := 2) sc.nd rfl (.inl rfl)) pgs_nil)))) (fun _ _ _ _ _ => pts_nil) (fun _ _ _ _ _ => (pe_tup (pa_cons (pv 1) (pa_cons (pe_op op_sub pe_int (pv 2)) pa_nil))))))), ?_⟩
  try dsimp only [cxOf, L2.Cx.nox]
  refine fn_ds (fun L : List Gg => [.d (.list (L.map ggD)), .un, .un]) h (fun i => rfl) fun L ν hl => ?_
  refine ds_retO (do_lck rfl (di_listL (dL_o (do_revL (de_var rfl ⟨_, rfl, ?_⟩)))))
  rw [← List.map_reverse]
  refine lcM ggD L.reverse (fun x => ggD (turnG x)) (szL (n := L.reverse.length) (by rw [List.length_reverse]; omega)) rfl (fun x hx => ?_) ?_
  · walk_at "dg"
    walk_at "de"
    exact ⟨szd rfl, rfl, rfl⟩
  · intro Ar
    exact ⟨Ar, by unfold turnL; rw [List.map_map]; rfl⟩
theorem ok_counted {f : Addr} {fd : FuncData} (F : Fun K "_law_counted" "_law_counted" sLawCounted f fd) (m_list : mg "list" = none) (m_len : mg "len" = none) : FnG P w K mg base 1 f fd ["home", "first", "line"] (spCounted K) := by
  have sc := scLawCounted
  refine fnG_of F scLawCounted (fun vs H Q E h => spD_len h fun i => rfl) (fun cdv A outer s H vs Q E hr hg h => ?_)
  refine ⟨_, (pss_cons (ps_set (i := 3) sc.nd rfl (.inl rfl) (pe_callTy call_list_of (by rfl) m_list (by decide +kernel) (pa_cons (pv 1) pa_nil)))
  (pss_cons (ps_set (i := 4) sc.nd rfl (.inl rfl) (pe_op op_rep (pe_lst (pa_cons pe_int pa_nil)) (pe_callB call_len_seq (by rfl) m_len PySem.boot_len (pa_cons (pe_ix ix_tup (pv 0) pe_int (fun _ _ => rfl)) pa_nil))))
  (pss_cons (ps_for PassesOwn.never rfl (pi_list (pv 2)) (pg_tup (by rfl) (pgs_cons (pg_name (i := 5) sc.nd rfl (.inl rfl)) (pgs_cons (pg_name (i := 6) sc.nd rfl (.inl rfl)) pgs_nil)))
    (pss_cons (ps_augS (pv 3) (pe_ix ix_tup (pe_ix ix_list (pe_ix ix_tup (pv 0) pe_int (fun _ _ => rfl)) (pv 5) (fun _ _ => rfl)) (pv 6) (fun _ _ => rfl)) get_list pe_int ip_sub set_list)
  (pss_cons (ps_augS (pv 3) (pe_ix ix_tup (pe_ix ix_list (pe_ix ix_tup (pv 0) pe_int (fun _ _ => rfl)) (pv 5) (fun _ _ => rfl)) (pe_op op_sub pe_int (pv 6)) (fun _ _ => rfl)) get_list pe_int ip_add set_list)
  (pss_one (ps_augS (pv 4) (pv 5) get_list pe_int ip_add set_list)))))
  (pss_one (ps_ret (pe_tup (pa_cons (pv 4) (pa_cons (pv 3) pa_nil)))))))), ?_⟩
  try dsimp only [cxOf, L2.Cx.nox]
  refine fn_ds (fun i : Ld1 => [.d (houseD i.n i.ds), .d (intsD i.B), .d (.list (i.row.map ggD)), .un, .un, .un, .un]) h (fun i => rfl) fun i ν hi => ?_
  obtain ⟨n, ds, B, row⟩ := i
  obtain ⟨hD, hr1, hd1, lB, hR, hl⟩ := hi
  dsimp only at hD hr1 hd1 lB hR hl ⊢
  refine ds_seq (ds_setO rfl (by simp) (do_listL (dL_var rfl fun An => ?_)))
  walk_at "nrm"
  refine ds_seq (ds_setO rfl (by simp) (do_rep ?_))
  walk_at "de"
  refine ⟨szd rfl, dI_e ?_⟩
  walk_at "de"
  rw [List.length_map]
  refine ⟨[.int 0], _, rfl, rfl, by omega, by omega, by rw [Int.toNat_natCast]; show 1 * ds.length ≤ sizeLine; unfold sizeLine; omega, fun Am => ?_⟩
  rw [Int.toNat_natCast, flat_rep0]
  walk_at "nrm"
  refine ds_seq (ds_fork (di_listL (dL_var rfl ?_)))
  refine forN [5, 6] ggD row rfl (fun i r => r = [.d (houseD n ds), .d (intsD B), .d (.list (row.map ggD)), .own An ((fN ds B (row.take i)).map .int), .own Am ((fM ds (row.take i)).map .int), .un, .un]) rfl (by rw [List.take_zero]; rfl) (fun i x ν1 r0 ha hI => ?_) (fun ν2 ρ' hv hI => ?_)
  · subst hI
    have g := hR.at_ i x ha
    have eN : fN ds B (row.take (i + 1)) = stepTo ds (fN ds B (row.take i)) x := by rw [take_snoc ha, fN_snoc]
    have eM : fM ds (row.take (i + 1)) = addM (fM ds (row.take i)) x := by rw [take_snoc ha, fM_snoc]
    rw [eN, eM]
    have lN : (fN ds B (row.take i)).length = n := by rw [fN_len, lB]
    have lM : (fM ds (row.take i)).length = ds.length := fM_len _ _
    generalize fN ds B (row.take i) = F at g lN
    generalize fM ds (row.take i) = M at lM
    obtain ⟨dr, wy⟩ := x
    obtain ⟨q1, q2, q3, q4, q5⟩ := g
    dsimp only at q1 q2 q3 q4
    have q2 : dr < ds.length := q2
    obtain ⟨d, ed, ed'⟩ := at_lt (f := pairD) q1 q2
    obtain ⟨w1, w2⟩ := way_at ed' q3 q4
    rw [Int.toNat_of_nonneg q1] at w1 w2
    obtain ⟨o1, o2⟩ := rooms_of hD (x := (dr, wy)) q1 q2
    walk_at "dg"
    refine ds_seq (ds_augSI rfl ?_)
    walk_at "de"
    refine ⟨_, ed, ?_⟩
    walk_at "de"
    refine ⟨_, w1, outOf ds (dr, wy), _, rfl, get_ints (by omega), ?_⟩
    walk_at "de"
    rw [← List.map_set]
    walk_at "nrm"
    refine ds_seq (ds_augSI rfl ?_)
    walk_at "de"
    refine ⟨_, ed, ?_⟩
    walk_at "de"
    refine ⟨_, w2, intoOf ds (dr, wy), _, rfl, get_ints (by rw [List.length_set]; omega), ?_⟩
    walk_at "de"
    rw [← List.map_set]
    walk_at "nrm"
    refine ds_augSI rfl ?_
    walk_at "de"
    refine ⟨dr.toNat, _, by omega, get_ints (by omega), ?_⟩
    walk_at "de"
    rw [← List.map_set]
    exact ⟨rfl, rfl⟩
  · rw [List.take_of_length_le (Nat.le_refl _)] at hI
    refine ds_wipe [5, 6] hv ?_
    rw [hI]
    refine ds_freeze 3 rfl ?_
    refine ds_freeze 4 rfl ?_
    walk_at "nrm"
    refine ds_ret ?_
    walk_at "de"
    exact ⟨szd rfl, rfl⟩
theorem ok_pieces {f : Addr} {fd : FuncData} (F : Fun K "_law_pieces_right" "_law_pieces_right" sLawPiecesRight f fd) (cal_law_counted : Cg P w K mg base 1 "_law_counted" (spCounted K)) (cal_law_leads : Cg P w K mg base 2 "_law_leads" (spLeads K)) (cal_goings_fault : Cg P w K mg base 3 "goings_fault" (spFault K)) (cal_goings : Cg P w K mg base 5 "goings" (spGoings K)) (m_zip : mg "zip" = none) : FnG P w K mg base 6 f fd ["home", "first", "passed", "last", "found", "at"] (spPcs24 K) := by
  have sc := scLawPiecesRight
  refine fnG_of F scLawPiecesRight (fun vs H Q E h => spD_len h fun i => rfl) (fun cdv A outer s H vs Q E hr hg h => ?_)
  refine ⟨_, (pss_cons (ps_asg (pe_g cal_law_counted hg hr (by first | decide | exact Nat.le_refl _ | omega) (by rfl) (pa_cons (pv 0) (pa_cons (pv 1) (pa_cons (pe_slice sl_list (pv 4) po_none (po_some (pv 5))) pa_nil)))) (pg_tup (by rfl) (pgs_cons (pg_name (i := 6) sc.nd rfl (.inl rfl)) (pgs_cons (pg_name (i := 7) sc.nd rfl (.inl rfl)) pgs_nil))))
  (pss_cons (ps_setLc (i := 8) (own := [("many", 11), ("one", 9)]) (g := gTup K 2 (gCons (gName 11) (gCons (gName 9) gNil))) (tt := tYes) (by rfl) sc.nd rfl rfl (sw_true rfl rfl rfl (by decide +kernel)) (pi_zip (by rfl) m_zip (pa_cons (pv 2) (pa_cons (pv 6) pa_nil))) (blkOk_by (own := [("many", 11), ("one", 9)]) (N := ["home", "first", "passed", "last", "found", "at", "early", "amid", "late", "one", "other", "many"]) (sc := defScope sLawPiecesRight) (by decide +kernel)) (fun _ _ _ _ _ => (pg_tup (by rfl) (pgs_cons (pg_name (i := 11) sc.nd rfl (.inl rfl)) (pgs_cons (pg_name (i := 9) sc.nd rfl (.inl rfl)) pgs_nil)))) (fun _ _ _ _ _ => pts_nil) (fun _ _ _ _ _ => (pe_op op_sub (pv 11) (pv 9))))
  (pss_cons (ps_set (i := 9) sc.nd rfl (.inl rfl) (pe_g cal_goings hg hr (by first | decide | exact Nat.le_refl _ | omega) (by rfl) (pa_cons (pv 0) (pa_cons (pv 1) (pa_cons (pv 6) (pa_cons (pv 7) pa_nil))))))
  (pss_cons (ps_set (i := 10) sc.nd rfl (.inl rfl) (pe_g cal_goings hg hr (by first | decide | exact Nat.le_refl _ | omega) (by rfl) (pa_cons (pv 0) (pa_cons (pv 7) (pa_cons (pv 8) (pa_cons (pv 3) pa_nil))))))
  (pss_cons (ps_if (PW.pt (pw_or (pt_not (pt_val (pe_g cal_law_leads hg hr (by first | decide | exact Nat.le_refl _ | omega) (by rfl) (pa_cons (pv 0) (pa_cons (pv 1) (pa_cons (pv 6) (pa_cons (pv 7) (pa_cons (pv 9) pa_nil)))))))) (pw_or1 (pt_not (pt_val (pe_g cal_law_leads hg hr (by first | decide | exact Nat.le_refl _ | omega) (by rfl) (pa_cons (pv 0) (pa_cons (pv 7) (pa_cons (pv 8) (pa_cons (pv 3) (pa_cons (pv 10) pa_nil)))))))))))
    (pss_one (ps_ret pe_bl))
    pss_nil)
  (pss_one (ps_ret (pe_cmpR op_isN (pe_g cal_goings_fault hg hr (by first | decide | exact Nat.le_refl _ | omega) (by rfl) (pa_cons (pv 0) (pa_cons (pv 1) (pa_cons (pv 2) (pa_cons (pv 3) (pa_cons (pe_op op_cat (pv 9) (pv 10)) pa_nil)))))) pe_non (nomark _))))))))), ?_⟩
  try dsimp only [cxOf, L2.Cx.nox]
  refine fn_ds (fun i : Pc1 => [.d (houseD i.n i.ds), .d (intsD i.B), .d (intsD (fM i.ds i.row)), .d (intsD (fN i.ds i.B i.row)), .d (.list (i.row.map ggD)), .d (.int (i.k : Int)), .un, .un, .un, .un, .un, .un]) h (fun i => rfl) fun i ν hi => ?_
  obtain ⟨n, ds, B, row, k⟩ := i
  obtain ⟨hD, hr1, hd1, lB, hb, hR, hl, hk⟩ := hi
  dsimp only at hD hr1 hd1 lB hb hR hl hk ⊢
  have hT := hR.take k
  have hd := hR.drop k
  have eL : row.take k ++ row.drop k = row := List.take_append_drop k row
  have lT : (row.take k).length = k := by rw [List.length_take]; omega
  have lD : (row.drop k).length = row.length - k := List.length_drop
  have eE : fN ds (fN ds B (row.take k)) (row.drop k) = fN ds B row := by rw [← fN_app, eL]
  have eM : ∀ i, i < ds.length → (fM ds row).getD i 0 = (fM ds (row.take k)).getD i 0 + (fM ds (row.drop k)).getD i 0 := fun i hi => by rw [← fM_app_at hi, eL]
  have lA : (fN ds B (row.take k)).length = n := by rw [fN_len, lB]
  have bA := nn_of hD lB hb hT
  have g1 := gok_of hr1 hd1 hD lB hb hT (by omega) rfl rfl
  have g2 := gok_of hr1 hd1 hD lA bA hd (by omega) rfl eE
  have late : ((List.range ds.length).map fun i => PyData.int ((fM ds row).getD i 0 - (fM ds (row.take k)).getD i 0)) = (fM ds (row.drop k)).map .int := by
    have : ((List.range ds.length).map fun i => (fM ds row).getD i 0 - (fM ds (row.take k)).getD i 0) = fM ds (row.drop k) := by
      refine ext_at (by rw [List.length_map, List.length_range, fM_len]) fun i hi => ?_
      rw [List.length_map, List.length_range] at hi
      have := eM i hi
      rw [List.getD_eq_getElem?_getD, List.getElem?_map, List.getElem?_range hi]
      show (fM ds row).getD i 0 - (fM ds (row.take k)).getD i 0 = _
      omega
    rw [← this, List.map_map]; rfl
  refine ds_seq (ds_asg (de_call0 ?_))
  walk_at "de"
  have ec : cutD (row.map ggD) none (some (k : Int)) = (row.take k).map ggD := by
    unfold cutD
    have h0 : HT.sIx (row.map ggD).length 0 none = 0 := rfl
    have h1 : HT.sIx (row.map ggD).length (row.map ggD).length (some (k : Int)) = k := by
      rw [HT.sIx_nat, List.length_map]; omega
    rw [h0, h1, List.drop_zero, Nat.sub_zero, List.map_take]
  refine Do.de (do_slLL (dL_var rfl (dp_no (dp_partI (dI_var rfl ?_)))))
  rw [ec]
  refine da_nil ?_
  refine ⟨⟨n, ds, B, row.take k⟩, rfl, ⟨hD, hr1, by show ds.length ≤ 100; omega, lB, hT, by show (row.take k).length ≤ 100000; omega⟩, fun nn s hs => ⟨_, hs, ?_⟩⟩
  walk_at "dg"
  have lE1 := fM_len ds (row.take k)
  have lP := fM_len ds row
  refine ds_seq (ds_set rfl (Do.de (do_lck rfl (di_zipL (dL_var rfl (dL_var rfl ?_))))))
  rw [zipR lP lE1]
  refine lcM (fun i => .tuple [.int ((fM ds row).getD i 0), .int ((fM ds (row.take k)).getD i 0)]) (List.range ds.length) (fun i => .int ((fM ds row).getD i 0 - (fM ds (row.take k)).getD i 0)) (szL (n := (List.range ds.length).length) (by rw [List.length_range]; omega)) rfl (fun x hx => ?_) ?_
  · walk_at "dg"
    walk_at "de"
    exact ⟨rfl, rfl⟩
  rw [late]
  walk_at "nrm"
  refine ds_seq (ds_set rfl (Do.de (do_call0 ?_)))
  walk_at "de"
  refine ⟨⟨⟨n, ds, fM ds (row.take k)⟩, B, fN ds B (row.take k)⟩, rfl, g1, fun nn s hs => ?_⟩
  obtain ⟨A1, r1, rfl, R1, N1, M1⟩ := hs
  refine ⟨_, _, rfl, ?_⟩
  walk_at "nrm"
  refine ds_seq (ds_set rfl (Do.de (do_call0 ?_)))
  walk_at "de"
  refine ⟨⟨⟨n, ds, fM ds (row.drop k)⟩, fN ds B (row.take k), fN ds B row⟩, rfl, g2, fun nn s hs => ?_⟩
  obtain ⟨A2, r2, rfl, R2, N2, M2⟩ := hs
  refine ⟨_, _, rfl, ?_⟩
  walk_at "nrm"
  have R1 : Rn ds B r1 := R1
  have N1 : fN ds B r1 = fN ds B (row.take k) := N1
  have M1 : fM ds r1 = fM ds (row.take k) := M1
  have R2 : Rn ds (fN ds B (row.take k)) r2 := R2
  have N2 : fN ds (fN ds B (row.take k)) r2 = fN ds B row := N2
  have M2 : fM ds r2 = fM ds (row.drop k) := M2
  have l1 : r1.length = k := by have := len_like R1 hT M1; omega
  have l2 : r2.length = row.length - k := by have := len_like R2 hd M2; omega
  refine ds_seq (ds_if (dt_or (dt_not (dt_tB (dB_call0 ?_)))))
  walk_at "de"
  refine ⟨⟨n, ds, B, r1⟩, by rw [M1, N1], ⟨hD, hr1, hd1, lB, R1, by show r1.length ≤ 100000; omega⟩, fun nn s hs => ⟨true, hs, (fun z => nomatch z), fun _ => dt_not (dt_tB (dB_call0 ?_))⟩⟩
  walk_at "de"
  refine ⟨⟨n, ds, fN ds B (row.take k), r2⟩, by rw [M2, N2]; rfl, ⟨hD, hr1, hd1, lA, R2, by show r2.length ≤ 100000; omega⟩, fun nn s hs => ⟨true, hs, (fun z => nomatch z), fun _ => ds_next ?_⟩⟩
  have R3 : Rn ds B (r1 ++ r2) := R1.app (by rw [N1]; exact R2)
  have N3 : fN ds B (r1 ++ r2) = fN ds B row := by rw [fN_app, N1, N2]
  have M3 : fM ds (r1 ++ r2) = fM ds row := by
    refine ext_at (by rw [fM_len, fM_len]) fun i hi => ?_
    rw [fM_len] at hi
    rw [fM_app_at hi, M1, M2, eM i hi]
  have nf : faultOf ⟨n, ds, B, fM ds row, fN ds B row, r1 ++ r2⟩ = .none := by have := no_fault (n := n) R3; rw [N3, M3] at this; exact this
  refine ds_ret (dB_e (dB_isN (de_call0 ?_)))
  walk_at "de"
  refine Do.de (do_catL (dL_var rfl (dL_var rfl ⟨by rw [List.length_map, List.length_map]; unfold sizeLine; omega, ?_⟩)))
  rw [← List.map_append]
  refine da_nil ?_
  refine ⟨⟨n, ds, B, fM ds row, fN ds B row, r1 ++ r2⟩, rfl, ⟨hD, by show n ≤ 100; omega, hd1, lB, fM_len _ _, by show (fN ds B row).length = n; rw [fN_len, lB], by show (r1 ++ r2).length ≤ 100000; rw [List.length_append]; omega⟩, fun nn s hs => ⟨_, hs, ?_⟩⟩
  rw [nf]
  rfl
end
end Bd
set_option maxHeartbeats 4000000
namespace Bd
open PySem PySem.Spec PyProof.Rows L2 HT
local macro_rules | `(tactic| walk_at "de1") => `(tactic| (with_reducible first
  | refine dI_var rfl ?_ | refine dI_c ?_ | refine dI_op0 ?_ | refine dI_op ?_ | refine dI_un ?_ | refine dI_ixO rfl ?_ | refine dI_ixT ?_ | refine dI_ixL ?_ | refine dI_if ?_ | refine dI_lenO rfl ?_ | refine dI_lenL ?_ | refine dI_abs ?_ | refine dI_two ?_ | refine dI_intB ?_
  | refine dB_var rfl ?_ | refine dB_c ?_ | refine dB_op0 ?_ | refine dB_eqI ?_ | refine dB_neI ?_ | refine dB_inI ?_ | refine dB_not ?_ | refine dB_and ?_ | refine dB_or ?_ | refine dB_chain ?_ | refine dB_eqD ?_ | refine dB_neD ?_ | refine dB_isi ?_
  | refine dL_var rfl ?_ | refine dL_ixO rfl ?_ | refine dL_ixT ?_ | refine dL_ixL ?_ | refine dL_o ?_
  | refine dT_var rfl ?_ | refine dT_ixL ?_ | refine dT_ixT ?_ | refine dT_tup ?_ | refine dT_slT ?_ | refine dT_catT ?_
  | refine de_var rfl ?_ | refine dX_ixO rfl ?_ | refine dX_ixT ?_ | refine dX_ixL ?_ | refine de_tup ?_ | refine de_c rfl ?_ | refine de_if ?_ | refine Do.de (do_lst ?_) | refine de_catTT ?_ | refine de_slTT ?_
  | refine dI_e (dI_op0 ?_) | refine dI_e (dI_op ?_) | refine dI_e (dI_un ?_) | refine dI_e (dI_lenO rfl ?_) | refine dI_e (dI_lenL ?_) | refine dI_e (dI_abs ?_) | refine dI_e (dI_two ?_) | refine dI_e (dI_intB ?_)
  | refine dB_e (dB_op0 ?_) | refine dB_e (dB_eqI ?_) | refine dB_e (dB_neI ?_) | refine dB_e (dB_inI ?_) | refine dB_e (dB_not ?_) | refine dB_e (dB_and ?_) | refine dB_e (dB_or ?_) | refine dB_e (dB_chain ?_) | refine dB_e (dB_eqD ?_) | refine dB_e (dB_neD ?_)
  | refine dt_tB ?_ | refine dt_tTest ?_ | refine dt_not ?_ | refine dt_and ?_ | refine dt_or ?_ | refine dt_yes ?_
  | refine da_nil ?_ | refine da_cons ?_ | refine dp_no ?_ | refine dp_partI ?_
  | refine di_rngI ?_ | refine di_listL ?_ | refine di_zipL ?_ | refine di_enumL ?_
  | refine do_lck rfl ?_ | refine do_lst ?_ | refine do_catL ?_ | refine do_slLL ?_ | refine do_revL ?_
  | refine dg_nm rfl ?_ | refine dg_name rfl (by simp) ?_ | refine dg_tup rfl ?_ | refine dgs_cons ?_ | refine dgs_nil ?_))
local macro_rules | `(tactic| walk_at "de") => `(tactic| (repeat (first | walk_at "de1" | (refine ⟨_, rfl, ?_⟩))))
local macro_rules | `(tactic| walk_at "nrm") => `(tactic| (try dsimp only [List.set, toD, wipeR, List.map, pairD, beadD, lookD]))

local macro_rules | `(tactic| walk_at "dp") => `(tactic| (repeat (first | walk_at "de1" | (refine ⟨_, rfl, ?_⟩) | (refine dI_take rfl ?_) | (refine dI_e (dI_take rfl ?_)) | (refine ⟨by omega, by omega, fun r h0 h1 => ?_⟩) | (refine ⟨szd rfl, ?_⟩) | (refine ⟨(⟨by decide, by decide, by decide⟩ : CPow _ _), ?_⟩))))

local macro_rules | `(tactic| walk_at "dk") => `(tactic| (repeat (first | walk_at "de1" | (refine ⟨_, rfl, ?_⟩) | (with_reducible refine dI_lenKO rfl ?_) | (with_reducible refine dI_lenKL ?_) | (refine ⟨szd rfl, ?_⟩) | (with_reducible refine de_listL ?_) | (with_reducible refine dB_notN ?_))))

abbrev sLaw : Stmt := topS 36
theorem scLaw : FnScope ["script", "purse", "turn", "home", "first", "line", "passed", "last", "found", "back", "twice", "many"] ["script"] (defScope sLaw) := ⟨rfl, rfl, rfl, by decide +kernel, rfl, by decide +kernel, by decide +kernel⟩
section
variable {P : Program} {w : World} {K : PySem.W.Frag} {mg : Str → Option Value} {base : Heap}
theorem ok_law {f : Addr} {fd : FuncData} (F : Fun K "law" "law" sLaw f fd) (cal_law_purse : Cg P w K mg base 1 "_law_purse" (spPurse K)) (cal_law_take : Cg P w K mg base 1 "_law_take" spTake) (cal_law_home : Cg P w K mg base 2 "_law_home" (spHome K)) (cal_law_folk : Cg P w K mg base 2 "_law_folk" (spFolkP K)) (cal_law_walk : Cg P w K mg base 2 "_law_walk" (spWalk K)) (cal_law_leads : Cg P w K mg base 2 "_law_leads" (spLeads K)) (cal_law_turned : Cg P w K mg base 1 "_law_turned" (spTurned K)) (cal_law_pieces_right : Cg P w K mg base 6 "_law_pieces_right" (spPcs24 K)) (cal_goings_fault : Cg P w K mg base 3 "goings_fault" (spFault K)) (cal_goings : Cg P w K mg base 5 "goings" (spGoings K))
    (m_range : mg "range" = none) (m_min : mg "min" = none) (m_len : mg "len" = none) : FnG P w K mg base 7 f fd ["script"] (spLaw K) := by
  have sc := scLaw
  refine fnG_of F scLaw (fun vs H Q E h => by obtain ⟨a, ns, rfl, _⟩ := h; rfl) (fun cdv A outer s H vs Q E hr hg h => ?_)
  obtain ⟨a, ns, rfl, hS, hlen, q⟩ := h
  refine ⟨_, (pss_cons (ps_set (i := 1) sc.nd rfl (.inl rfl) (pe_g cal_law_purse hg hr (by first | decide | exact Nat.le_refl _ | omega) (by rfl) (pa_cons (pv 0) pa_nil)))
  (pss_cons (ps_for PassesOwn.never rfl (pi_range1 (by rfl) m_range (pa_cons (pe_op op_add pe_int (pe_callB (call_min2 rfl) (by rfl) m_min (by decide +kernel) (pa_cons (pe_callB call_len_seq (by rfl) m_len PySem.boot_len (pa_cons (pv 0) pa_nil)) (pa_cons pe_int pa_nil)))) pa_nil)) (pg_name (i := 2) sc.nd rfl (.inl rfl))
    (pss_cons (ps_set (i := 3) sc.nd rfl (.inl rfl) (pe_g cal_law_home hg hr (by first | decide | exact Nat.le_refl _ | omega) (by rfl) (pa_cons (pv 1) (pa_cons pe_int (pa_cons pe_int pa_nil)))))
  (pss_cons (ps_set (i := 4) sc.nd rfl (.inl rfl) (pe_g cal_law_folk hg hr (by first | decide | exact Nat.le_refl _ | omega) (by rfl) (pa_cons (pv 1) (pa_cons (pe_ix ix_tup (pv 3) pe_int (fun _ _ => rfl)) pa_nil))))
  (pss_cons (ps_asg (pe_g cal_law_walk hg hr (by first | decide | exact Nat.le_refl _ | omega) (by rfl) (pa_cons (pv 1) (pa_cons (pv 3) (pa_cons (pv 4) (pa_cons (pe_g cal_law_take hg hr (by first | decide | exact Nat.le_refl _ | omega) (by rfl) (pa_cons (pv 1) (pa_cons (pe_ix ix_list (pe_lst (pa_cons pe_int (pa_cons pe_int pa_nil))) (pe_g cal_law_take hg hr (by first | decide | exact Nat.le_refl _ | omega) (by rfl) (pa_cons (pv 1) (pa_cons pe_int pa_nil))) (fun _ _ => rfl)) pa_nil))) pa_nil))))) (pg_tup (by rfl) (pgs_cons (pg_name (i := 5) sc.nd rfl (.inl rfl)) (pgs_cons (pg_name (i := 6) sc.nd rfl (.inl rfl)) (pgs_cons (pg_name (i := 7) sc.nd rfl (.inl rfl)) pgs_nil)))))
  (pss_cons (ps_set (i := 8) sc.nd rfl (.inl rfl) (pe_g cal_goings hg hr (by first | decide | exact Nat.le_refl _ | omega) (by rfl) (pa_cons (pv 3) (pa_cons (pv 4) (pa_cons (pv 6) (pa_cons (pv 7) pa_nil))))))
  (pss_cons (ps_if (pt_not (pt_val (pe_g cal_law_leads hg hr (by first | decide | exact Nat.le_refl _ | omega) (by rfl) (pa_cons (pv 3) (pa_cons (pv 4) (pa_cons (pv 6) (pa_cons (pv 7) (pa_cons (pv 8) pa_nil))))))))
    (pss_one (ps_ret pe_bl))
    pss_nil)
  (pss_cons (ps_if (pt_not (pt_val (pe_g cal_law_leads hg hr (by first | decide | exact Nat.le_refl _ | omega) (by rfl) (pa_cons (pv 3) (pa_cons (pv 7) (pa_cons (pv 6) (pa_cons (pv 4) (pa_cons (pe_g cal_law_turned hg hr (by first | decide | exact Nat.le_refl _ | omega) (by rfl) (pa_cons (pv 8) pa_nil)) pa_nil))))))))
    (pss_one (ps_ret pe_bl))
    pss_nil)
  (pss_cons (ps_set (i := 9) sc.nd rfl (.inl rfl) (pe_g cal_goings hg hr (by first | decide | exact Nat.le_refl _ | omega) (by rfl) (pa_cons (pv 3) (pa_cons (pv 7) (pa_cons (pv 6) (pa_cons (pv 4) pa_nil))))))
  (pss_cons (ps_if (pt_not (pt_val (pe_g cal_law_leads hg hr (by first | decide | exact Nat.le_refl _ | omega) (by rfl) (pa_cons (pv 3) (pa_cons (pv 7) (pa_cons (pv 6) (pa_cons (pv 4) (pa_cons (pv 9) pa_nil))))))))
    (pss_one (ps_ret pe_bl))
    pss_nil)
  (pss_cons (ps_if (pt_not (pt_val (pe_g cal_law_pieces_right hg hr (by first | decide | exact Nat.le_refl _ | omega) (by rfl) (pa_cons (pv 3) (pa_cons (pv 4) (pa_cons (pv 6) (pa_cons (pv 7) (pa_cons (pv 8) (pa_cons (pe_g cal_law_take hg hr (by first | decide | exact Nat.le_refl _ | omega) (by rfl) (pa_cons (pv 1) (pa_cons (pe_op op_add (pe_callB call_len_seq (by rfl) m_len PySem.boot_len (pa_cons (pv 8) pa_nil)) pe_int) pa_nil))) pa_nil)))))))))
    (pss_one (ps_ret pe_bl))
    pss_nil)
  (pss_cons (ps_setLc (i := 10) (own := [("many", 11)]) (g := gName 11) (tt := tYes) (by rfl) sc.nd rfl rfl (sw_true rfl rfl rfl (by decide +kernel)) (pi_list (pv 6)) (blkOk_by (own := [("many", 11)]) (N := ["script", "purse", "turn", "home", "first", "line", "passed", "last", "found", "back", "twice", "many"]) (sc := defScope sLaw) (by decide +kernel)) (fun _ _ _ _ _ => (pg_name (i := 11) sc.nd rfl (.inl rfl))) (fun _ _ _ _ _ => pts_nil) (fun _ _ _ _ _ => (pe_op op_mul pe_int (pv 11))))
  (pss_cons (ps_if (pt_cmpR op_notN (pe_g cal_goings_fault hg hr (by first | decide | exact Nat.le_refl _ | omega) (by rfl) (pa_cons (pv 3) (pa_cons (pv 4) (pa_cons (pv 10) (pa_cons (pv 4) (pa_cons (pe_op op_cat (pv 8) (pv 9)) pa_nil)))))) pe_non (nomark _))
    (pss_one (ps_ret pe_bl))
    pss_nil)
  (pss_one (ps_if (pt_not (pt_val (pe_g cal_law_leads hg hr (by first | decide | exact Nat.le_refl _ | omega) (by rfl) (pa_cons (pv 3) (pa_cons (pv 4) (pa_cons (pv 10) (pa_cons (pv 4) (pa_cons (pe_g cal_goings hg hr (by first | decide | exact Nat.le_refl _ | omega) (by rfl) (pa_cons (pv 3) (pa_cons (pv 4) (pa_cons (pv 10) (pa_cons (pv 4) pa_nil))))) pa_nil))))))))
    (pss_one (ps_ret pe_bl))
    pss_nil))))))))))))))
  (pss_one (ps_ret pe_bl)))), ?_⟩
  dsimp only [cxOf, L2.Cx.nox]
  refine law_runP hS q fun G hG => ?_
  show Ds K (Wg G) [.at (.ref a), .un, .un, .un, .un, .un, .un, .un, .un, .un, .un, .un] _ _ _
  refine ds_purse rfl hG hlen rfl fun p g => ?_
  walk_at "nrm"
  refine ds_seq (ds_fork (di_rngI (dI_op0 (dI_c (dI_two (dI_lenG rfl hG ?_))))))
  walk_at "dp"
  obtain ⟨n, en, hn⟩ : ∃ n : Nat, (1 + if (2 : Int) < (ns.length : Int) then (2 : Int) else (ns.length : Int)) = (n : Int) ∧ n ≤ 3 := by
    refine ⟨(1 + if (2 : Int) < (ns.length : Int) then (2 : Int) else (ns.length : Int)).toNat, ?_, ?_⟩ <;> split <;> omega
  rw [en]
  refine ⟨by omega, by omega, ?_⟩
  rw [Int.toNat_natCast, rngD_map]
  refine forN [2, 3, 4, 5, 6, 7, 8, 9, 10, 11] (fun (i : Nat) => PyData.int (i : Int)) (List.range n) rfl (fun _ r => r = [.at (.ref a), .at (.ref p), .un, .un, .un, .un, .un, .un, .un, .un, .un, .un]) rfl rfl (fun i k ν1 r0 ha hI => ?_) (fun ν2 ρ' hv hI => ?_)
  · subst hI
    refine dg_nm rfl ?_
    walk_at "nrm"
    refine ds_seq (ds_set rfl (de_callP rfl ?_))
    walk_at "dp"
    refine ⟨(10, 24), rfl, ⟨by decide, by decide, by decide⟩, fun ν2 s hs => ?_⟩
    obtain ⟨rooms, ds, rfl, hr0, hr1, hd, hD⟩ := hs
    have hr1 : rooms ≤ 10 := hr1
    have hd : ds.length ≤ 24 := hd
    refine ⟨_, rfl, ?_⟩
    walk_at "nrm"
    refine ds_seq (ds_set rfl (de_callP rfl ?_))
    walk_at "dp"
    refine ⟨by omega, fun ν3 s hs => ?_⟩
    obtain ⟨B, rfl, hB, hb⟩ := hs
    refine ⟨_, rfl, ?_⟩
    walk_at "nrm"
    refine ds_seq (ds_asg (de_callP rfl ?_))
    walk_at "dp"
    rename_i r3 r3a r3b
    obtain ⟨big, eb, b0, b1⟩ : ∃ m : Int, atD [toD (V.int 15), toD (V.int 121)] r3 = some (.int m) ∧ 0 < m ∧ m ≤ 121 := by
      rcases (by omega : r3 = 0 ∨ r3 = 1) with rfl | rfl
      · exact ⟨15, rfl, by decide, by decide⟩
      · exact ⟨121, rfl, by decide, by decide⟩
    refine ⟨big, eb, b0, Int.lt_of_le_of_lt b1 (by decide), fun m m0 m1 => ?_⟩
    obtain ⟨many, rfl⟩ := Int.eq_ofNat_of_zero_le m0
    refine da_nil ?_
    refine ⟨⟨rooms, ds, B, many⟩, rfl, ⟨hD, hd, hB, by show many ≤ 400; omega⟩, fun ν4 s hs => ?_⟩
    obtain ⟨L, rfl, hL, hR⟩ := hs
    have hL : L.length ≤ many := hL
    have hR : Rn ds B L := hR
    refine ⟨_, rfl, ?_⟩
    walk_at "dp"
    walk_at "nrm"
    have lE : (fN ds B L).length = rooms := by rw [fN_len, hB]
    have bE := nn_of hD hB hb hR
    obtain ⟨hT, eT⟩ := Rn.turn hD hB hb rfl hR
    have hd : ds.length ≤ 100 := by omega
    have g1 := gok_of hr1 hd hD hB hb hR (by omega) rfl rfl
    have g2 := gok_of hr1 hd hD lE bE hT (by rw [turn_len]; omega) (fM_turn ds L) eT
    refine ds_seq (ds_set rfl (Do.de (do_call0 ?_)))
    walk_at "dk"
    refine ⟨⟨⟨rooms, ds, fM ds L⟩, B, fN ds B L⟩, rfl, g1, fun nn s hs => ?_⟩
    obtain ⟨A1, r1, rfl, R1, N1, M1⟩ := hs
    have R1 : Rn ds B r1 := R1
    have N1 : fN ds B r1 = fN ds B L := N1
    have M1 : fM ds r1 = fM ds L := M1
    have l1 := len_like R1 hR M1
    refine ⟨_, _, rfl, ?_⟩
    walk_at "nrm"
    refine ds_seq (ds_if (dt_not (dt_tB (dB_call0 ?_))))
    walk_at "dk"
    refine ⟨⟨rooms, ds, B, r1⟩, by rw [M1, N1], ⟨hD, hr1, hd, hB, R1, by show r1.length ≤ 100000; omega⟩, fun nn s hs => ⟨true, hs, (fun z => nomatch z), fun _ => ds_next ?_⟩⟩
    refine ds_seq (ds_if (dt_not (dt_tB (dB_call0 ?_))))
    walk_at "dk"
    refine Do.de (do_call0 ?_)
    walk_at "dk"
    refine ⟨by show r1.length ≤ 1000; omega, fun nn s hs => ?_⟩
    obtain ⟨A2, rfl⟩ := hs
    refine ⟨_, _, rfl, da_nil ?_⟩
    obtain ⟨hT1, eT1⟩ := Rn.turn hD hB hb rfl R1
    rw [N1] at hT1 eT1
    refine ⟨⟨rooms, ds, fN ds B L, turnL r1⟩, by rw [fM_turn, M1, eT1], ⟨hD, hr1, hd, lE, hT1, by show (turnL r1).length ≤ 100000; rw [turn_len]; omega⟩, fun nn s hs => ⟨true, hs, (fun z => nomatch z), fun _ => ds_next ?_⟩⟩
    refine ds_seq (ds_set rfl (Do.de (do_call0 ?_)))
    walk_at "dk"
    refine ⟨⟨⟨rooms, ds, fM ds L⟩, fN ds B L, B⟩, rfl, g2, fun nn s hs => ?_⟩
    obtain ⟨A3, r2, rfl, R2, N2, M2⟩ := hs
    have R2 : Rn ds (fN ds B L) r2 := R2
    have N2 : fN ds (fN ds B L) r2 = B := N2
    have M2 : fM ds r2 = fM ds L := M2
    have l2 := len_like R2 hR M2
    refine ⟨_, _, rfl, ?_⟩
    walk_at "nrm"
    refine ds_seq (ds_if (dt_not (dt_tB (dB_call0 ?_))))
    walk_at "dk"
    refine ⟨⟨rooms, ds, fN ds B L, r2⟩, by rw [M2, N2], ⟨hD, hr1, hd, lE, R2, by show r2.length ≤ 100000; omega⟩, fun nn s hs => ⟨true, hs, (fun z => nomatch z), fun _ => ds_next ?_⟩⟩
    refine ds_seq (ds_if (dt_not (dt_tB (dB_call0 ?_))))
    walk_at "dp"
    rw [List.length_map]
    refine ⟨by omega, Int.lt_of_le_of_lt (show (r1.length : Int) + 1 ≤ 122 by omega) (by decide), fun at_ at0 at1 => da_nil ?_⟩
    obtain ⟨at_, rfl⟩ := Int.eq_ofNat_of_zero_le at0
    refine ⟨⟨rooms, ds, B, r1, at_⟩, by rw [M1, N1], ⟨hD, hr1, hd, hB, hb, R1, by show r1.length ≤ 1000; omega, by show at_ ≤ r1.length; omega⟩, fun nn s hs => ⟨true, hs, (fun z => nomatch z), fun _ => ds_next ?_⟩⟩
    -- twice
    refine ds_seq (ds_set rfl (Do.de (do_lck rfl (di_listL (dL_var rfl ?_)))))
    refine lcM PyData.int (fM ds L) (fun c => .int (2 * c)) (szL (n := (fM ds L).length) (by rw [fM_len]; omega)) rfl (fun x hx => ?_) ?_
    · walk_at "nrm"
      walk_at "dp"
      exact ⟨.inl (by decide), rfl, rfl⟩
    have eD : ((fM ds L).map fun c => PyData.int (2 * c)) = ((fM ds L).map fun c => 2 * c).map .int := by rw [List.map_map]; rfl
    rw [eD]
    walk_at "nrm"
    have hW : Rn ds B (L ++ turnL L) := hR.app hT
    have mW : fM ds (L ++ turnL L) = (fM ds L).map fun c => 2 * c := twice_at (n := rooms) (B := B) L (turnL L) (fM_turn ds L)
    have nW : fN ds B (L ++ turnL L) = B := by rw [fN_app, eT]
    have hV : Rn ds B (r1 ++ r2) := R1.app (by rw [N1]; exact R2)
    have mV : fM ds (r1 ++ r2) = (fM ds L).map fun c => 2 * c := by rw [twice_at (n := rooms) (B := B) r1 r2 (by rw [M2, M1]), M1]
    have nV : fN ds B (r1 ++ r2) = B := by rw [fN_app, N1, N2]
    have lW : (L ++ turnL L).length ≤ 300 := by rw [List.length_append, turn_len]; omega
    have lV : (r1 ++ r2).length ≤ 300 := by rw [List.length_append]; omega
    have lC : ((fM ds L).map fun c => 2 * c).length = ds.length := by rw [List.length_map, fM_len]
    have g3 := gok_of hr1 hd hD hB hb hW (by omega) mW nW
    generalize ((fM ds L).map fun c => 2 * c) = C2 at mW mV lC g3
    have nf : faultOf ⟨rooms, ds, B, C2, B, r1 ++ r2⟩ = .none := by have := no_fault (n := rooms) hV; rw [nV, mV] at this; exact this
    refine ds_seq (ds_if ?_)
    walk_at "dk"
    refine de_call0 ?_
    walk_at "dk"
    refine Do.de (do_catL (dL_var rfl (dL_var rfl ⟨by rw [List.length_map, List.length_map]; rw [List.length_append] at lV; unfold sizeLine; omega, ?_⟩)))
    rw [← List.map_append]
    refine da_nil ?_
    refine ⟨⟨rooms, ds, B, C2, B, r1 ++ r2⟩, rfl, ⟨hD, by show rooms ≤ 100; omega, hd, hB, lC, hB, by show (r1 ++ r2).length ≤ 100000; omega⟩, fun nn s hs => ⟨_, hs, ?_⟩⟩
    rw [nf]
    refine ⟨(fun z => nomatch z), fun _ => ds_next ?_⟩
    refine ds_if (dt_not (dt_tB (dB_call0 ?_)))
    walk_at "dk"
    refine Do.de (do_call0 ?_)
    walk_at "dk"
    refine ⟨⟨⟨rooms, ds, C2⟩, B, B⟩, rfl, g3, fun nn s hs => ?_⟩
    obtain ⟨A5, r5, rfl, R5, N5, M5⟩ := hs
    have R5 : Rn ds B r5 := R5
    have N5 : fN ds B r5 = B := N5
    have M5 : fM ds r5 = C2 := M5
    have l5 := len_like R5 hW (by rw [M5, mW])
    refine ⟨_, _, rfl, da_nil ?_⟩
    refine ⟨⟨rooms, ds, B, r5⟩, by rw [M5, N5]; rfl, ⟨hD, hr1, hd, hB, R5, by show r5.length ≤ 100000; omega⟩, fun nn s hs => ⟨true, hs, (fun z => nomatch z), fun _ => ds_next ⟨rfl, rfl⟩⟩⟩
  · refine ds_wipe [2, 3, 4, 5, 6, 7, 8, 9, 10, 11] hv ?_
    rw [hI]
    refine ds_ret ?_
    walk_at "dp"
    rfl
end
end Bd
namespace Bd
open PySem PySem.Spec PyProof.Rows L2 HT
theorem all_mk {P : Program} {w : World} {K : PySem.W.Frag} {h : Heap} {mg : Str → Option Value} {fa : Addr} (X : K.In h) (G : h.Ns mainGlobals mg) (hfa : mg "law" = some (.ref fa))
    {f0 : Addr} {od0 an0 : Option Addr} {sl0 : Array (Option Value)} {oc0 kV0 dc0 pm0 cd0 ct0 : Value} (a0 : PySem.W.nsIn K mainGlobals "through" = some (some (.ref f0)))
    (l0 : K.lookup f0 = some ⟨oc0, od0, .func (PySem.W.fnOf "through" "through" (defArgs sThrough) (defBody sThrough) (defScope sThrough) .none kV0 dc0 pm0 an0 cd0 ct0), sl0⟩) (c0 : PySem.W.codeIn K cd0 "through" = true) (k0 : PySem.W.keepIn K (.ref f0) = true)
    {f1 : Addr} {od1 an1 : Option Addr} {sl1 : Array (Option Value)} {oc1 kV1 dc1 pm1 cd1 ct1 : Value} (a1 : PySem.W.nsIn K mainGlobals "go" = some (some (.ref f1)))
    (l1 : K.lookup f1 = some ⟨oc1, od1, .func (PySem.W.fnOf "go" "go" (defArgs sGo) (defBody sGo) (defScope sGo) .none kV1 dc1 pm1 an1 cd1 ct1), sl1⟩) (c1 : PySem.W.codeIn K cd1 "go" = true) (k1 : PySem.W.keepIn K (.ref f1) = true)
    {f2 : Addr} {od2 an2 : Option Addr} {sl2 : Array (Option Value)} {oc2 kV2 dc2 pm2 cd2 ct2 : Value} (a2 : PySem.W.nsIn K mainGlobals "met" = some (some (.ref f2)))
    (l2 : K.lookup f2 = some ⟨oc2, od2, .func (PySem.W.fnOf "met" "met" (defArgs sMet) (defBody sMet) (defScope sMet) .none kV2 dc2 pm2 an2 cd2 ct2), sl2⟩) (c2 : PySem.W.codeIn K cd2 "met" = true) (k2 : PySem.W.keepIn K (.ref f2) = true)
    {f3 : Addr} {od3 an3 : Option Addr} {sl3 : Array (Option Value)} {oc3 kV3 dc3 pm3 cd3 ct3 : Value} (a3 : PySem.W.nsIn K mainGlobals "parts" = some (some (.ref f3)))
    (l3 : K.lookup f3 = some ⟨oc3, od3, .func (PySem.W.fnOf "parts" "parts" (defArgs sParts) (defBody sParts) (defScope sParts) .none kV3 dc3 pm3 an3 cd3 ct3), sl3⟩) (c3 : PySem.W.codeIn K cd3 "parts" = true) (k3 : PySem.W.keepIn K (.ref f3) = true)
    {f4 : Addr} {od4 an4 : Option Addr} {sl4 : Array (Option Value)} {oc4 kV4 dc4 pm4 cd4 ct4 : Value} (a4 : PySem.W.nsIn K mainGlobals "lot_of" = some (some (.ref f4)))
    (l4 : K.lookup f4 = some ⟨oc4, od4, .func (PySem.W.fnOf "lot_of" "lot_of" (defArgs sLotOf) (defBody sLotOf) (defScope sLotOf) .none kV4 dc4 pm4 an4 cd4 ct4), sl4⟩) (c4 : PySem.W.codeIn K cd4 "lot_of" = true) (k4 : PySem.W.keepIn K (.ref f4) = true)
    {f5 : Addr} {od5 an5 : Option Addr} {sl5 : Array (Option Value)} {oc5 kV5 dc5 pm5 cd5 ct5 : Value} (a5 : PySem.W.nsIn K mainGlobals "lot_sums" = some (some (.ref f5)))
    (l5 : K.lookup f5 = some ⟨oc5, od5, .func (PySem.W.fnOf "lot_sums" "lot_sums" (defArgs sLotSums) (defBody sLotSums) (defScope sLotSums) .none kV5 dc5 pm5 an5 cd5 ct5), sl5⟩) (c5 : PySem.W.codeIn K cd5 "lot_sums" = true) (k5 : PySem.W.keepIn K (.ref f5) = true)
    {f6 : Addr} {od6 an6 : Option Addr} {sl6 : Array (Option Value)} {oc6 kV6 dc6 pm6 cd6 ct6 : Value} (a6 : PySem.W.nsIn K mainGlobals "odd_ones" = some (some (.ref f6)))
    (l6 : K.lookup f6 = some ⟨oc6, od6, .func (PySem.W.fnOf "odd_ones" "odd_ones" (defArgs sOddOnes) (defBody sOddOnes) (defScope sOddOnes) .none kV6 dc6 pm6 an6 cd6 ct6), sl6⟩) (c6 : PySem.W.codeIn K cd6 "odd_ones" = true) (k6 : PySem.W.keepIn K (.ref f6) = true)
    {f7 : Addr} {od7 an7 : Option Addr} {sl7 : Array (Option Value)} {oc7 kV7 dc7 pm7 cd7 ct7 : Value} (a7 : PySem.W.nsIn K mainGlobals "_between" = some (some (.ref f7)))
    (l7 : K.lookup f7 = some ⟨oc7, od7, .func (PySem.W.fnOf "_between" "_between" (defArgs sBetween) (defBody sBetween) (defScope sBetween) .none kV7 dc7 pm7 an7 cd7 ct7), sl7⟩) (c7 : PySem.W.codeIn K cd7 "_between" = true) (k7 : PySem.W.keepIn K (.ref f7) = true)
    {f8 : Addr} {od8 an8 : Option Addr} {sl8 : Array (Option Value)} {oc8 kV8 dc8 pm8 cd8 ct8 : Value} (a8 : PySem.W.nsIn K mainGlobals "paper_of" = some (some (.ref f8)))
    (l8 : K.lookup f8 = some ⟨oc8, od8, .func (PySem.W.fnOf "paper_of" "paper_of" (defArgs sPaperOf) (defBody sPaperOf) (defScope sPaperOf) .none kV8 dc8 pm8 an8 cd8 ct8), sl8⟩) (c8 : PySem.W.codeIn K cd8 "paper_of" = true) (k8 : PySem.W.keepIn K (.ref f8) = true)
    {f9 : Addr} {od9 an9 : Option Addr} {sl9 : Array (Option Value)} {oc9 kV9 dc9 pm9 cd9 ct9 : Value} (a9 : PySem.W.nsIn K mainGlobals "_odd_rooms" = some (some (.ref f9)))
    (l9 : K.lookup f9 = some ⟨oc9, od9, .func (PySem.W.fnOf "_odd_rooms" "_odd_rooms" (defArgs sOddRooms) (defBody sOddRooms) (defScope sOddRooms) .none kV9 dc9 pm9 an9 cd9 ct9), sl9⟩) (c9 : PySem.W.codeIn K cd9 "_odd_rooms" = true) (k9 : PySem.W.keepIn K (.ref f9) = true)
    {f10 : Addr} {od10 an10 : Option Addr} {sl10 : Array (Option Value)} {oc10 kV10 dc10 pm10 cd10 ct10 : Value} (a10 : PySem.W.nsIn K mainGlobals "_empty_parts" = some (some (.ref f10)))
    (l10 : K.lookup f10 = some ⟨oc10, od10, .func (PySem.W.fnOf "_empty_parts" "_empty_parts" (defArgs sEmptyParts) (defBody sEmptyParts) (defScope sEmptyParts) .none kV10 dc10 pm10 an10 cd10 ct10), sl10⟩) (c10 : PySem.W.codeIn K cd10 "_empty_parts" = true) (k10 : PySem.W.keepIn K (.ref f10) = true)
    {f11 : Addr} {od11 an11 : Option Addr} {sl11 : Array (Option Value)} {oc11 kV11 dc11 pm11 cd11 ct11 : Value} (a11 : PySem.W.nsIn K mainGlobals "_first_least" = some (some (.ref f11)))
    (l11 : K.lookup f11 = some ⟨oc11, od11, .func (PySem.W.fnOf "_first_least" "_first_least" (defArgs sFirstLeast) (defBody sFirstLeast) (defScope sFirstLeast) .none kV11 dc11 pm11 an11 cd11 ct11), sl11⟩) (c11 : PySem.W.codeIn K cd11 "_first_least" = true) (k11 : PySem.W.keepIn K (.ref f11) = true)
    {f12 : Addr} {od12 an12 : Option Addr} {sl12 : Array (Option Value)} {oc12 kV12 dc12 pm12 cd12 ct12 : Value} (a12 : PySem.W.nsIn K mainGlobals "goings" = some (some (.ref f12)))
    (l12 : K.lookup f12 = some ⟨oc12, od12, .func (PySem.W.fnOf "goings" "goings" (defArgs sGoings) (defBody sGoings) (defScope sGoings) .none kV12 dc12 pm12 an12 cd12 ct12), sl12⟩) (c12 : PySem.W.codeIn K cd12 "goings" = true) (k12 : PySem.W.keepIn K (.ref f12) = true)
    {f13 : Addr} {od13 an13 : Option Addr} {sl13 : Array (Option Value)} {oc13 kV13 dc13 pm13 cd13 ct13 : Value} (a13 : PySem.W.nsIn K mainGlobals "goings_fault" = some (some (.ref f13)))
    (l13 : K.lookup f13 = some ⟨oc13, od13, .func (PySem.W.fnOf "goings_fault" "goings_fault" (defArgs sGoingsFault) (defBody sGoingsFault) (defScope sGoingsFault) .none kV13 dc13 pm13 an13 cd13 ct13), sl13⟩) (c13 : PySem.W.codeIn K cd13 "goings_fault" = true) (k13 : PySem.W.keepIn K (.ref f13) = true)
    {f14 : Addr} {od14 an14 : Option Addr} {sl14 : Array (Option Value)} {oc14 kV14 dc14 pm14 cd14 ct14 : Value} (a14 : PySem.W.nsIn K mainGlobals "_split" = some (some (.ref f14)))
    (l14 : K.lookup f14 = some ⟨oc14, od14, .func (PySem.W.fnOf "_split" "_split" (defArgs sSplit) (defBody sSplit) (defScope sSplit) .none kV14 dc14 pm14 an14 cd14 ct14), sl14⟩) (c14 : PySem.W.codeIn K cd14 "_split" = true) (k14 : PySem.W.keepIn K (.ref f14) = true)
    {f15 : Addr} {od15 an15 : Option Addr} {sl15 : Array (Option Value)} {oc15 kV15 dc15 pm15 cd15 ct15 : Value} (a15 : PySem.W.nsIn K mainGlobals "_most_across" = some (some (.ref f15)))
    (l15 : K.lookup f15 = some ⟨oc15, od15, .func (PySem.W.fnOf "_most_across" "_most_across" (defArgs sMostAcross) (defBody sMostAcross) (defScope sMostAcross) .none kV15 dc15 pm15 an15 cd15 ct15), sl15⟩) (c15 : PySem.W.codeIn K cd15 "_most_across" = true) (k15 : PySem.W.keepIn K (.ref f15) = true)
    {f16 : Addr} {od16 an16 : Option Addr} {sl16 : Array (Option Value)} {oc16 kV16 dc16 pm16 cd16 ct16 : Value} (a16 : PySem.W.nsIn K mainGlobals "_next_going" = some (some (.ref f16)))
    (l16 : K.lookup f16 = some ⟨oc16, od16, .func (PySem.W.fnOf "_next_going" "_next_going" (defArgs sNextGoing) (defBody sNextGoing) (defScope sNextGoing) .none kV16 dc16 pm16 an16 cd16 ct16), sl16⟩) (c16 : PySem.W.codeIn K cd16 "_next_going" = true) (k16 : PySem.W.keepIn K (.ref f16) = true)
    {f17 : Addr} {od17 an17 : Option Addr} {sl17 : Array (Option Value)} {oc17 kV17 dc17 pm17 cd17 ct17 : Value} (a17 : PySem.W.nsIn K mainGlobals "_goes_well" = some (some (.ref f17)))
    (l17 : K.lookup f17 = some ⟨oc17, od17, .func (PySem.W.fnOf "_goes_well" "_goes_well" (defArgs sGoesWell) (defBody sGoesWell) (defScope sGoesWell) .none kV17 dc17 pm17 an17 cd17 ct17), sl17⟩) (c17 : PySem.W.codeIn K cd17 "_goes_well" = true) (k17 : PySem.W.keepIn K (.ref f17) = true)
    {f18 : Addr} {od18 an18 : Option Addr} {sl18 : Array (Option Value)} {oc18 kV18 dc18 pm18 cd18 ct18 : Value} (a18 : PySem.W.nsIn K mainGlobals "_law_purse" = some (some (.ref f18)))
    (l18 : K.lookup f18 = some ⟨oc18, od18, .func (PySem.W.fnOf "_law_purse" "_law_purse" (defArgs sLawPurse) (defBody sLawPurse) (defScope sLawPurse) .none kV18 dc18 pm18 an18 cd18 ct18), sl18⟩) (c18 : PySem.W.codeIn K cd18 "_law_purse" = true) (k18 : PySem.W.keepIn K (.ref f18) = true)
    {f19 : Addr} {od19 an19 : Option Addr} {sl19 : Array (Option Value)} {oc19 kV19 dc19 pm19 cd19 ct19 : Value} (a19 : PySem.W.nsIn K mainGlobals "_law_take" = some (some (.ref f19)))
    (l19 : K.lookup f19 = some ⟨oc19, od19, .func (PySem.W.fnOf "_law_take" "_law_take" (defArgs sLawTake) (defBody sLawTake) (defScope sLawTake) .none kV19 dc19 pm19 an19 cd19 ct19), sl19⟩) (c19 : PySem.W.codeIn K cd19 "_law_take" = true) (k19 : PySem.W.keepIn K (.ref f19) = true)
    {f20 : Addr} {od20 an20 : Option Addr} {sl20 : Array (Option Value)} {oc20 kV20 dc20 pm20 cd20 ct20 : Value} (a20 : PySem.W.nsIn K mainGlobals "_law_home" = some (some (.ref f20)))
    (l20 : K.lookup f20 = some ⟨oc20, od20, .func (PySem.W.fnOf "_law_home" "_law_home" (defArgs sLawHome) (defBody sLawHome) (defScope sLawHome) .none kV20 dc20 pm20 an20 cd20 ct20), sl20⟩) (c20 : PySem.W.codeIn K cd20 "_law_home" = true) (k20 : PySem.W.keepIn K (.ref f20) = true)
    {f21 : Addr} {od21 an21 : Option Addr} {sl21 : Array (Option Value)} {oc21 kV21 dc21 pm21 cd21 ct21 : Value} (a21 : PySem.W.nsIn K mainGlobals "_law_folk" = some (some (.ref f21)))
    (l21 : K.lookup f21 = some ⟨oc21, od21, .func (PySem.W.fnOf "_law_folk" "_law_folk" (defArgs sLawFolk) (defBody sLawFolk) (defScope sLawFolk) .none kV21 dc21 pm21 an21 cd21 ct21), sl21⟩) (c21 : PySem.W.codeIn K cd21 "_law_folk" = true) (k21 : PySem.W.keepIn K (.ref f21) = true)
    {f22 : Addr} {od22 an22 : Option Addr} {sl22 : Array (Option Value)} {oc22 kV22 dc22 pm22 cd22 ct22 : Value} (a22 : PySem.W.nsIn K mainGlobals "_law_steps" = some (some (.ref f22)))
    (l22 : K.lookup f22 = some ⟨oc22, od22, .func (PySem.W.fnOf "_law_steps" "_law_steps" (defArgs sLawSteps) (defBody sLawSteps) (defScope sLawSteps) .none kV22 dc22 pm22 an22 cd22 ct22), sl22⟩) (c22 : PySem.W.codeIn K cd22 "_law_steps" = true) (k22 : PySem.W.keepIn K (.ref f22) = true)
    {f23 : Addr} {od23 an23 : Option Addr} {sl23 : Array (Option Value)} {oc23 kV23 dc23 pm23 cd23 ct23 : Value} (a23 : PySem.W.nsIn K mainGlobals "_law_walk" = some (some (.ref f23)))
    (l23 : K.lookup f23 = some ⟨oc23, od23, .func (PySem.W.fnOf "_law_walk" "_law_walk" (defArgs sLawWalk) (defBody sLawWalk) (defScope sLawWalk) .none kV23 dc23 pm23 an23 cd23 ct23), sl23⟩) (c23 : PySem.W.codeIn K cd23 "_law_walk" = true) (k23 : PySem.W.keepIn K (.ref f23) = true)
    {f24 : Addr} {od24 an24 : Option Addr} {sl24 : Array (Option Value)} {oc24 kV24 dc24 pm24 cd24 ct24 : Value} (a24 : PySem.W.nsIn K mainGlobals "_law_whole" = some (some (.ref f24)))
    (l24 : K.lookup f24 = some ⟨oc24, od24, .func (PySem.W.fnOf "_law_whole" "_law_whole" (defArgs sLawWhole) (defBody sLawWhole) (defScope sLawWhole) .none kV24 dc24 pm24 an24 cd24 ct24), sl24⟩) (c24 : PySem.W.codeIn K cd24 "_law_whole" = true) (k24 : PySem.W.keepIn K (.ref f24) = true)
    {f25 : Addr} {od25 an25 : Option Addr} {sl25 : Array (Option Value)} {oc25 kV25 dc25 pm25 cd25 ct25 : Value} (a25 : PySem.W.nsIn K mainGlobals "_law_leads" = some (some (.ref f25)))
    (l25 : K.lookup f25 = some ⟨oc25, od25, .func (PySem.W.fnOf "_law_leads" "_law_leads" (defArgs sLawLeads) (defBody sLawLeads) (defScope sLawLeads) .none kV25 dc25 pm25 an25 cd25 ct25), sl25⟩) (c25 : PySem.W.codeIn K cd25 "_law_leads" = true) (k25 : PySem.W.keepIn K (.ref f25) = true)
    {f26 : Addr} {od26 an26 : Option Addr} {sl26 : Array (Option Value)} {oc26 kV26 dc26 pm26 cd26 ct26 : Value} (a26 : PySem.W.nsIn K mainGlobals "_law_turned" = some (some (.ref f26)))
    (l26 : K.lookup f26 = some ⟨oc26, od26, .func (PySem.W.fnOf "_law_turned" "_law_turned" (defArgs sLawTurned) (defBody sLawTurned) (defScope sLawTurned) .none kV26 dc26 pm26 an26 cd26 ct26), sl26⟩) (c26 : PySem.W.codeIn K cd26 "_law_turned" = true) (k26 : PySem.W.keepIn K (.ref f26) = true)
    {f27 : Addr} {od27 an27 : Option Addr} {sl27 : Array (Option Value)} {oc27 kV27 dc27 pm27 cd27 ct27 : Value} (a27 : PySem.W.nsIn K mainGlobals "_law_counted" = some (some (.ref f27)))
    (l27 : K.lookup f27 = some ⟨oc27, od27, .func (PySem.W.fnOf "_law_counted" "_law_counted" (defArgs sLawCounted) (defBody sLawCounted) (defScope sLawCounted) .none kV27 dc27 pm27 an27 cd27 ct27), sl27⟩) (c27 : PySem.W.codeIn K cd27 "_law_counted" = true) (k27 : PySem.W.keepIn K (.ref f27) = true)
    {f28 : Addr} {od28 an28 : Option Addr} {sl28 : Array (Option Value)} {oc28 kV28 dc28 pm28 cd28 ct28 : Value} (a28 : PySem.W.nsIn K mainGlobals "_law_pieces_right" = some (some (.ref f28)))
    (l28 : K.lookup f28 = some ⟨oc28, od28, .func (PySem.W.fnOf "_law_pieces_right" "_law_pieces_right" (defArgs sLawPiecesRight) (defBody sLawPiecesRight) (defScope sLawPiecesRight) .none kV28 dc28 pm28 an28 cd28 ct28), sl28⟩) (c28 : PySem.W.codeIn K cd28 "_law_pieces_right" = true) (k28 : PySem.W.keepIn K (.ref f28) = true)
    {f29 : Addr} {od29 an29 : Option Addr} {sl29 : Array (Option Value)} {oc29 kV29 dc29 pm29 cd29 ct29 : Value} (a29 : PySem.W.nsIn K mainGlobals "law" = some (some (.ref f29)))
    (l29 : K.lookup f29 = some ⟨oc29, od29, .func (PySem.W.fnOf "law" "law" (defArgs sLaw) (defBody sLaw) (defScope sLaw) .none kV29 dc29 pm29 an29 cd29 ct29), sl29⟩) (c29 : PySem.W.codeIn K cd29 "law" = true) (k29 : PySem.W.keepIn K (.ref f29) = true)
    (z_abs : PySem.W.nsIn K mainGlobals "abs" = some none)
    (z_enumerate : PySem.W.nsIn K mainGlobals "enumerate" = some none)
    (z_len : PySem.W.nsIn K mainGlobals "len" = some none)
    (z_list : PySem.W.nsIn K mainGlobals "list" = some none)
    (z_range : PySem.W.nsIn K mainGlobals "range" = some none)
    (z_int : PySem.W.nsIn K mainGlobals "int" = some none)
    (z_min : PySem.W.nsIn K mainGlobals "min" = some none)
    (z_isinstance : PySem.W.nsIn K mainGlobals "isinstance" = some none)
    (z_bool : PySem.W.nsIn K mainGlobals "bool" = some none)
    (z_zip : PySem.W.nsIn K mainGlobals "zip" = some none)
    (z_sorted : PySem.W.nsIn K mainGlobals "sorted" = some none)
    (z_set : PySem.W.nsIn K mainGlobals "set" = some none)
    (z_any : PySem.W.nsIn K mainGlobals "any" = some none)
    (z_sum : PySem.W.nsIn K mainGlobals "sum" = some none)
    (z_all : PySem.W.nsIn K mainGlobals "all" = some none)
    (z_tuple : PySem.W.nsIn K mainGlobals "tuple" = some none)
    : ∃ fd : FuncData, (∀ (s : Shared) (v : Value), BindsTo s fd ⟨[v], []⟩ [("script", v)]) ∧ ∀ base : Heap, K.In base → base.Ns mainGlobals mg → FnG P w K mg base 7 fa fd ["script"] (spLaw K) := by
  have e := hfa.symm.trans (PySem.W.mg_of X G a29)
  cases e
  have F_through := fun_mk (st := sThrough) l0 c0 k0
  have b_through := F_through.binds (ps := ["house", "door", "way"]) fun _ _ _ _ _ _ us hl => match us, hl with | [_, _, _], _ => rfl
  have g_through := PySem.W.mg_of X G a0
  have F_go := fun_mk (st := sGo) l1 c1 k1
  have b_go := F_go.binds (ps := ["house", "numbers", "door", "way"]) fun _ _ _ _ _ _ us hl => match us, hl with | [_, _, _, _], _ => rfl
  have g_go := PySem.W.mg_of X G a1
  have F_met := fun_mk (st := sMet) l2 c2 k2
  have b_met := F_met.binds (ps := ["house", "counts"]) fun _ _ _ _ _ _ us hl => match us, hl with | [_, _], _ => rfl
  have g_met := PySem.W.mg_of X G a2
  have F_parts := fun_mk (st := sParts) l3 c3 k3
  have b_parts := F_parts.binds (ps := ["house", "counts"]) fun _ _ _ _ _ _ us hl => match us, hl with | [_, _], _ => rfl
  have g_parts := PySem.W.mg_of X G a3
  have F_lot_of := fun_mk (st := sLotOf) l4 c4 k4
  have b_lot_of := F_lot_of.binds (ps := ["rooms", "number"]) fun _ _ _ _ _ _ us hl => match us, hl with | [_, _], _ => rfl
  have g_lot_of := PySem.W.mg_of X G a4
  have F_lot_sums := fun_mk (st := sLotSums) l5 c5 k5
  have b_lot_sums := F_lot_sums.binds (ps := ["house", "counts", "weights"]) fun _ _ _ _ _ _ us hl => match us, hl with | [_, _, _], _ => rfl
  have g_lot_sums := PySem.W.mg_of X G a5
  have F_odd_ones := fun_mk (st := sOddOnes) l6 c6 k6
  have b_odd_ones := F_odd_ones.binds (ps := ["house", "begin", "counts"]) fun _ _ _ _ _ _ us hl => match us, hl with | [_, _, _], _ => rfl
  have g_odd_ones := PySem.W.mg_of X G a6
  have F__between := fun_mk (st := sBetween) l7 c7 k7
  have b__between := F__between.binds (ps := ["house", "counts"]) fun _ _ _ _ _ _ us hl => match us, hl with | [_, _], _ => rfl
  have g__between := PySem.W.mg_of X G a7
  have F_paper_of := fun_mk (st := sPaperOf) l8 c8 k8
  have b_paper_of := F_paper_of.binds (ps := ["house", "begin", "counts", "end"]) fun _ _ _ _ _ _ us hl => match us, hl with | [_, _, _, _], _ => rfl
  have g_paper_of := PySem.W.mg_of X G a8
  have F__odd_rooms := fun_mk (st := sOddRooms) l9 c9 k9
  have b__odd_rooms := F__odd_rooms.binds (ps := ["house", "begin", "counts", "end"]) fun _ _ _ _ _ _ us hl => match us, hl with | [_, _, _, _], _ => rfl
  have g__odd_rooms := PySem.W.mg_of X G a9
  have F__empty_parts := fun_mk (st := sEmptyParts) l10 c10 k10
  have b__empty_parts := F__empty_parts.binds (ps := ["house", "begin", "counts"]) fun _ _ _ _ _ _ us hl => match us, hl with | [_, _, _], _ => rfl
  have g__empty_parts := PySem.W.mg_of X G a10
  have F__first_least := fun_mk (st := sFirstLeast) l11 c11 k11
  have b__first_least := F__first_least.binds (ps := ["house", "sums"]) fun _ _ _ _ _ _ us hl => match us, hl with | [_, _], _ => rfl
  have g__first_least := PySem.W.mg_of X G a11
  have F_goings := fun_mk (st := sGoings) l12 c12 k12
  have b_goings := F_goings.binds (ps := ["house", "begin", "counts", "end"]) fun _ _ _ _ _ _ us hl => match us, hl with | [_, _, _, _], _ => rfl
  have g_goings := PySem.W.mg_of X G a12
  have F_goings_fault := fun_mk (st := sGoingsFault) l13 c13 k13
  have b_goings_fault := F_goings_fault.binds (ps := ["house", "begin", "counts", "end", "row"]) fun _ _ _ _ _ _ us hl => match us, hl with | [_, _, _, _, _], _ => rfl
  have g_goings_fault := PySem.W.mg_of X G a13
  have F__split := fun_mk (st := sSplit) l14 c14 k14
  have b__split := F__split.binds (ps := ["house", "begin", "counts", "end"]) fun _ _ _ _ _ _ us hl => match us, hl with | [_, _, _, _], _ => rfl
  have g__split := PySem.W.mg_of X G a14
  have F__most_across := fun_mk (st := sMostAcross) l15 c15 k15
  have b__most_across := F__most_across.binds (ps := ["sums", "a", "b"]) fun _ _ _ _ _ _ us hl => match us, hl with | [_, _, _], _ => rfl
  have g__most_across := PySem.W.mg_of X G a15
  have F__next_going := fun_mk (st := sNextGoing) l16 c16 k16
  have b__next_going := F__next_going.binds (ps := ["house", "numbers", "left"]) fun _ _ _ _ _ _ us hl => match us, hl with | [_, _, _], _ => rfl
  have g__next_going := PySem.W.mg_of X G a16
  have F__goes_well := fun_mk (st := sGoesWell) l17 c17 k17
  have b__goes_well := F__goes_well.binds (ps := ["house", "numbers", "left", "door", "way"]) fun _ _ _ _ _ _ us hl => match us, hl with | [_, _, _, _, _], _ => rfl
  have g__goes_well := PySem.W.mg_of X G a17
  have F__law_purse := fun_mk (st := sLawPurse) l18 c18 k18
  have b__law_purse := F__law_purse.binds (ps := ["script"]) fun _ _ _ _ _ _ us hl => match us, hl with | [_], _ => rfl
  have g__law_purse := PySem.W.mg_of X G a18
  have F__law_take := fun_mk (st := sLawTake) l19 c19 k19
  have b__law_take := F__law_take.binds (ps := ["purse", "many"]) fun _ _ _ _ _ _ us hl => match us, hl with | [_, _], _ => rfl
  have g__law_take := PySem.W.mg_of X G a19
  have F__law_home := fun_mk (st := sLawHome) l20 c20 k20
  have b__law_home := F__law_home.binds (ps := ["purse", "most", "doors"]) fun _ _ _ _ _ _ us hl => match us, hl with | [_, _, _], _ => rfl
  have g__law_home := PySem.W.mg_of X G a20
  have F__law_folk := fun_mk (st := sLawFolk) l21 c21 k21
  have b__law_folk := F__law_folk.binds (ps := ["purse", "rooms"]) fun _ _ _ _ _ _ us hl => match us, hl with | [_, _], _ => rfl
  have g__law_folk := PySem.W.mg_of X G a21
  have F__law_steps := fun_mk (st := sLawSteps) l22 c22 k22
  have b__law_steps := F__law_steps.binds (ps := ["home", "now"]) fun _ _ _ _ _ _ us hl => match us, hl with | [_, _], _ => rfl
  have g__law_steps := PySem.W.mg_of X G a22
  have F__law_walk := fun_mk (st := sLawWalk) l23 c23 k23
  have b__law_walk := F__law_walk.binds (ps := ["purse", "home", "first", "many"]) fun _ _ _ _ _ _ us hl => match us, hl with | [_, _, _, _], _ => rfl
  have g__law_walk := PySem.W.mg_of X G a23
  have F__law_whole := fun_mk (st := sLawWhole) l24 c24 k24
  have b__law_whole := F__law_whole.binds (ps := ["thing"]) fun _ _ _ _ _ _ us hl => match us, hl with | [_], _ => rfl
  have g__law_whole := PySem.W.mg_of X G a24
  have F__law_leads := fun_mk (st := sLawLeads) l25 c25 k25
  have b__law_leads := F__law_leads.binds (ps := ["home", "first", "passed", "last", "line"]) fun _ _ _ _ _ _ us hl => match us, hl with | [_, _, _, _, _], _ => rfl
  have g__law_leads := PySem.W.mg_of X G a25
  have F__law_turned := fun_mk (st := sLawTurned) l26 c26 k26
  have b__law_turned := F__law_turned.binds (ps := ["line"]) fun _ _ _ _ _ _ us hl => match us, hl with | [_], _ => rfl
  have g__law_turned := PySem.W.mg_of X G a26
  have F__law_counted := fun_mk (st := sLawCounted) l27 c27 k27
  have b__law_counted := F__law_counted.binds (ps := ["home", "first", "line"]) fun _ _ _ _ _ _ us hl => match us, hl with | [_, _, _], _ => rfl
  have g__law_counted := PySem.W.mg_of X G a27
  have F__law_pieces_right := fun_mk (st := sLawPiecesRight) l28 c28 k28
  have b__law_pieces_right := F__law_pieces_right.binds (ps := ["home", "first", "passed", "last", "found", "at"]) fun _ _ _ _ _ _ us hl => match us, hl with | [_, _, _, _, _, _], _ => rfl
  have g__law_pieces_right := PySem.W.mg_of X G a28
  have F_law := fun_mk (st := sLaw) l29 c29 k29
  have b_law := F_law.binds (ps := ["script"]) fun _ _ _ _ _ _ us hl => match us, hl with | [_], _ => rfl
  have g_law := PySem.W.mg_of X G a29
  have m_abs := PySem.W.mg_none_of X G z_abs
  have m_enumerate := PySem.W.mg_none_of X G z_enumerate
  have m_len := PySem.W.mg_none_of X G z_len
  have m_list := PySem.W.mg_none_of X G z_list
  have m_range := PySem.W.mg_none_of X G z_range
  have m_int := PySem.W.mg_none_of X G z_int
  have m_min := PySem.W.mg_none_of X G z_min
  have m_isinstance := PySem.W.mg_none_of X G z_isinstance
  have m_bool := PySem.W.mg_none_of X G z_bool
  have m_zip := PySem.W.mg_none_of X G z_zip
  have m_sorted := PySem.W.mg_none_of X G z_sorted
  have m_set := PySem.W.mg_none_of X G z_set
  have m_any := PySem.W.mg_none_of X G z_any
  have m_sum := PySem.W.mg_none_of X G z_sum
  have m_all := PySem.W.mg_none_of X G z_all
  have m_tuple := PySem.W.mg_none_of X G z_tuple
  refine ⟨PySem.W.fnOf "law" "law" (defArgs sLaw) (defBody sLaw) (defScope sLaw) .none kV29 dc29 pm29 an29 cd29 ct29, fun s v => .of_eq rfl, fun base _ _ => ?_⟩
  have D1 : Cg P w K mg base 1 "_law_take" spTake := ⟨_, _, _, ok_take F__law_take , g__law_take, F__law_take.kp, b__law_take⟩
  have D2 : Cg P w K mg base 1 "_law_purse" (spPurse K) := ⟨_, _, _, ok_purse F__law_purse m_abs, g__law_purse, F__law_purse.kp, b__law_purse⟩
  have D3 : Cg P w K mg base 1 "through" (spThrough K) := ⟨_, _, _, ok_through F_through , g_through, F_through.kp, b_through⟩
  have D4 : Cg P w K mg base 2 "go" (spGo K) := ⟨_, _, _, ok_go F_go D3, g_go, F_go.kp, b_go⟩
  have D5 : Cg P w K mg base 3 "goings_fault" (spFault K) := ⟨_, _, _, ok_fault F_goings_fault D3 D4 m_enumerate m_len m_list, g_goings_fault, F_goings_fault.kp, b_goings_fault⟩
  have D6 : Cg P w K mg base 2 "_law_home" (spHome K) := ⟨_, _, _, ok_home F__law_home D1 m_range m_int m_min, g__law_home, F__law_home.kp, b__law_home⟩
  have D7 : Cg P w K mg base 2 "_law_folk" (spFolkP K) := ⟨_, _, _, ok_folkP F__law_folk D1 m_range, g__law_folk, F__law_folk.kp, b__law_folk⟩
  have D8 : Cg P w K mg base 1 "_law_whole" (spWholeI K) := ⟨_, _, _, ok_wholeI F__law_whole m_isinstance m_int m_bool, g__law_whole, F__law_whole.kp, b__law_whole⟩
  have D9 : Cg P w K mg base 1 "_law_steps" (spSteps K) := ⟨_, _, _, ok_steps F__law_steps m_range m_len, g__law_steps, F__law_steps.kp, b__law_steps⟩
  have D10 : Cg P w K mg base 1 "met" (spMetD K) := ⟨_, _, _, ok_metP F_met m_zip, g_met, F_met.kp, b_met⟩
  have D11 : Cg P w K mg base 1 "lot_of" (spLotOfD K) := ⟨_, _, _, ok_lotOfD F_lot_of m_range, g_lot_of, F_lot_of.kp, b_lot_of⟩
  have D12 : Cg P w K mg base 2 "odd_ones" (spOddD K) := ⟨_, _, _, ok_oddD F_odd_ones D10 m_zip, g_odd_ones, F_odd_ones.kp, b_odd_ones⟩
  have D13 : Cg P w K mg base 2 "_first_least" (spFirstD K) := ⟨_, _, _, ok_firstD F__first_least D11 m_min, g__first_least, F__first_least.kp, b__first_least⟩
  have D14 : Cg P w K mg base 1 "parts" (spPartsD K) := ⟨_, _, _, ok_partsD F_parts m_list m_range m_zip m_sorted m_set, g_parts, F_parts.kp, b_parts⟩
  have D15 : Cg P w K mg base 2 "_empty_parts" (spEmptyPD K) := ⟨_, _, _, ok_emptyPD F__empty_parts D14 m_len m_any, g__empty_parts, F__empty_parts.kp, b__empty_parts⟩
  have D16 : Cg P w K mg base 1 "_between" (spBtwD K) := ⟨_, _, _, ok_btwD F__between m_range m_zip, g__between, F__between.kp, b__between⟩
  have D17 : Cg P w K mg base 2 "lot_sums" (spSumsD K) := ⟨_, _, _, ok_sumsD F_lot_sums D10 D16 m_range m_zip, g_lot_sums, F_lot_sums.kp, b_lot_sums⟩
  have D18 : Cg P w K mg base 3 "_odd_rooms" (spOddRD K) := ⟨_, _, _, ok_oddRD F__odd_rooms D12 m_enumerate, g__odd_rooms, F__odd_rooms.kp, b__odd_rooms⟩
  have D19 : Cg P w K mg base 4 "paper_of" (spPaper K) := ⟨_, _, _, ok_paper F_paper_of D18 D15 D17 D13 m_sum m_range m_zip m_min, g_paper_of, F_paper_of.kp, b_paper_of⟩
  have D20 : Cg P w K mg base 1 "_most_across" (spMost K) := ⟨_, _, _, ok_most F__most_across m_min m_enumerate, g__most_across, F__most_across.kp, b__most_across⟩
  have D21 : Cg P w K mg base 3 "_goes_well" (spWell K) := ⟨_, _, _, ok_well F__goes_well D3 D4 D14 m_list m_all m_len m_any, g__goes_well, F__goes_well.kp, b__goes_well⟩
  have D22 : Cg P w K mg base 4 "_next_going" (spNext K) := ⟨_, _, _, ok_next F__next_going D21 m_range m_len, g__next_going, F__next_going.kp, b__next_going⟩
  have D23 : Cg P w K mg base 3 "_split" (spSplit K) := ⟨_, _, _, ok_split F__split D17 D20 m_list m_zip m_enumerate m_min, g__split, F__split.kp, b__split⟩
  have D24 : Cg P w K mg base 5 "goings" (spGoings K) := ⟨_, _, _, ok_goings F_goings D19 D23 D22 D4 m_list m_range m_sum, g_goings, F_goings.kp, b_goings⟩
  have D25 : Cg P w K mg base 2 "_law_walk" (spWalk K) := ⟨_, _, _, ok_walk F__law_walk D1 D9 m_range m_len m_list, g__law_walk, F__law_walk.kp, b__law_walk⟩
  have D26 : Cg P w K mg base 2 "_law_leads" (spLeads K) := ⟨_, _, _, ok_leads F__law_leads D8 m_isinstance m_list m_tuple m_len, g__law_leads, F__law_leads.kp, b__law_leads⟩
  have D27 : Cg P w K mg base 1 "_law_turned" (spTurned K) := ⟨_, _, _, ok_turned F__law_turned , g__law_turned, F__law_turned.kp, b__law_turned⟩
  have D28 : Cg P w K mg base 1 "_law_counted" (spCounted K) := ⟨_, _, _, ok_counted F__law_counted m_list m_len, g__law_counted, F__law_counted.kp, b__law_counted⟩
  have D29 : Cg P w K mg base 6 "_law_pieces_right" (spPcs24 K) := ⟨_, _, _, ok_pieces F__law_pieces_right D28 D26 D5 D24 m_zip, g__law_pieces_right, F__law_pieces_right.kp, b__law_pieces_right⟩
  exact ok_law F_law D2 D1 D6 D7 D25 D26 D27 D29 D5 D24 m_range m_min m_len
theorem theWalk {l : PySem.W.OpenLaw} {q : Program} {loose : List Str} {XP : (Str → Option Value) → Heap → Prop} {YP : World → Heap → Prop} {d : DefRec} {K : Params → PySem.W.Frag} (hn : l.most = some 63) (hdf : d.params.defaults = [])
    (hY : ∀ (w : World) (h : Heap), YP w h → (K w.params).In h)
    (F : ∀ (w : World) (mg : Str → Option Value) (fa : Addr) (h : Heap), (K w.params).In h → h.Ns mainGlobals mg → mg d.name = some (.ref fa) →
      ∃ fd : FuncData, (∀ (s : Shared) (u : Value), BindsTo s fd ⟨[u], []⟩ [("script", u)]) ∧ ∀ base : Heap, (K w.params).In base → base.Ns mainGlobals mg → FnG l.prog w (K w.params) mg base 7 fa fd ["script"] (spLaw (K w.params))) :
    PySem.W.WalkO q loose XP YP l.row.toRowW d [] (fun f vs => PySem.call f vs) :=
  walkG hn hdf ⟨rfl, by decide, by decide⟩ hY F fun _ _ a ns hl hS => ⟨a, ns, rfl, hS, hl, fun _ => rfl⟩
end Bd
open PySem PySem.W PyProof.Rows
set_option maxRecDepth 100000 in
set_option maxHeartbeats 0 in
theorem PySem.Challenge.cw_bothdoors_k24_whole_back_and_in_pieces_holds : PySem.Challenge.rw_bothdoors_k24_whole_back_and_in_pieces.Holds := by
  w_on; o_law; k_head; (case hw => w_witness2)
  k_fill
  refine Bd.theWalk (l := PySem.Challenge.rw_bothdoors_k24_whole_back_and_in_pieces) rfl rfl (fun w h Y => PySem.W.kIn_of Y) ?F
  case F =>
    intro w mg fa h KX G hmg
    refine' Bd.all_mk KX G hmg ?a0 ?l0 ?c0 ?k0 ?a1 ?l1 ?c1 ?k1 ?a2 ?l2 ?c2 ?k2 ?a3 ?l3 ?c3 ?k3 ?a4 ?l4 ?c4 ?k4 ?a5 ?l5 ?c5 ?k5 ?a6 ?l6 ?c6 ?k6 ?a7 ?l7 ?c7 ?k7 ?a8 ?l8 ?c8 ?k8 ?a9 ?l9 ?c9 ?k9 ?a10 ?l10 ?c10 ?k10 ?a11 ?l11 ?c11 ?k11 ?a12 ?l12 ?c12 ?k12 ?a13 ?l13 ?c13 ?k13 ?a14 ?l14 ?c14 ?k14 ?a15 ?l15 ?c15 ?k15 ?a16 ?l16 ?c16 ?k16 ?a17 ?l17 ?c17 ?k17 ?a18 ?l18 ?c18 ?k18 ?a19 ?l19 ?c19 ?k19 ?a20 ?l20 ?c20 ?k20 ?a21 ?l21 ?c21 ?k21 ?a22 ?l22 ?c22 ?k22 ?a23 ?l23 ?c23 ?k23 ?a24 ?l24 ?c24 ?k24 ?a25 ?l25 ?c25 ?k25 ?a26 ?l26 ?c26 ?k26 ?a27 ?l27 ?c27 ?k27 ?a28 ?l28 ?c28 ?k28 ?a29 ?l29 ?c29 ?k29 ?zabs ?zenumerate ?zlen ?zlist ?zrange ?zint ?zmin ?zisinstance ?zbool ?zzip ?zsorted ?zset ?zany ?zsum ?zall ?ztuple
    (case a0 => k_is); (case l0 => k_is); (case c0 => k_is); (case k0 => k_is)
    (case a1 => k_is); (case l1 => k_is); (case c1 => k_is); (case k1 => k_is)
    (case a2 => k_is); (case l2 => k_is); (case c2 => k_is); (case k2 => k_is)
    (case a3 => k_is); (case l3 => k_is); (case c3 => k_is); (case k3 => k_is)
    (case a4 => k_is); (case l4 => k_is); (case c4 => k_is); (case k4 => k_is)
    (case a5 => k_is); (case l5 => k_is); (case c5 => k_is); (case k5 => k_is)
    (case a6 => k_is); (case l6 => k_is); (case c6 => k_is); (case k6 => k_is)
    (case a7 => k_is); (case l7 => k_is); (case c7 => k_is); (case k7 => k_is)
    (case a8 => k_is); (case l8 => k_is); (case c8 => k_is); (case k8 => k_is)
    (case a9 => k_is); (case l9 => k_is); (case c9 => k_is); (case k9 => k_is)
    (case a10 => k_is); (case l10 => k_is); (case c10 => k_is); (case k10 => k_is)
    (case a11 => k_is); (case l11 => k_is); (case c11 => k_is); (case k11 => k_is)
    (case a12 => k_is); (case l12 => k_is); (case c12 => k_is); (case k12 => k_is)
    (case a13 => k_is); (case l13 => k_is); (case c13 => k_is); (case k13 => k_is)
    (case a14 => k_is); (case l14 => k_is); (case c14 => k_is); (case k14 => k_is)
    (case a15 => k_is); (case l15 => k_is); (case c15 => k_is); (case k15 => k_is)
    (case a16 => k_is); (case l16 => k_is); (case c16 => k_is); (case k16 => k_is)
    (case a17 => k_is); (case l17 => k_is); (case c17 => k_is); (case k17 => k_is)
    (case a18 => k_is); (case l18 => k_is); (case c18 => k_is); (case k18 => k_is)
    (case a19 => k_is); (case l19 => k_is); (case c19 => k_is); (case k19 => k_is)
    (case a20 => k_is); (case l20 => k_is); (case c20 => k_is); (case k20 => k_is)
    (case a21 => k_is); (case l21 => k_is); (case c21 => k_is); (case k21 => k_is)
    (case a22 => k_is); (case l22 => k_is); (case c22 => k_is); (case k22 => k_is)
    (case a23 => k_is); (case l23 => k_is); (case c23 => k_is); (case k23 => k_is)
    (case a24 => k_is); (case l24 => k_is); (case c24 => k_is); (case k24 => k_is)
    (case a25 => k_is); (case l25 => k_is); (case c25 => k_is); (case k25 => k_is)
    (case a26 => k_is); (case l26 => k_is); (case c26 => k_is); (case k26 => k_is)
    (case a27 => k_is); (case l27 => k_is); (case c27 => k_is); (case k27 => k_is)
    (case a28 => k_is); (case l28 => k_is); (case c28 => k_is); (case k28 => k_is)
    (case a29 => k_is); (case l29 => k_is); (case c29 => k_is); (case k29 => k_is)
    (case zabs => k_is)
    (case zenumerate => k_is)
    (case zlen => k_is)
    (case zlist => k_is)
    (case zrange => k_is)
    (case zint => k_is)
    (case zmin => k_is)
    (case zisinstance => k_is)
    (case zbool => k_is)
    (case zzip => k_is)
    (case zsorted => k_is)
    (case zset => k_is)
    (case zany => k_is)
    (case zsum => k_is)
    (case zall => k_is)
    (case ztuple => k_is)
