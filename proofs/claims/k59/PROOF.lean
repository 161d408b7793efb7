import PyProof.Rows.All
import Wide.All
import OpenK.AllK
import Wide.FinOn
import HandS.ForMost
import HandS.Style
import HandS.IsInst
import HandS.More
import HandS.Evl
import HandS.ForExc
import HandS.SlotsOwn
import HandS.OwnIter
import HandS.IterNext
import HandS.ClsMeth
import HandS.Deep
import HandS.Zip
import HandS.Walk
import HandS.SetFor
import HandS.Defaults
import HandS.CallSlots
import KE.KExcSuper
import HandS.ExcInit
import HandS.Nested
import HandS.ExcField
import HandS.ExcIs
import HandS.TryMany
import HandS.TryOnly
import HandS.ExcOwn
import HandS.WordsExc
import KE.KExcIs
import HandS.Exc
import HandS.Strs
import HandS.Star
import HandS.Call
import HandS.TupAny
import HandS.FStr
import PyProof.Rows.RegStrFacts
import PySem.Challenge.RW_coretower_k59_callers_are_checked
import KE.RegKSuper
set_option Elab.async false
set_option linter.all false
set_option maxRecDepth 100000
set_option maxHeartbeats 4000000
/-! ### small things over the layer: frames, loops, tests -/
namespace My
open PySem L2
section
variable {P : Program} {w : World} {K : PySem.W.Frag} {mg : Str → Option Value} {base : Heap}
/-- a def of the text, where it stands -/
structure Df (K : PySem.W.Frag) (mg : Str → Option Value) (x : Str) (st : Stmt) (ps : List Str) (f : Addr) (fd : FuncData) : Prop where
  F : Fun K x x st f fd
  g : mg x = some (.ref f)
  b : Binds K fd ps []
theorem cxK {CX : CXT} {N : List Str} {q : Str} {sc : Scope} {f : Addr} {cdv : Value} {A : Around} {outer : List Env} {s : Shared} {H : Hp} {E : XK} : (cxOf CX P w K mg base N q sc f cdv A outer s H E).K = K := rfl
theorem cxnK {CX : CXT} {N : List Str} {q : Str} {sc : Scope} {f : Addr} {cdv : Value} {A : Around} {outer : List Env} {s : Shared} {H : Hp} {E : XK} : (cxOf CX P w K mg base N q sc f cdv A outer s H E).nox.K = K := rfl
end
/-! ### frames -/
/-- what stood outside of S stands as it did -/
def Kp (S : List Addr) (H H' : Hp) : Prop := ∀ b o, b ∉ S → H b = some o → H' b = some o
theorem Kp.refl (S : List Addr) (H : Hp) : Kp S H H := fun _ _ _ h => h
theorem Kp.trans {S : List Addr} {H H1 H2 : Hp} (a : Kp S H H1) (b : Kp S H1 H2) : Kp S H H2 := fun c o hc h => b c o hc (a c o hc h)
theorem Kp.mono {S T : List Addr} {H H' : Hp} (a : Kp S H H') (h : ∀ x ∈ S, x ∈ T) : Kp T H H' := fun c o hc e => a c o (fun z => hc (h c z)) e
theorem Kp.of0 {T : List Addr} {H H' : Hp} (a : Kp [] H H') : Kp T H H' := a.mono fun x hx => nomatch hx
theorem Kp.new {S : List Addr} {H : Hp} {p : Addr} {o : HO} (h : H p = none) : Kp S H (upd H p o) := fun a u _ e => by
  rw [upd_ne (ne_of_none e h)]
  exact e
/-- a write to something that was not there at the beginning -/
theorem Kp.wr {S : List Addr} {H H' : Hp} {p : Addr} {o : HO} (a : Kp S H H') (h : H p = none) : Kp S H (upd H' p o) := fun b u hb e => by
  rw [upd_ne (ne_of_none e h)]
  exact a b u hb e
theorem Kp.put {S : List Addr} {H H' : Hp} {p : Addr} {o : HO} (a : Kp S H H') (h : p ∈ S) : Kp S H (upd H' p o) := fun b u hb e => by
  rw [upd_ne (fun z => hb (by rw [z]; exact h))]
  exact a b u hb e
theorem Kp.ls {S : List Addr} {K : PySem.W.Frag} {H H' : Hp} {a : Addr} {xs : List V} (k : Kp S H H') (ha : a ∉ S) (h : SqL K H a xs) : SqL K H' a xs := by
  rcases h with (h | ⟨o, h⟩) | h
  · exact .inl (.inl (k _ _ ha h))
  · exact .inl (.inr ⟨o, k _ _ ha h⟩)
  · exact .inr h
theorem Kp.tp {S : List Addr} {K : PySem.W.Frag} {H H' : Hp} {a : Addr} {xs : List V} (k : Kp S H H') (ha : a ∉ S) (h : SqT K H a xs) : SqT K H' a xs := by
  rcases h with (h | ⟨o, h⟩) | h
  · exact .inl (.inl (k _ _ ha h))
  · exact .inl (.inr ⟨o, k _ _ ha h⟩)
  · exact .inr h
theorem Kp.free {S : List Addr} {H H' : Hp} {p : Addr} (k : Kp S H H') (hp : H' p = none) (hs : ∀ a ∈ S, ∃ o, H' a = some o) : H p = none := by
  cases e : H p with
  | none => rfl
  | some o =>
    by_cases h : p ∈ S
    · obtain ⟨u, hu⟩ := hs p h
      rw [hp] at hu; cases hu
    · rw [k p o h e] at hp; cases hp
theorem Kp.free0 {H H' : Hp} {p : Addr} (k : Kp [] H H') (hp : H' p = none) : H p = none := k.free hp fun a h => nomatch h
theorem not1 {a b : Addr} (h : b ≠ a) : b ∉ [a] := fun z => h (List.mem_singleton.mp z)
theorem not0 {b : Addr} : b ∉ ([] : List Addr) := fun z => nomatch z
theorem sq_l {K : PySem.W.Frag} {H : Hp} {a : Addr} {xs : List V} (h : H a = some (.lst xs)) : SqL K H a xs := .inl (.inl h)
theorem sq_t {K : PySem.W.Frag} {H : Hp} {a : Addr} {xs : List V} (h : H a = some (.tup xs)) : SqT K H a xs := .inl (.inl h)
theorem small {n : Nat} (h : n ≤ 100000) : n ≤ sizeLine := Nat.le_trans h (by decide)
theorem smallL {n : Nat} (h : n ≤ 100000) : n < sizeLine := Nat.lt_of_le_of_lt h (by decide)
theorem ne_kind {H : Hp} {a b : Addr} {o u : HO} (h : H a = some o) (h' : H b = some u) (d : o ≠ u) : a ≠ b := ne_of h h' d
/-! ### subscripts -/
theorem atI_of {α : Type} {xs : List α} {i : Int} {v : α} (h0 : 0 ≤ i) (h : xs[i.toNat]? = some v) : atI xs i = some v := by
  have e := atI_nat h
  rwa [Int.toNat_of_nonneg h0] at e
theorem ixN_of {n : Nat} {i : Int} (h0 : 0 ≤ i) (h : i < n) : ixN n i = some i.toNat := by
  unfold ixN
  rw [if_pos h0, if_pos h]
theorem atI_ex {α : Type} {xs : List α} {i : Int} (h0 : 0 ≤ i) (h : i < xs.length) : ∃ v, v ∈ xs ∧ atI xs i = some v := by
  have hl : i.toNat < xs.length := by omega
  exact ⟨xs[i.toNat], List.getElem_mem hl, atI_of h0 (List.getElem?_eq_getElem hl)⟩
/-! ### isinstance -/
section
variable {K : PySem.W.Frag} {H : Hp} {Q : VK}
theorem isi_mk {x : V} {n m : String} {b : Bool} (h : TyOf K H x (.type n)) (k : kitB n m = some b) (q : Q (.bl b) H) : rIsi K [x, .ty m] H Q := ⟨x, _, _, _, b, rfl, .ty m, .base h, kit_ty k, q⟩
theorem isi_int_str {i : Int} (q : Q (.bl false) H) : rIsi K [.int i, .ty "str"] H Q := isi_mk (.int i) (by decide +kernel) q
theorem isi_str_str {i : Str} (q : Q (.bl true) H) : rIsi K [.str i, .ty "str"] H Q := isi_mk (.str i) (by decide +kernel) q
theorem isi_int_int {i : Int} (q : Q (.bl true) H) : rIsi K [.int i, .ty "int"] H Q := isi_mk (.int i) (by decide +kernel) q
theorem isi_int_bool {i : Int} (q : Q (.bl false) H) : rIsi K [.int i, .ty "bool"] H Q := isi_mk (.int i) (by decide +kernel) q
theorem isi_bl_bool {i : Bool} (q : Q (.bl true) H) : rIsi K [.bl i, .ty "bool"] H Q := isi_mk (.bl i) (by decide +kernel) q
end
theorem sc_ii {i j : Int} : scal (.int i) (.int j) = true := rfl
theorem sc_ss {i j : Str} : scal (.str i) (.str j) = true := rfl
theorem sc_bb {i j : Bool} : scal (.bl i) (.bl j) = true := rfl
theorem sc_ni {j : Int} : scal .non (.int j) = true := rfl
theorem sc_in {j : Int} : scal (.int j) .non = true := rfl
theorem sc_is {i : Int} {j : Str} : scal (.int i) (.str j) = true := rfl
theorem sc_si {i : Int} {j : Str} : scal (.str j) (.int i) = true := rfl
theorem sc_nn : scal .non .non = true := rfl
/-! ### loops -/
section
variable {K : PySem.W.Frag} {g : TG} {tb : TS} {D : Ends} {σ : St} {H : Hp}
theorem forL {a : Addr} {xs : List V} {i : Nat} (Pv : Nat → L2.St → Hp → Prop) (hσ : σ[i]? = some (some (.ref a))) (hS : SqL K H a xs) (h0 : Pv 0 σ H) (hl : ∀ j σ H, j ≤ xs.length → Pv j σ H → SqL K H a xs)
    (hs : ∀ j x σ H, xs[j]? = some x → Pv j σ H → g x σ H fun σ2 H2 => tb { D with nx := Pv (j + 1), ct := Pv (j + 1), bk := D.nx } σ2 H2) (hd : ∀ σ H, Pv xs.length σ H → D.nx σ H) : tFor (iList K (tVar i)) g tb D σ H :=
  ⟨_, hσ, a, rfl, ⟨xs, hS⟩, for_list Pv h0 hl hs hd⟩
theorem forT {a : Addr} {xs : List V} {i : Nat} (Pv : Nat → L2.St → Hp → Prop) (hσ : σ[i]? = some (some (.ref a))) (hS : SqT K H a xs) (h0 : Pv 0 σ H) (hl : ∀ j σ H, j ≤ xs.length → Pv j σ H → SqT K H a xs)
    (hs : ∀ j x σ H, xs[j]? = some x → Pv j σ H → g x σ H fun σ2 H2 => tb { D with nx := Pv (j + 1), ct := Pv (j + 1), bk := D.nx } σ2 H2) (hd : ∀ σ H, Pv xs.length σ H → D.nx σ H) : tFor (iTup K (tVar i)) g tb D σ H :=
  ⟨_, hσ, a, rfl, ⟨xs, hS⟩, for_tup Pv h0 hl hs hd⟩
/-- behind the reckoning of the bound: range(m) -/
theorem forR {ta : TA} {Qx : Hp → Int → Prop} (h : ta σ H fun vs H1 => ∃ m : Int, vs = [.int m] ∧ -(2 ^ 62) ≤ m ∧ m < 2 ^ 62 ∧ ∃ Pv : Nat → L2.St → Hp → Prop, Pv 0 σ H1 ∧
    (∀ j σ H, j < m.toNat → Pv j σ H → g (.int (0 + j)) σ H fun σ2 H2 => tb { D with nx := Pv (j + 1), ct := Pv (j + 1), bk := D.nx } σ2 H2) ∧ (∀ σ H, Pv m.toNat σ H → D.nx σ H))
    (mono : ∀ Q Q' : List V → Hp → Prop, (∀ vs H, Q vs H → Q' vs H) → ta σ H Q → ta σ H Q') : tFor (iRng1 ta) g tb D σ H := by
  refine mono _ _ ?_ h
  rintro vs H1 ⟨m, e, h1, h2, Pv, a, b, c⟩
  exact ⟨m, e, h1, h2, for_range Pv a b c⟩
end
/-! ### dicts -/
section
variable {κ : Type} [DecidableEq κ]
theorem keys_putK (kvs : List (κ × V)) (k : κ) (v : V) (h : (kvs.map (·.1)).Nodup) : ((putK kvs k v).map (·.1)).Nodup := by
  cases e : valV kvs k with
  | none => exact nd_putK v h e
  | some y =>
    have ha : (kvs.any fun kv => decide (kv.1 = k)) = true := by
      unfold valV at e
      cases q : kvs.find? fun kv => decide (kv.1 = k) with
      | none => rw [q] at e; cases e
      | some p => exact List.any_eq_true.mpr ⟨p, List.mem_of_find?_eq_some q, by simpa using List.find?_some q⟩
    unfold putK
    rw [if_pos ha, List.map_map]
    have e2 : ((fun kv : κ × V => kv.1) ∘ fun kv : κ × V => if kv.1 = k then (kv.1, v) else kv) = fun kv => kv.1 := by
      funext p
      show (if p.1 = k then (p.1, v) else p).1 = p.1
      split <;> rfl
    rw [e2]
    exact h
theorem mem_putK {kvs : List (κ × V)} {k : κ} {v : V} {p : κ × V} (h : p ∈ putK kvs k v) : p ∈ kvs ∨ p = (k, v) := by
  unfold putK at h
  split at h
  · obtain ⟨q, hq, e⟩ := List.mem_map.mp h
    split at e
    · rename_i hk
      exact .inr (by rw [← e, hk])
    · exact .inl (by rw [← e]; exact hq)
  · rcases List.mem_append.mp h with h | h
    · exact .inl h
    · exact .inr (List.mem_singleton.mp h)
theorem valV_mem {kvs : List (κ × V)} {k : κ} {v : V} (h : (kvs.map (·.1)).Nodup) (hm : (k, v) ∈ kvs) : valV kvs k = some v := by
  induction kvs with
  | nil => nomatch hm
  | cons p r ih =>
    rw [List.map_cons, List.nodup_cons] at h
    by_cases e : p.1 = k
    · rw [valV_pos e]
      rcases List.mem_cons.mp hm with z | z
      · rw [← z]
      · exact absurd (List.mem_map.mpr ⟨_, z, rfl⟩) (by rw [← e]; exact h.1)
    · rw [valV_neg e]
      rcases List.mem_cons.mp hm with z | z
      · exact absurd (by rw [← z]) e
      · exact ih h.2 z
end
end My

set_option Elab.async false
set_option linter.all false
set_option maxRecDepth 100000
set_option maxHeartbeats 4000000
/-! ### operators, in, len, list of instances of an own class that define them -/
namespace My
open PySem PySem.Spec PyProof.Rows L2
section
variable {X : Cx} {CX : CXT} {pins : List (Addr × Obj)} {σ : L2.St} {H : Hp} {s : Shared} {C g a : Addr} {fd : FuncData} {ps : List Str} {sp : Sp} {E : XK} {k : Nat} {A1 : Around}
theorem inst_of {dx : Addr} {fs : List (Str × V)} (I : Inv X pins σ H s) (ha : H a = some (.ins C dx fs)) : ∃ ox od, PySem.W.InstAt s.heap a ox C (some od) := by
  obtain ⟨mA, J, _⟩ := ins_get I.hok ha
  obtain ⟨od, J', _⟩ := J.look
  exact ⟨_, od, J'⟩
theorem env_under (sb : Sub X k A1) (I : Inv X pins σ H s) : Env0 X.prog X.w X.K X.mg X.base A1 X.stack s H := by
  obtain ⟨f1, f2, f3, f4, f5, f6, f7, f8⟩ := I.env0
  exact ⟨(sb.fr).trans f1, f2, f3, f4, f5, f6, f7, f8⟩
/-- a def of the class runs somewhere below the body -/
theorem run_under {Q : VK} {us : List Value} {vs : List V} (F : FnOk X.prog X.w X.K X.mg X.base CX k g fd ps sp) (sb : Sub X k A1) (hb : Binds X.K fd ps []) (hx : Passes CX X E) (I : Inv X pins σ H s) (r : Vals vs us) (h : sp vs H Q E) :
    wpAny (model X.prog X.w) A1 (call (.ref g) us) (EP X pins σ Q) X.xe s := by
  have len := F.len _ _ _ _ h
  have bnd := hb s us I.kIn (by rw [List.append_nil, ← r.length]; exact len)
  rw [List.append_nil] at bnd
  refine wpAny_call (codeAny_mono (F.run A1 X.stack s H ⟨us, []⟩ us vs Q E sb.room (env_under sb I) bnd r h) ?_)
  rintro (e | fl) s' z
  · exact hx pins σ H s e s' I z
  · cases fl <;> first | exact I.after z | exact z.elim
/-- x op y, both instances of the class at C -/
def rBinO (C : Addr) (sp : Sp) (E : XK) : R2 := fun x y H Q => ∃ (a dx : Addr) (fs : List (Str × V)) (b dy : Addr) (gs : List (Str × V)), x = .ref a ∧ y = .ref b ∧ H a = some (.ins C dx fs) ∧ H b = some (.ins C dy gs) ∧ sp [.ref a, .ref b] H Q E
/-- what stands of an operator's def -/
structure BinC (K : PySem.W.Frag) (C g : Addr) (op : Operator) : Prop where
  one : PySem.W.selfFirst K C = true
  at_ : PySem.W.findIn K (.ref C) (PySem.dunder op.info.2) = some (some (.ref g))
  fn : PySem.W.isFn K (.ref g) = true
theorem sub_here (hr : Room k X.A) : Sub X k X.A := ⟨hr, rfl⟩
theorem op_binO {op : Operator} (c : BinC X.K C g op) (F : FnOk X.prog X.w X.K X.mg X.base CX k g fd ps sp) (hb : Binds X.K fd ps []) (hr : Room k X.A) (hx : Passes CX X E) : OpR X (binaryOp op) (rBinO C sp E) := by
  rintro pins s σ H x y v u Q I rx ry ⟨a, dx, fs, b, dy, gs, rfl, rfl, ha, hb', q⟩
  cases rx
  cases ry
  obtain ⟨ox, od, J⟩ := inst_of I ha
  obtain ⟨oy, ody, J'⟩ := inst_of I hb'
  obtain ⟨m, hF⟩ := I.fr
  refine PySem.W.binop_K hF I.ok.mod.kin J J'.type c.one c.at_ c.fn ?_
  refine thn (run_under (us := [.ref a, .ref b]) (vs := [.ref a, .ref b]) F (sub_here hr) hb hx I (.cons rfl (.cons rfl .nil)) q) ?_
  rintro w s' ⟨z, H', I', rz, qz⟩
  exact SlX.cmpback rz ⟨z, H', I', rz, qz⟩
/-- y in x, x an instance of the class at C: its __contains__ gives a bool -/
def rInO (C : Addr) (sp : Sp) (E : XK) (neg : Bool) : R2 := fun y x H Q => ∃ (a dx : Addr) (fs : List (Str × V)), x = .ref a ∧ H a = some (.ins C dx fs) ∧ sp [.ref a, y] H (fun v H' => ∃ b, v = .bl b ∧ Q (.bl (if neg then !b else b)) H') E
structure InC (K : PySem.W.Frag) (C g : Addr) : Prop where
  at_ : PySem.W.findIn K (.ref C) "__contains__" = some (some (.ref g))
  fn : PySem.W.isFn K (.ref g) = true
theorem op_inO (c : InC X.K C g) (F : FnOk X.prog X.w X.K X.mg X.base CX k g fd ps sp) (hb : Binds X.K fd ps []) (hr : Room k X.A) (hx : Passes CX X E) : OpR X (compareOp .In) (rInO C sp E false) := by
  rintro pins s σ H y x u v Q I ry rx ⟨a, dx, fs, rfl, ha, q⟩
  cases rx
  obtain ⟨ox, od, J⟩ := inst_of I ha
  obtain ⟨m, hF⟩ := I.fr
  refine PySem.W.in_K hF I.ok.mod.kin J c.at_ c.fn ?_
  refine thn (run_under (us := [.ref a, u]) (vs := [.ref a, y]) F (sub_here hr) hb hx I (.cons rfl (.cons ry .nil)) q) ?_
  rintro w s' ⟨z, H', I', rz, b, rfl, qz⟩
  cases rz
  exact wpAny_pure ⟨.bl b, H', I', rfl, qz⟩
theorem op_notInO (c : InC X.K C g) (F : FnOk X.prog X.w X.K X.mg X.base CX k g fd ps sp) (hb : Binds X.K fd ps []) (hr : Room k X.A) (hx : Passes CX X E) : OpR X (compareOp .NotIn) (rInO C sp E true) := by
  rintro pins s σ H y x u v Q I ry rx ⟨a, dx, fs, rfl, ha, q⟩
  cases rx
  obtain ⟨ox, od, J⟩ := inst_of I ha
  obtain ⟨m, hF⟩ := I.fr
  refine PySem.W.notIn_K hF I.ok.mod.kin J c.at_ c.fn ?_
  refine thn (run_under (us := [.ref a, u]) (vs := [.ref a, y]) F (sub_here hr) hb hx I (.cons rfl (.cons ry .nil)) q) ?_
  rintro w s' ⟨z, H', I', rz, b, rfl, qz⟩
  cases rz
  exact wpAny_pure ⟨.bl (!b), H', I', rfl, qz⟩
/-- len(x) -/
structure LenC (K : PySem.W.Frag) (C g : Addr) : Prop where
  at_ : PySem.W.findIn K (.ref C) "__len__" = some (some (.ref g))
  fn : PySem.W.isFn K (.ref g) = true
theorem len_under {R : Value → Shared → Prop} {Q1 : Nat → Hp → Prop} {dx : Addr} {fs : List (Str × V)} (c : LenC X.K C g) (F : FnOk X.prog X.w X.K X.mg X.base CX k g fd ps sp) (hb : Binds X.K fd ps []) (sb : Sub X (k + 1) A1) (hx : Passes CX X E) (I : Inv X pins σ H s)
    (ha : H a = some (.ins C dx fs)) (h : sp [.ref a] H (fun v H' => ∃ n : Nat, v = .int n ∧ n ≤ sizeLine ∧ Q1 n H') E) (hR : ∀ (n : Nat) H' s' t, n ≤ sizeLine → Inv X pins σ H' s' → Q1 n H' → R (.int n t) s') : wpAny (model X.prog X.w) A1 (call (.builtin "len") [.ref a]) R X.xe s := by
  obtain ⟨ox, od, J⟩ := inst_of I ha
  refine Calls.call_function_entry kind_len plain_len entry_len (args_len1 _) ?_
  unfold Builtin.«len»
  refine wpAny_bind (m := oneArg "len" _) (wpAny_pure ?_)
  refine wpAny_bind (PySem.W.special_fn I.kIn J c.at_ (beq_iff_eq.mp c.fn) ?_)
  refine thn (run_under (us := [.ref a]) (vs := [.ref a]) F sb.in1 hb hx I (.cons rfl .nil) h) ?_
  rintro w s' ⟨z, H', I', rz, n, rfl, hn, hq⟩
  obtain ⟨t, rfl⟩ := rz
  have h63 : ((n : Int)) < 2 ^ 63 := by
    rw [sizeLine_eq] at hn
    omega
  refine wpAny_bind (wpAny_holding (wpAny_pure ?_))
  refine wpAny_bind (wpAny_letGo ?_)
  refine wpAny_ite_false (decide_eq_false (show ¬ ((n : Int) < 0) by omega)) ?_
  refine wpAny_ite_false (decide_eq_false (show ¬ ((n : Int) ≥ 2 ^ 63) by omega)) ?_
  exact wpAny_bind (wpAny_mkInt (wpAny_pure ⟨_, rfl, hR n H' _ _ hn (I'.tok _) hq⟩))
def rLenO (C : Addr) (sp : Sp) (E : XK) : List V → Hp → VK → Prop := fun xs H Q => ∃ (a dx : Addr) (fs : List (Str × V)), xs = [.ref a] ∧ H a = some (.ins C dx fs) ∧ sp [.ref a] H (fun v H' => ∃ n : Nat, v = .int n ∧ n ≤ sizeLine ∧ Q (.int n) H') E
theorem call_lenO (c : LenC X.K C g) (F : FnOk X.prog X.w X.K X.mg X.base CX k g fd ps sp) (hb : Binds X.K fd ps []) (hr : Room (k + 1) X.A) (hx : Passes CX X E) : CallR X (.builtin "len") (rLenO C sp E) := by
  rintro pins s σ H xs us Q I r ⟨a, dx, fs, rfl, ha, q⟩
  obtain ⟨u, rfl, ru⟩ := r.one
  cases ru
  exact len_under (Q1 := fun n H' => Q (.int n) H') c F hb (sub_here hr) hx I ha q fun n H' s' t _ I' hq => ⟨.int n, H', I', ⟨t, rfl⟩, hq⟩
/-- something that is no more looked at -/
def junk (q : Addr) : HO := .ext fun h => ∃ o, h.get? q = some o
theorem junk_ok {P : Program} {w : World} {H : Hp} {h : Heap} {q : Addr} {o : Obj} (e : h.get? q = some o) : ObjOk P w H h q (junk q) := ⟨⟨_, e⟩, ⟨_, e⟩, fun _ _ ⟨u, z⟩ k => ⟨u, k _ z⟩⟩
/-- the class's __iter__ gives iter(l) of a list l, and it has a __len__ -/
structure IterC (K : PySem.W.Frag) (C gi gl : Addr) : Prop where
  it : PySem.W.findIn K (.ref C) "__iter__" = some (some (.ref gi))
  itF : PySem.W.isFn K (.ref gi) = true
  ln : LenC K C gl
/-- list(x) -/
def rListO (K : PySem.W.Frag) (C : Addr) (si sl : Sp) (E : XK) : List V → Hp → VK → Prop := fun xs H Q => ∃ (a dx : Addr) (fs : List (Str × V)), xs = [.ref a] ∧ H a = some (.ins C dx fs) ∧ ∀ q, H q = none →
  si [.ref a] (upd H q (.lst [])) (fun v H1 => ∃ (l it : Addr) (zs : List V), v = .ref it ∧ H1 a = some (.ins C dx fs) ∧ H1 it = some (ItO l it 0) ∧ SqL K H1 l zs ∧ l ≠ q ∧ l ≠ it ∧ H1 q = some (.lst []) ∧
    sl [.ref a] H1 (fun v H2 => ∃ n : Nat, v = .int n ∧ n ≤ sizeLine ∧ H2 it = some (ItO l it 0) ∧ SqL K H2 l zs ∧ H2 q = some (.lst []) ∧ Q (.ref q) (upd (upd H2 it (junk it)) q (.lst zs))) E) E
/-- .. where nothing is raised -/
theorem run_under0 {Q : VK} {us : List Value} {vs : List V} {Ex : Value → Shared → Prop} (F : FnOk X.prog X.w X.K X.mg X.base CX0 k g fd ps sp) (sb : Sub X k A1) (hb : Binds X.K fd ps []) (I : Inv X pins σ H s) (r : Vals vs us) (h : sp vs H Q E) :
    wpAny (model X.prog X.w) A1 (call (.ref g) us) (EP X pins σ Q) Ex s := by
  have len := F.len _ _ _ _ h
  have bnd := hb s us I.kIn (by rw [List.append_nil, ← r.length]; exact len)
  rw [List.append_nil] at bnd
  refine wpAny_call (codeAny_mono (F.run A1 X.stack s H ⟨us, []⟩ us vs Q E sb.room (env_under sb I) bnd r h) ?_)
  rintro (e | fl) s' z
  · exact False.elim z
  · cases fl <;> first | exact I.after z | exact z.elim
theorem len_under0 {R : Value → Shared → Prop} {Ex : Value → Shared → Prop} {Q1 : Nat → Hp → Prop} {dx : Addr} {fs : List (Str × V)} (c : LenC X.K C g) (F : FnOk X.prog X.w X.K X.mg X.base CX0 k g fd ps sp) (hb : Binds X.K fd ps []) (sb : Sub X (k + 1) A1) (I : Inv X pins σ H s)
    (ha : H a = some (.ins C dx fs)) (h : sp [.ref a] H (fun v H' => ∃ n : Nat, v = .int n ∧ n ≤ sizeLine ∧ Q1 n H') E) (hR : ∀ (n : Nat) H' s' t, n ≤ sizeLine → Inv X pins σ H' s' → Q1 n H' → R (.int n t) s') : wpAny (model X.prog X.w) A1 (call (.builtin "len") [.ref a]) R Ex s := by
  obtain ⟨ox, od, J⟩ := inst_of I ha
  refine Calls.call_function_entry kind_len plain_len entry_len (args_len1 _) ?_
  unfold Builtin.«len»
  refine wpAny_bind (m := oneArg "len" _) (wpAny_pure ?_)
  refine wpAny_bind (PySem.W.special_fn I.kIn J c.at_ (beq_iff_eq.mp c.fn) ?_)
  refine thn (run_under0 (us := [.ref a]) (vs := [.ref a]) F sb.in1 hb I (.cons rfl .nil) h) ?_
  rintro w s' ⟨z, H', I', rz, n, rfl, hn, hq⟩
  obtain ⟨t, rfl⟩ := rz
  have h63 : ((n : Int)) < 2 ^ 63 := by
    rw [sizeLine_eq] at hn
    omega
  refine wpAny_bind (wpAny_holding (wpAny_pure ?_))
  refine wpAny_bind (wpAny_letGo ?_)
  refine wpAny_ite_false (decide_eq_false (show ¬ ((n : Int) < 0) by omega)) ?_
  refine wpAny_ite_false (decide_eq_false (show ¬ ((n : Int) ≥ 2 ^ 63) by omega)) ?_
  exact wpAny_bind (wpAny_mkInt (wpAny_pure ⟨_, rfl, hR n H' _ _ hn (I'.tok _) hq⟩))
theorem hint_own {Q : Bool → Shared → Prop} {Ex : Value → Shared → Prop} {Q1 : Nat → Hp → Prop} {dx : Addr} {fs : List (Str × V)} (c : LenC X.K C g) (F : FnOk X.prog X.w X.K X.mg X.base CX0 k g fd ps sp) (hb : Binds X.K fd ps []) (sb : Sub X (k + 1) A1) (I : Inv X pins σ H s)
    (ha : H a = some (.ins C dx fs)) (h : sp [.ref a] H (fun v H' => ∃ n : Nat, v = .int n ∧ n ≤ sizeLine ∧ Q1 n H') E) (hR : ∀ b n H' s', Inv X pins σ H' s' → Q1 n H' → Q b s') : wpAny (model X.prog X.w) A1 (Builtin.List.listLengthHint (.ref a)) Q Ex s := by
  obtain ⟨ox, od, J⟩ := inst_of I ha
  unfold Builtin.List.listLengthHint
  refine wpAny_bind (wpAny_bind (J.type.here ((PySem.W.looks_findIn I.kIn c.at_).here ?_)))
  refine PySem.W.KFB.if_not rfl ?_
  refine PySem.W.KFB.if_so rfl ?_
  refine wpAny_bind (wpAny_rule ?_)
  refine wpAny_bind (wpAny_attempt (len_under0 c F hb sb I ha h ?_))
  intro n H' s' t hn I' hq
  show wpAny _ _ (pure (some (n : Int)) >>= _) _ _ _
  refine wpAny_bind (wpAny_pure ?_)
  have hl : Builtin.List.listTooLong ((n : Int).toNat) = false := by
    rw [Int.toNat_natCast]; exact notLongL hn
  refine PySem.W.KFB.if_not hl ?_
  exact wpAny_pure (hR _ n H' s' I' hq)
/-! ### the list's iterator, drawn to its end -/
theorem py_item {it l : Addr} {i : Nat} {items : Array Value} {v : Value} {prog : Program} {w : World} {Q : Option Value → Shared → Prop} {Ex : Value → Shared → Prop} (ho : s.heap.get? it = some (GNX.itObj l i)) (hl : s.heap.IsList l items) (hv : items[i]? = some v)
    (hQ : ∀ h', h'.get? it = some (GNX.itObj l (i + 1)) → (∀ b o, b ≠ it → s.heap.get? b = some o → h'.get? b = some o) → Q (some v) { s with heap := h' }) : wpAny (model prog w) A1 (pyNext (.ref it)) Q Ex s := by
  have hT : s.TypeIs (.ref it) "list_iterator" := ⟨_, ho, rfl⟩
  unfold pyNext
  refine wpAny_bind (wpAny_attempt (wpAny_callSpecial?_slot (name := Str.ofString "__next__") hT slot_listiter_next (wpAny_call_entry slot_listiter_next hT entry_listiter_next (GNX.next_item ho hl hv ?_) (args_listiter_next _))))
  intro h' e sb
  exact wpAny_pure (hQ h' e fun b o hb eb => (sb.2 b hb).trans eb)
theorem py_end {it l : Addr} {i : Nat} {items : Array Value} {prog : Program} {w : World} {Q : Option Value → Shared → Prop} {Ex : Value → Shared → Prop} (hh : A1.handled = none) (ho : s.heap.get? it = some (GNX.itObj l i)) (hl : s.heap.IsList l items) (hv : items[i]? = none)
    (hQ : ∀ h', h'.get? it = some (GNX.itEnd i) → (∀ b o, b ≠ it → s.heap.get? b = some o → h'.get? b = some o) → Q none { s with heap := h' }) : wpAny (model prog w) A1 (pyNext (.ref it)) Q Ex s := by
  have hT : s.TypeIs (.ref it) "list_iterator" := ⟨_, ho, rfl⟩
  unfold pyNext
  refine wpAny_bind (wpAny_attempt (wpAny_callSpecial?_slot (name := Str.ofString "__next__") hT slot_listiter_next (wpAny_call_entry slot_listiter_next hT entry_listiter_next (GNX.next_end hh ho hl hv ?_) (args_listiter_next _))))
  intro h1 h' e vs e1 sb k1 ne he hv'
  refine wpAny_bind (wpAny_isInstance (T := "StopIteration") (b := true) ⟨_, he, rfl⟩ PySem.isSubtype_stop ?_)
  exact wpAny_pure (hQ h' (k1 _ _ e1) fun b o hb eb => k1 _ _ ((sb.2 b hb).trans eb))
theorem same_upd {H : Hp} {q : Addr} {o : HO} (e : H q = some o) : upd H q o = H := by
  funext b
  by_cases z : b = q
  · rw [z, upd_same, e]
  · rw [upd_ne z]
theorem take_next' {α : Type} {xs : List α} {i : Nat} {x : α} (h : xs[i]? = some x) : xs.take (i + 1) = xs.take i ++ [x] := by
  rw [List.take_add_one, h]; rfl
/-- the loop that fills the list at q -/
theorem drain {q l it : Addr} {zs : List V} {F : Hp} {R : Result → Shared → Prop} (hh : A1.in1.handled = none) (lit : l ≠ it) (lq : l ≠ q) (hne : it ≠ q) (hdone : ∀ s', Inv X pins σ F s' → R (.ok (.ret .none)) s') :
    ∀ (n i : Nat) (H1 : Hp) (s1 : Shared), zs.length - i = n → i ≤ zs.length → Inv X pins σ H1 s1 → H1 it = some (ItO l it i) → SqL X.K H1 l zs → H1 q = some (.lst (zs.take i)) → upd (upd H1 it (junk it)) q (.lst zs) = F →
      codeAny (model X.prog X.w) A1 (.builtin "list.extend.loop" ⟨[.ref q, .ref it, .none], []⟩) R s1 := by
  intro n
  induction n with
  | zero =>
    intro i H1 s1 hn hi I hit hl hq hF
    obtain ⟨its, rv, pl, hz⟩ := I.list hl
    have hlen := rv.length
    have nope : its.toArray[i]? = none := by
      rw [List.getElem?_toArray]
      exact List.getElem?_eq_none (by omega)
    refine codeAny_builtin PySem.F.entry_extend_loop ?_
    rw [Around.under_plainId PySem.F.plain_extend_loop _]
    refine wpAny_bind (m := pyNext (.ref it)) (py_end hh (itO_get I hit) pl.isList nope fun h' he hk => ?_)
    have J : Inv X pins σ (upd H1 it (junk it)) { s1 with heap := h' } := I.write (t' := s1.toks) (x := it) (e := it) (by rw [hit]; exact True.intro) (.inl rfl) (fun b u hb e => hk b u hb e) ⟨_, he⟩ (junk_ok he)
    have e : upd H1 it (junk it) = F := by
      rw [← hF]
      refine (same_upd ?_).symm
      rw [upd_ne hne.symm, hq, List.take_of_length_le (by omega)]
    rw [e] at J
    exact wpAny_pure (hdone _ J)
  | succ n ih =>
    intro i H1 s1 hn hi I hit hl hq hF
    obtain ⟨its, rv, pl, hz⟩ := I.list hl
    have hlen := rv.length
    have hx : zs[i]? = some zs[i] := List.getElem?_eq_getElem (by omega)
    obtain ⟨u, hu, ru⟩ := rv.get hx
    refine codeAny_builtin PySem.F.entry_extend_loop ?_
    rw [Around.under_plainId PySem.F.plain_extend_loop _]
    refine wpAny_bind (m := pyNext (.ref it)) (py_item (itO_get I hit) pl.isList (v := u) (by simpa using hu) fun h' he hk => ?_)
    have J : Inv X pins σ (upd H1 it (ItO l it (i + 1))) { s1 with heap := h' } := I.write (t' := s1.toks) (x := it) (e := it) (by rw [hit]; exact True.intro) (.inl rfl) (fun b u hb e => hk b u hb e) ⟨_, he⟩ (itO_ok he)
    have hq' : (upd H1 it (ItO l it (i + 1))) q = some (.lst (zs.take i)) := by rw [upd_ne hne.symm]; exact hq
    obtain ⟨_, ys, c, r2, hl2, e2⟩ := J.lstM hq'
    have hy : ys.length = i := by rw [← hl2, List.length_take]; omega
    refine wpAny_bind (m := updateSeq q (·.push u)) (wpAny_updateSeq e2 rfl (wpAny_pure ⟨plainId_quiet PySem.F.plain_extend_loop _, ?_⟩) (by rw [List.size_toArray]; omega) (by rw [Array.size_push, List.size_toArray]; omega))
    have J2 := J.lset (f := (·.push u)) (its' := ys ++ [u]) (ys := zs.take (i + 1)) (t' := s1.toks) hq' e2 (by simp) (by rw [take_next' hx]; exact r2.append (.cons ru .nil)) (by rw [List.length_take]; omega)
    refine ih (i + 1) _ _ (by omega) (by omega) J2 ?_ ?_ upd_same ?_
    · rw [upd_ne hne]; exact upd_same
    · exact (((Kp.refl [it, q] H1).put (by simp)).put (by simp)).ls (by simp [lit, lq]) hl
    · rw [← hF]
      funext b
      by_cases z : b = q
      · rw [z, upd_same, upd_same]
      · rw [upd_ne z, upd_ne z]
        by_cases y : b = it
        · rw [y, upd_same, upd_same]
        · rw [upd_ne y, upd_ne y, upd_ne z, upd_ne y]
theorem call_listO {gi gl : Addr} {fdi fdl : FuncData} {psi psl : List Str} {si sl : Sp} {ki kl : Nat} (c : IterC X.K C gi gl) (Fi : FnOk X.prog X.w X.K X.mg X.base CX0 ki gi fdi psi si) (bi : Binds X.K fdi psi []) (Fl : FnOk X.prog X.w X.K X.mg X.base CX0 kl gl fdl psl sl) (bl : Binds X.K fdl psl [])
    (hr : Room (max ki (kl + 1) + 2) X.A) (hcalm : X.calm = true := by rfl) : CallR X (.type "list") (rListO X.K C si sl E) := by
  rintro pins s σ H xs us Q I rv ⟨a, dx, fs, rfl, ha, hq⟩
  obtain ⟨u, rfl, ru⟩ := rv.one
  cases ru
  have sb0 : Sub X (max ki (kl + 1)) X.A.in1.in1 := (sub_here hr).in1.in1
  have hh : X.A.handled = none := I.ok.hd hcalm
  refine callType_codes (Q₁ := fun obj s₁ => obj = .ref s.heap.objs.size ∧ s₁ = { s with heap := s.heap.push { cls := .type "list", data := .seq #[] } }) PySem.F.called_list (PySem.F.typeCall_list_1 _) PySem.F.entry_list_init (code_list_new _ ⟨rfl, rfl⟩) ?_
  rintro obj s₁ ⟨rfl, rfl⟩
  have hS : (s.heap.push { cls := .type "list", data := .seq #[] }).get? s.heap.objs.size = some { cls := .type "list", data := .seq #[] } := Heap.get?_push_size _ rfl
  refine ⟨⟨_, hS, rfl⟩, PySem.F.args_list_init_2 _ _, ?_⟩
  have fr : H s.heap.objs.size = none := I.hok.fresh (Nat.le_refl _)
  have todo := hq _ fr
  generalize hqq : s.heap.objs.size = q at *
  have I1 : Inv X pins σ (upd H q (.lst [])) { s with heap := s.heap.push { cls := .type "list", data := .seq #[] } } := by
    rw [← hqq]
    exact I.lnew (its := []) (t' := s.toks) .nil (Nat.zero_le _)
  show wpAny _ _ (Builtin.List.listItems (.ref q) >>= fun old => Builtin.List.listUpdate (.ref q) (fun _ => #[]) >>= fun _ => letGo old.toList.reverse >>= fun _ => Builtin.List.listExtendWith (.ref q) (.ref a) .none) _ _ _
  refine wpAny_bind ?_
  unfold Builtin.List.listItems
  refine wpAny_bind (wpAny_seqItems hS rfl (wpAny_pure ?_))
  refine wpAny_bind (m := updateSeq q fun _ => #[]) (wpAny_updateSeq hS rfl ?_)
  have I2 := I1.lset (f := fun _ => #[]) (its := []) (its' := []) (ys := []) (t' := s.toks) upd_same hS rfl .nil (Nat.zero_le _)
  rw [upd_upd] at I2
  refine wpAny_bind (wpAny_letGo ?_)
  have ha2 : upd H q (.lst []) a = some (.ins C dx fs) := by rw [upd_ne (ne_of_none ha fr)]; exact ha
  obtain ⟨ox, od, J⟩ := inst_of I2 ha2
  obtain ⟨m0, hF⟩ := I2.fr
  have naq : a ≠ q := ne_of_none ha fr
  unfold Builtin.List.listExtendWith
  refine wpAny_bind (J.type.here ?_)
  have h1 : Builtin.List.listSameRef (.ref q) (.ref a) = false := beq_eq_false_iff_ne.mpr naq.symm
  refine PySem.W.KFB.if_not (by rw [h1]; rfl) ?_
  refine wpAny_bind (PySem.W.owit_iter hF I2.ok.mod.kin J c.it c.itF ?_)
  refine thn (run_under0 (us := [.ref a]) (vs := [.ref a]) Fi (sb0.mono (Nat.le_max_left _ _)) bi I2 (.cons rfl .nil) todo) ?_
  rintro w s2 ⟨z, H1, I3, rz, l, it, zs, rfl, ha3, hit, hl, lq, lit, hq3, hsl⟩
  cases rz
  unfold PySem.W.OwitIt
  have hT : s2.TypeIs (.ref it) "list_iterator" := ⟨_, itO_get I3 hit, rfl⟩
  refine wpAny_specialOf (name := Str.ofString "__next__") hT slot_listiter_next.lookup ?_
  refine wpAny_bind (wpAny_holding (hint_own c.ln Fl bl (sb0.mono (Nat.le_max_right _ _)) I3 ha3 hsl ?_))
  rintro room n H2 s3 I4 ⟨hit4, hl4, hq4, qend⟩
  have hne : it ≠ q := ne_of hit4 hq4 (fun z => by cases z)
  have fin : ∀ s4, Inv X pins σ H2 s4 → codeAny (model X.prog X.w) X.A.in1 (.builtin "list.extend.loop" ⟨[.ref q, .ref it, .none], []⟩) (wants (fun r s₂ => r = .none ∧ EP X pins σ Q (.ref q) s₂) X.xe) s4 := fun s4 I5 =>
    drain (A1 := X.A.in1) (F := upd (upd H2 it (junk it)) q (.lst zs)) (by simp [hh]) lit lq hne (fun s' I6 => ⟨rfl, .ref q, _, I6, rfl, qend⟩) _ 0 H2 s4 rfl (Nat.zero_le _) I5 hit4 hl4 (by rw [List.take_zero]; exact hq4) rfl
  refine wpAny_ite_split (fun _ => ?_) (fun _ => wpAny_pure ⟨plainId_quiet PySem.F.plain_extend_loop _, fin s3 I4⟩)
  refine wpAny_bind (wpAny_rule (wpAny_bind ?_))
  obtain ⟨_, its, k4, r4, hl5, e4⟩ := I4.lstM hq4
  cases r4
  refine wpAny_bind (m := updateSeq q (·.push .none)) (wpAny_updateSeq e4 rfl ?_)
  have I5 := I4.lset (f := (·.push Value.none)) (its' := [Value.none]) (ys := [.non]) (t' := s3.toks) hq4 e4 (by simp) (.cons rfl .nil) (by rw [List.length_singleton, sizeLine_eq]; decide)
  obtain ⟨_, its5, k5, r5, hl6, e5⟩ := I5.lstM upd_same
  obtain ⟨u5, rfl, ru5⟩ := r5.one
  refine wpAny_updateSeq (a := q) (f := (·.pop)) e5 rfl ?_ (by show 1 ≤ sizeLine; rw [sizeLine_eq]; decide) (by show 0 ≤ sizeLine + 1; exact Nat.zero_le _)
  have I6 := I5.lset (f := (·.pop)) (its := [u5]) (its' := []) (ys := []) (t' := s3.toks) upd_same e5 (by rfl) .nil (Nat.zero_le _)
  rw [upd_upd, same_upd hq4] at I6
  exact wpAny_pure ⟨plainId_quiet PySem.F.plain_extend_loop _, fin _ I6⟩
end
/-! ### a static method, called by its class's name -/
structure StaC (K : PySem.W.Frag) (C : Addr) (mc : Value) (m : Str) (p g : Addr) : Prop where
  rd : PySem.W.readsIn K C mc = true
  ga : PySem.W.specialIn K (.ref C) "__getattribute__" = some (some (.builtin "type.__getattribute__"))
  at_ : PySem.W.findCls K (.ref C) mc m = some (.get (.builtin "staticmethod.__get__") (.ref p) .none (.ref C))
  rc : ∃ rest, PySem.W.recIn K p "staticmethod" = some (.ref g :: rest)
  kp : PySem.W.keepIn K (.ref g) = true
def tSta (C : Addr) (sp : Sp) (dvs : List V) (E : XK) (ta : TE) (t : TA) : TE := fun σ H Q => ta σ H fun x H1 => x = .ref C ∧ t σ H1 fun vs H2 => sp (vs ++ dvs) H2 Q E
section
variable {X : Cx} {CX : CXT} {C p g : Addr} {mc : Value} {m : Str} {fd : FuncData} {ps : List Str} {sp : Sp} {E : XK} {k : Nat} {o e : Expr} {es : List Expr} {ta : TE} {t : TA} {apos pos : Pos} {dvs : List V} {ds : List Value}
theorem pe_sta {pl : Sem Bool} (he : PE X o ta) (c : StaC X.K C mc m p g) (F : FnOk X.prog X.w X.K X.mg X.base CX k g fd ps sp) (hr : Room k X.A) (hb : Binds X.K fd ps ds) (hd : Vals dvs ds) (hx : Passes CX X E) (ha : PA X (e :: es) t)
    (hst : starEach (e :: es) X.env = (false, eval e X.env) :: starEach es X.env := by rfl) (hpl : (backTo pos (starEach es X.env)).any (·.1) = false := by rfl)
    (ht : eval (.Call (.Attribute o m apos) (e :: es) [] pos) X.env = (eval o X.env >>= fun ov => standAt apos.atName >>= fun _ => holding [ov] (getMethod ov m pl) >>= fun fr => callWith pos fr.1 fr.2 (backTo pos (starEach (e :: es) X.env)) (backToKw pos (keywordEach [] X.env))) := by rfl) :
    PE X (.Call (.Attribute o m apos) (e :: es) [] pos) (tSta C sp dvs E ta t) := by
  refine ⟨fun pins s σ H Q I h => ?_⟩
  refine PySem.W.methodCall_KW (pl := pl) (thn (he.run pins s σ H _ I h) ?_) ht
  rintro u s1 ⟨x, H1, I1, rx, rfl, q⟩
  cases rx
  obtain ⟨rest, hp⟩ := c.rc
  refine PySem.W.method_cls I1.kIn c.ga (PySem.W.cls_bind I1.kIn c.rd c.at_ (wpAny_call ?_))
  refine PySem.W.sm_get (s := { s1 with toks := s1.toks + 1 }) I1.kIn hp (PySem.W.handed_on rfl ?_)
  refine PySem.W.callWith_K (first := []) (h₀ := X.base) I1.ok.mod.kin c.kp (thn (ha.run pos pins _ σ H1 _ (I1.tok _) q) fun us s2 ⟨vs, H2, I2, r, q2⟩ => ⟨I2.kIn, ?_⟩) hst hpl
  exact run_fn F hr hb hd hx I2 r q2
/-- x in t, t a tuple, of data of any depth -/
def rInT (K : PySem.W.Frag) (neg : Bool) : R2 := fun x y H Q => ∃ d ds, Dp K H x d ∧ Dp K H y (.tuple ds) ∧ SeqAt.shaped d = true ∧ SeqAt.shaped (.tuple ds) = true ∧ Q (.bl (if neg then !(ds.any fun z => PyData.eqv z d) else ds.any fun z => PyData.eqv z d)) H
theorem op_inT (hu : X.A.units + 65 < cLine) : OpR X (compareOp .In) (rInT X.K false) := by
  rintro pins s σ H x y v u Q I rx ry ⟨d, ds, hd, he, sd, se, q⟩
  obtain ⟨as, r1⟩ := Dp.reads I d x v hd rx
  obtain ⟨bs, r2⟩ := Dp.reads I (.tuple ds) y u he ry
  exact SeqAt.in_tuple_reads r2 r1 (SeqAt.canLay_of_shaped se) (SeqAt.canLay_of_shaped sd) (room_in_shaped sd hu) ⟨.bl _, H, I, rfl, q⟩
theorem op_notInT (hu : X.A.units + 65 < cLine) : OpR X (compareOp .NotIn) (rInT X.K true) := by
  rintro pins s σ H x y v u Q I rx ry ⟨d, ds, hd, he, sd, se, q⟩
  obtain ⟨as, r1⟩ := Dp.reads I d x v hd rx
  obtain ⟨bs, r2⟩ := Dp.reads I (.tuple ds) y u he ry
  exact SeqAt.notIn_tuple_reads r2 r1 (SeqAt.canLay_of_shaped se) (SeqAt.canLay_of_shaped sd) (room_in_shaped sd hu) ⟨.bl _, H, I, rfl, q⟩
end
end My

set_option Elab.async false
set_option linter.all false
set_option maxRecDepth 100000
set_option maxHeartbeats 4000000
/-! ### data of any depth: kept, walked in lists or tuples -/
namespace My
open PySem PySem.Spec PyProof.Rows L2
/-- no list or tuple stands in S -/
def NoSq (H : Hp) (S : List Addr) : Prop := ∀ a ∈ S, (∀ xs, H a ≠ some (.lst xs)) ∧ (∀ xs, H a ≠ some (.tup xs)) ∧ ∀ o u, H a ≠ some (.frz o u)
theorem noSq0 {H : Hp} : NoSq H [] := fun a h => nomatch h
theorem noSq1 {H : Hp} {a C dx : Addr} {fs : List (Str × V)} (h : H a = some (.ins C dx fs)) : NoSq H [a] := fun b hb => by
  rw [List.mem_singleton.mp hb, h]
  exact ⟨fun _ z => (by cases z), fun _ z => (by cases z), fun _ _ z => (by cases z)⟩
theorem Kp.lsN {S : List Addr} {K : PySem.W.Frag} {H H' : Hp} {a : Addr} {xs : List V} (k : Kp S H H') (n : NoSq H S) (h : SqL K H a xs) : SqL K H' a xs := by
  rcases h with (h | ⟨o, h⟩) | h
  · exact .inl (.inl (k _ _ (fun z => (n a z).1 _ h) h))
  · exact .inl (.inr ⟨o, k _ _ (fun z => (n a z).2.2 _ _ h) h⟩)
  · exact .inr h
theorem Kp.tpN {S : List Addr} {K : PySem.W.Frag} {H H' : Hp} {a : Addr} {xs : List V} (k : Kp S H H') (n : NoSq H S) (h : SqT K H a xs) : SqT K H' a xs := by
  rcases h with (h | ⟨o, h⟩) | h
  · exact .inl (.inl (k _ _ (fun z => (n a z).2.1 _ h) h))
  · exact .inl (.inr ⟨o, k _ _ (fun z => (n a z).2.2 _ _ h) h⟩)
  · exact .inr h
mutual
theorem dpN {S : List Addr} {K : PySem.W.Frag} {H H' : Hp} (k : Kp S H H') (n : NoSq H S) : ∀ {d : PyData} {v : V}, Dp K H v d → Dp K H' v d
  | _, _, .non => .non
  | _, _, .bl b => .bl b
  | _, _, .int i => .int i
  | _, _, .str x => .str x
  | _, _, .lst e h => .lst (k.lsN n e) (dpAllN k n h)
  | _, _, .tup e h => .tup (k.tpN n e) (dpAllN k n h)
theorem dpAllN {S : List Addr} {K : PySem.W.Frag} {H H' : Hp} (k : Kp S H H') (n : NoSq H S) : ∀ {ds : List PyData} {vs : List V}, DpAll K H vs ds → DpAll K H' vs ds
  | _, _, .nil => .nil
  | _, _, .cons h t => .cons (dpN k n h) (dpAllN k n t)
end
mutual
def noLs : PyData → Bool
  | .list _ => false
  | .tuple ds => noLsAll ds
  | _ => true
def noLsAll : List PyData → Bool
  | [] => true
  | d :: ds => noLs d && noLsAll ds
end
/-- .. stand as before, where lists change -/
def NoTp (H : Hp) (S : List Addr) : Prop := ∀ a ∈ S, (∀ xs, H a ≠ some (.tup xs)) ∧ ∀ o u, H a ≠ some (.frz o u)
theorem noTp1 {H : Hp} {a : Addr} {xs : List V} (h : H a = some (.lst xs)) : NoTp H [a] := fun b hb => by
  rw [List.mem_singleton.mp hb, h]
  exact ⟨fun _ z => (by cases z), fun _ _ z => (by cases z)⟩
theorem Kp.tpT {S : List Addr} {K : PySem.W.Frag} {H H' : Hp} {a : Addr} {xs : List V} (k : Kp S H H') (n : NoTp H S) (h : SqT K H a xs) : SqT K H' a xs := by
  rcases h with (h | ⟨o, h⟩) | h
  · exact .inl (.inl (k _ _ (fun z => (n a z).1 _ h) h))
  · exact .inl (.inr ⟨o, k _ _ (fun z => (n a z).2 _ _ h) h⟩)
  · exact .inr h
mutual
theorem dpT {S : List Addr} {K : PySem.W.Frag} {H H' : Hp} (k : Kp S H H') (n : NoTp H S) : ∀ {d : PyData} {v : V}, Dp K H v d → noLs d = true → Dp K H' v d
  | _, _, .non, _ => .non
  | _, _, .bl b, _ => .bl b
  | _, _, .int i, _ => .int i
  | _, _, .str x, _ => .str x
  | _, _, .lst e h, z => by cases z
  | _, _, .tup e h, z => .tup (k.tpT n e) (dpAllT k n h z)
theorem dpAllT {S : List Addr} {K : PySem.W.Frag} {H H' : Hp} (k : Kp S H H') (n : NoTp H S) : ∀ {ds : List PyData} {vs : List V}, DpAll K H vs ds → noLsAll ds = true → DpAll K H' vs ds
  | _, _, .nil, _ => .nil
  | _, _, .cons h t, z => by
    have z' := Bool.and_eq_true_iff.mp z
    exact .cons (dpT k n h z'.1) (dpAllT k n t z'.2)
end
theorem dpLen {K : PySem.W.Frag} {H : Hp} : ∀ {ds : List PyData} {vs : List V}, DpAll K H vs ds → vs.length = ds.length
  | _, _, .nil => rfl
  | _, _, .cons h t => by rw [List.length_cons, List.length_cons, dpLen t]
theorem dpGet {K : PySem.W.Frag} {H : Hp} : ∀ {ds : List PyData} {vs : List V}, DpAll K H vs ds → ∀ {i : Nat} {v : V}, vs[i]? = some v → ∃ d, ds[i]? = some d ∧ Dp K H v d
  | _, _, .nil, _, _, e => nomatch e
  | _, _, .cons h t, 0, _, e => by cases e; exact ⟨_, rfl, h⟩
  | _, _, .cons h t, i + 1, _, e => dpGet t (i := i) e
theorem dpApp {K : PySem.W.Frag} {H : Hp} : ∀ {ds es : List PyData} {vs us : List V}, DpAll K H vs ds → DpAll K H us es → DpAll K H (vs ++ us) (ds ++ es)
  | _, _, _, _, .nil, k => k
  | _, _, _, _, .cons h t, k => .cons h (dpApp t k)
theorem dpTake {K : PySem.W.Frag} {H : Hp} : ∀ {ds : List PyData} {vs : List V}, DpAll K H vs ds → ∀ i, DpAll K H (vs.take i) (ds.take i)
  | _, _, .nil, i => by rw [List.take_nil, List.take_nil]; exact .nil
  | _, _, .cons h t, 0 => .nil
  | _, _, .cons h t, i + 1 => .cons h (dpTake t i)
theorem dpDrop {K : PySem.W.Frag} {H : Hp} : ∀ {ds : List PyData} {vs : List V}, DpAll K H vs ds → ∀ i, DpAll K H (vs.drop i) (ds.drop i)
  | _, _, .nil, i => by rw [List.drop_nil, List.drop_nil]; exact .nil
  | _, _, .cons h t, 0 => .cons h t
  | _, _, .cons h t, i + 1 => dpDrop t i
theorem dpRev {K : PySem.W.Frag} {H : Hp} : ∀ {ds : List PyData} {vs : List V}, DpAll K H vs ds → DpAll K H vs.reverse ds.reverse
  | _, _, .nil => .nil
  | _, _, .cons h t => by
    rw [List.reverse_cons, List.reverse_cons]
    exact dpApp (dpRev t) (.cons h .nil)
theorem dpStrs {K : PySem.W.Frag} {H : Hp} : ∀ zs : List Str, DpAll K H (zs.map V.str) (zs.map PyData.str)
  | [] => .nil
  | z :: zs => .cons (.str z) (dpStrs zs)
/-- an object walked that is a list or a tuple -/
def SqAny (K : PySem.W.Frag) (H : Hp) (a : Addr) (xs : List V) : Prop := SqL K H a xs ∨ SqT K H a xs
theorem Kp.anyN {S : List Addr} {K : PySem.W.Frag} {H H' : Hp} {a : Addr} {xs : List V} (k : Kp S H H') (n : NoSq H S) (h : SqAny K H a xs) : SqAny K H' a xs := h.imp (k.lsN n) (k.tpN n)
def iSeq (K : PySem.W.Frag) (tl : TE) : TI := fun σ H R => tl σ H fun x H1 => ∃ a, x = .ref a ∧ (((∃ xs, SqL K H1 a xs) ∧ R (Itl K a) H1) ∨ ((∃ xs, SqT K H1 a xs) ∧ R (Itt K a) H1))
section
variable {X : Cx} {tg : Expr}
theorem pi_seq {l : Expr} {tl : TE} (hl : PE X l tl) : PI X tg l (iSeq X.K tl) := by
  refine ⟨fun pins s σ H R I h => thn (hl.run pins s σ H _ I h) ?_⟩
  rintro v s1 ⟨x, H1, I1, r1, a, rfl, ⟨⟨xs, hq⟩, q⟩ | ⟨⟨xs, hq⟩, q⟩⟩
  · cases r1
    obtain ⟨its, rv, p, hz⟩ := I1.list hq
    refine wpAny_pyIter_list p.isList ⟨_, [_], _, _, H1, rfl, I1.kept (t' := s1.toks) (fun b o e => Heap.get?_push_of_some _ e), turn_list a _, ⟨_, Heap.get?_push_size _ rfl, rfl, rfl⟩, fun b hb => ?_, q⟩
    rw [List.mem_singleton.mp hb]
    exact I1.fpOk (Nat.le_refl _) (I1.hok.fresh (Nat.le_refl _))
  · cases r1
    obtain ⟨its, rv, p, hz⟩ := I1.tuple hq
    refine wpAny_pyIter_tuple (show s1.heap.IsTuple a its.toArray from p) ⟨_, [_], _, _, H1, rfl, I1.kept (t' := s1.toks) (fun b o e => Heap.get?_push_of_some _ e), turn_tuple a _, ⟨_, Heap.get?_push_size _ rfl, rfl, rfl⟩, fun b hb => ?_, q⟩
    rw [List.mem_singleton.mp hb]
    exact I1.fpOk (Nat.le_refl _) (I1.hok.fresh (Nat.le_refl _))
/-- x in s, s a list or a tuple -/
def rInS (K : PySem.W.Frag) (neg : Bool) : R2 := fun x y H Q => ∃ (d : PyData) (ds : List PyData) (a : Addr) (xs : List V), y = .ref a ∧ SqAny K H a xs ∧ DpAll K H xs ds ∧ Dp K H x d ∧ SeqAt.shaped d = true ∧ SeqAt.shaped (.list ds) = true ∧ Q (.bl (if neg then !(ds.any fun z => PyData.eqv z d) else ds.any fun z => PyData.eqv z d)) H
theorem op_inS (hu : X.A.units + 65 < cLine) : OpR X (compareOp .In) (rInS X.K false) := by
  rintro pins s σ H x y v u Q I rx ry ⟨d, ds, a, xs, rfl, ha | ha, hx, hd, s1, s2, q⟩
  · exact op_inD hu pins s σ H x _ v u Q I rx ry ⟨d, ds, hd, .lst ha hx, s1, s2, q⟩
  · exact op_inT hu pins s σ H x _ v u Q I rx ry ⟨d, ds, hd, .tup ha hx, s1, s2, q⟩
theorem op_notInS (hu : X.A.units + 65 < cLine) : OpR X (compareOp .NotIn) (rInS X.K true) := by
  rintro pins s σ H x y v u Q I rx ry ⟨d, ds, a, xs, rfl, ha | ha, hx, hd, s1, s2, q⟩
  · exact op_notInD hu pins s σ H x _ v u Q I rx ry ⟨d, ds, hd, .lst ha hx, s1, s2, q⟩
  · exact op_notInT hu pins s σ H x _ v u Q I rx ry ⟨d, ds, hd, .tup ha hx, s1, s2, q⟩
theorem hu5 {A : Around} {k : Nat} (hr : Room k A) : A.units + 65 < cLine := by have := hr.un; omega
end
section
variable {K : PySem.W.Frag} {H H0 : Hp} {a : Addr} {xs : List V} {g : TG} {tb : TS} {D : Ends} {σ : L2.St} {i : Nat}
/-- for x in s, s a list or a tuple that stands still -/
theorem forS (Pv : Nat → L2.St → Hp → Prop) (hσ : σ[i]? = some (some (.ref a))) (hS : SqAny K H a xs) (h0 : Pv 0 σ H) (hk : ∀ j σ' H', Pv j σ' H' → Kp [] H H')
    (hs : ∀ j x σ H, xs[j]? = some x → Pv j σ H → g x σ H fun σ2 H2 => tb { D with nx := Pv (j + 1), ct := Pv (j + 1), bk := D.nx } σ2 H2) (hd : ∀ σ H, Pv xs.length σ H → D.nx σ H) : tFor (iSeq K (tVar i)) g tb D σ H := by
  rcases hS with h | h
  · exact ⟨_, hσ, a, rfl, .inl ⟨⟨xs, h⟩, for_list Pv h0 (fun j σ' H' _ p => (hk j σ' H' p).ls not0 h) hs hd⟩⟩
  · exact ⟨_, hσ, a, rfl, .inr ⟨⟨xs, h⟩, for_tup Pv h0 (fun j σ' H' _ p => (hk j σ' H' p).tp not0 h) hs hd⟩⟩
end
end My

set_option Elab.async false
set_option linter.all false
set_option maxRecDepth 100000
set_option maxHeartbeats 4000000
namespace My
open PySem L2
/-! ### data that stands in tracked tuples and lists -/
mutual
inductive Dq (H : Hp) : V → PyData → Prop
  | non : Dq H .non .none
  | bl (b : Bool) : Dq H (.bl b) (.bool b)
  | int (i : Int) : Dq H (.int i) (.int i)
  | str (x : Str) : Dq H (.str x) (.str x)
  | lst {a : Addr} {xs : List V} {ds : List PyData} : H a = some (.lst xs) → DqAll H xs ds → Dq H (.ref a) (.list ds)
  | tup {a : Addr} {xs : List V} {ds : List PyData} : H a = some (.tup xs) → DqAll H xs ds → Dq H (.ref a) (.tuple ds)
inductive DqAll (H : Hp) : List V → List PyData → Prop
  | nil : DqAll H [] []
  | cons {v : V} {vs : List V} {d : PyData} {ds : List PyData} : Dq H v d → DqAll H vs ds → DqAll H (v :: vs) (d :: ds)
end
mutual
theorem Dq.kp {H H' : Hp} (k : Kp [] H H') : ∀ {d : PyData} {v : V}, Dq H v d → Dq H' v d
  | _, _, .non => .non
  | _, _, .bl b => .bl b
  | _, _, .int i => .int i
  | _, _, .str x => .str x
  | _, _, .lst e h => .lst (k _ _ not0 e) (DqAll.kp k h)
  | _, _, .tup e h => .tup (k _ _ not0 e) (DqAll.kp k h)
theorem DqAll.kp {H H' : Hp} (k : Kp [] H H') : ∀ {ds : List PyData} {vs : List V}, DqAll H vs ds → DqAll H' vs ds
  | _, _, .nil => .nil
  | _, _, .cons h t => .cons (Dq.kp k h) (DqAll.kp k t)
end
mutual
theorem Dq.dp {K : PySem.W.Frag} {H : Hp} : ∀ {d : PyData} {v : V}, Dq H v d → Dp K H v d
  | _, _, .non => .non
  | _, _, .bl b => .bl b
  | _, _, .int i => .int i
  | _, _, .str x => .str x
  | _, _, .lst e h => .lst (sq_l e) (DqAll.dp h)
  | _, _, .tup e h => .tup (sq_t e) (DqAll.dp h)
theorem DqAll.dp {K : PySem.W.Frag} {H : Hp} : ∀ {ds : List PyData} {vs : List V}, DqAll H vs ds → DpAll K H vs ds
  | _, _, .nil => .nil
  | _, _, .cons h t => .cons (Dq.dp h) (DqAll.dp t)
end
theorem DqAll.len {H : Hp} : ∀ {ds : List PyData} {vs : List V}, DqAll H vs ds → vs.length = ds.length
  | _, _, .nil => rfl
  | _, _, .cons h t => by rw [List.length_cons, List.length_cons, t.len]
theorem DqAll.get {H : Hp} : ∀ {ds : List PyData} {vs : List V}, DqAll H vs ds → ∀ {i : Nat} {v : V}, vs[i]? = some v → ∃ d, ds[i]? = some d ∧ Dq H v d
  | _, _, .nil, _, _, e => nomatch e
  | _, _, .cons h t, 0, _, e => by cases e; exact ⟨_, rfl, h⟩
  | _, _, .cons h t, i + 1, _, e => t.get (i := i) e
/-- its class -/
def tyD : PyData → String
  | .none => "NoneType"
  | .bool _ => "bool"
  | .int _ => "int"
  | .str _ => "str"
  | .list _ => "list"
  | .tuple _ => "tuple"
  | _ => "object"
theorem Dq.ty {K : PySem.W.Frag} {H : Hp} {v : V} {d : PyData} (h : Dq H v d) : TyOf K H v (.type (tyD d)) := by
  cases h with
  | non => exact .non
  | bl b => exact .bl b
  | int i => exact .int i
  | str x => exact .str x
  | lst e h => exact .lst e
  | tup e h => exact .tup e
def six (d : PyData) : Prop := match d with
  | .none | .bool _ | .int _ | .str _ | .list _ | .tuple _ => True
  | _ => False
theorem Dq.six {H : Hp} {v : V} {d : PyData} (h : Dq H v d) : six d := by
  cases h <;> exact True.intro
def isStrD : PyData → Bool | .str _ => true | _ => false
def isTupD : PyData → Bool | .tuple _ => true | _ => false
def isLstD : PyData → Bool | .list _ => true | _ => false
def isIntD : PyData → Bool | .int _ | .bool _ => true | _ => false
def isBoolD : PyData → Bool | .bool _ => true | _ => false
section
variable {K : PySem.W.Frag} {H : Hp} {Q : VK} {v : V} {d : PyData}
theorem isi_D (h : Dq H v d) {m : String} {b : Bool} (k : kitB (tyD d) m = some b) (q : Q (.bl b) H) : rIsi K [v, .ty m] H Q := isi_mk h.ty k q
theorem isi_Dstr (h : Dq H v d) (q : Q (.bl (isStrD d)) H) : rIsi K [v, .ty "str"] H Q := isi_D h (by cases h <;> simp only [tyD, isStrD, isTupD, isLstD, isIntD, isBoolD] <;> decide +kernel) q
theorem isi_Dtup (h : Dq H v d) (q : Q (.bl (isTupD d)) H) : rIsi K [v, .ty "tuple"] H Q := isi_D h (by cases h <;> simp only [tyD, isStrD, isTupD, isLstD, isIntD, isBoolD] <;> decide +kernel) q
theorem isi_Dlst (h : Dq H v d) (q : Q (.bl (isLstD d)) H) : rIsi K [v, .ty "list"] H Q := isi_D h (by cases h <;> simp only [tyD, isStrD, isTupD, isLstD, isIntD, isBoolD] <;> decide +kernel) q
theorem isi_Dint (h : Dq H v d) (q : Q (.bl (isIntD d)) H) : rIsi K [v, .ty "int"] H Q := isi_D h (by cases h <;> simp only [tyD, isStrD, isTupD, isLstD, isIntD, isBoolD] <;> decide +kernel) q
theorem isi_Dbool (h : Dq H v d) (q : Q (.bl (isBoolD d)) H) : rIsi K [v, .ty "bool"] H Q := isi_D h (by cases h <;> simp only [tyD, isStrD, isTupD, isLstD, isIntD, isBoolD] <;> decide +kernel) q
end
/-! ### xs.remove(text) -/
def eqs (z : Str) (v : Value) : Bool := match v with
  | .str y _ => y == z
  | _ => false
theorem str_beq' (w z : Str) : (w == z) = (w.cps.toList == z.cps.toList) := by
  rw [Bool.eq_iff_iff, beq_iff_eq, beq_iff_eq]
  constructor
  · rintro rfl; rfl
  · intro h
    obtain ⟨a⟩ := w
    obtain ⟨b⟩ := z
    obtain ⟨a⟩ := a
    obtain ⟨b⟩ := b
    have h' : a = b := h
    rw [h']
def rRemS : V → List V → Hp → VK → Prop := fun x xs H Q => ∃ (l : Addr) (zs : List Str) (z : Str) (j : Nat), x = .ref l ∧ xs = [.str z] ∧ H l = some (.lst (zs.map V.str)) ∧ zs[j]? = some z ∧ (∀ m : Nat, m < j → zs[m]? ≠ some z) ∧ Q .non (upd H l (.lst ((zs.eraseIdx j).map V.str)))
theorem vals_str : ∀ {zs : List Str} {us : List Value}, Vals (zs.map V.str) us → ∀ {i : Nat} {u : Value}, us[i]? = some u → ∃ y t, u = .str y t ∧ zs[i]? = some y
  | [], _, r, _, _, e => by cases r; cases e
  | z :: zs, us, r, i, u, e => by
    rw [List.map_cons] at r
    cases r with
    | cons r0 rt =>
      match i, e with
      | 0, e =>
        cases e
        obtain ⟨t, rfl⟩ := r0
        exact ⟨z, t, rfl, rfl⟩
      | i + 1, e => exact vals_str rt (i := i) e
theorem erase_mapS : ∀ (l : List Str) (j : Nat), (l.map V.str).eraseIdx j = (l.eraseIdx j).map V.str
  | [], j => by simp
  | _ :: _, 0 => by simp
  | _ :: r, j + 1 => by simp [erase_mapS r j]
theorem eqs_ok (w z : Str) (tw t : Tok) : MeetsSeq.EqGives (.str w tw) (.str z t) (eqs z (.str w tw)) := by
  have e : eqs z (.str w tw) = (w.cps.toList == z.cps.toList) := (str_beq' w z)
  rw [e]
  exact SeqRoads2.EqGives.str w z tw t
theorem mt_removeS {X : Cx} : MtM X "list.remove" rRemS := by
  intro pins s σ H x xs v us Q I rx rxs h
  obtain ⟨l, zs, z, j, rfl, rfl, hH, hj, hno, q⟩ := h
  cases rx
  obtain ⟨u, rfl, ru⟩ := rxs.one
  obtain ⟨t, rfl⟩ := ru
  obtain ⟨hz, its, n, r, hl, e⟩ := I.lstM hH
  rw [List.length_map] at hl hz
  have hjn : j < zs.length := (List.getElem?_eq_some_iff.mp hj).1
  have hjl : j < its.toArray.size := by rw [List.size_toArray]; omega
  have each : ∀ y, y ∈ its.toArray → MeetsSeq.EqGives y (.str z t) (eqs z y) := fun y hy => by
    obtain ⟨i, hi, e1⟩ := List.mem_iff_getElem.mp (show y ∈ its by simpa using hy)
    obtain ⟨w, tw, rfl, _⟩ := vals_str r (i := i) (by rw [List.getElem?_eq_getElem hi, e1])
    exact eqs_ok w z tw t
  have at_ : ∀ m (hm : m < its.toArray.size), ∃ t', its.toArray[m] = .str (zs[m]'(by rw [List.size_toArray] at hm; omega)) t' := fun m hm => by
    have hm' : m < its.length := by simpa using hm
    obtain ⟨w, tw, ew, ez⟩ := vals_str r (i := m) (List.getElem?_eq_getElem hm')
    have hmz : m < zs.length := by omega
    rw [List.getElem?_eq_getElem hmz] at ez
    exact ⟨tw, by rw [Option.some.inj ez]; simpa using ew⟩
  refine call_meets PySem.F.slot_list_remove ⟨_, e, rfl⟩ PySem.F.entry_list_remove (PySem.F.args_list_remove_2 _ _) (MeetsSeq.list_remove l its.toArray n (.str z t) (eqs z) each j hjl ?_ ?_ (by rw [List.size_toArray]; omega)) ⟨e, ?_⟩
  · obtain ⟨t', et⟩ := at_ j hjl
    rw [List.getElem?_eq_getElem hjn] at hj
    rw [et, Option.some.inj hj]
    exact beq_self_eq_true z
  · intro m hm hmj
    obtain ⟨t', et⟩ := at_ m hm
    rw [et]
    refine beq_eq_false_iff_ne.mpr fun e2 => hno m hmj ?_
    rw [← e2]
    exact List.getElem?_eq_getElem _
  · have rr := r.eraseIdx j
    rw [erase_mapS] at rr
    refine ⟨.non, _, I.lset (its' := its.eraseIdx j) (t' := s.toks) hH e ?_ rr ?_, rfl, q⟩
    · show its.toArray.eraseIdxIfInBounds j = (its.eraseIdx j).toArray
      rw [List.eraseIdxIfInBounds_toArray]
    · have := List.length_eraseIdx_le zs j
      rw [List.length_map]
      omega
/-! ### repr of data, nothing being shown -/
def rReprD (K : PySem.W.Frag) : List V → Hp → VK → Prop := fun xs H Q => ∃ (a : Addr) (d : PyData), xs = [.ref a] ∧ Dp K H (.ref a) d ∧ d.showable = true ∧ d.hasDict = false ∧ d.depth ≤ 60 ∧ d.shown.length ≤ sizeLine ∧ Q (.str d.shown) H
theorem call_reprD {X : Cx} (gd : X.A.guards = some [] ∧ X.A.units + 64 < cLine) : CallR X (.builtin "repr") (rReprD X.K) := by
  intro pins s σ H xs us Q I r h
  obtain ⟨a, d, rfl, hd, hs, hn, hp, hz, q⟩ := h
  obtain ⟨u, rfl, ru⟩ := vals1 r
  obtain ⟨as, rd⟩ := Dp.reads I d (.ref a) u hd ru
  cases (show u = Value.ref a from ru)
  refine repr_of_reads' rd hs (PyData.noDict_hsm hn) gd.1 (by omega) (fun _ _ e => e) (fun h' t tk hk => ⟨.str _, H, I.kept (t' := tk) hk, ⟨_, rfl⟩, q⟩) hz
/-! ### an own class made where what is raised is wished for at the slots -/
def tMakeS (C : Addr) (sp : Sp) (dvs : List V) (E : L2.St → XK) (t : TA) : TE := fun σ H Q => t σ H fun vs H1 => ∀ o d, H1 o = none → H1 d = none → d ≠ o → sp (.ref o :: (vs ++ dvs)) (upd (upd H1 d (.own o)) o (.ins C d [])) (fun v H2 => v = .non ∧ Q (.ref o) H2) (E σ)
section
variable {X : Cx} {CX : CXT} {k : Nat} {f C : Addr} {fd : FuncData} {ps : List Str} {sp : Sp} {dvs : List V} {ds : List Value} {E : L2.St → XK} {x : Str} {p pos : Pos} {e : Expr} {es : List Expr} {t : TA}
theorem pe_makeS (M : Mk X.K C f) (F : FnOk X.prog X.w X.K X.mg X.base CX k f fd ps sp) (hr : Room (k + 1) X.A) (hg : Gl X x) (hm : X.mg x = some (.ref C)) (hb : Binds X.K fd ps ds) (hd : Vals dvs ds) (hx : ∀ σ, PassesAt CX X σ (E σ)) (ha : PA X (e :: es) t)
    (hdb : (x == ("__debug__" : Str)) = false := by decide) (he : starEach (e :: es) X.env = (false, eval e X.env) :: starEach es X.env := by rfl) (hpl : (backTo pos (starEach es X.env)).any (·.1) = false := by rfl) :
    PE X (.Call (.Name x p) (e :: es) [] pos) (tMakeS C sp dvs E t) := by
  refine ⟨fun pins s σ H Q I h => wpAny_Call_Name_kw (ld_glob I hg hm ?_ hdb)⟩
  refine PySem.W.callWith_K (h₀ := X.base) I.ok.mod.kin M.kp (thn (ha.run pos pins s σ H _ I h) fun us s1 ⟨vs, H1, I1, r, q⟩ => ⟨I1.kIn, ?_⟩) he hpl
  have g0 : H1 (s1.heap.objs.size + 1) = none := I1.hok.fresh (Nat.le_succ _)
  have g1 : H1 s1.heap.objs.size = none := I1.hok.fresh (Nat.le_refl _)
  have todo := q _ _ g0 g1 (Nat.ne_of_lt (Nat.lt_succ_self _))
  have J := Inv.made (C := C) I1
  have rr : Vals (V.ref (s1.heap.objs.size + 1) :: (vs ++ dvs)) (Value.ref (s1.heap.objs.size + 1) :: (us ++ ds)) := .cons rfl (r.append hd)
  have many : (Value.ref (s1.heap.objs.size + 1) :: us ++ ds).length = ps.length := (rr.length.symm.trans (F.len _ _ _ _ todo))
  refine wpAny_call (make_map (f := f) I1.kIn M.makes M.init (beq_iff_eq.mp M.fn) (codeAny_mono (F.run _ X.stack _ _ ⟨_, []⟩ _ _ _ (E σ) (hr.make C us []) (J.env0.make C us []) (hb _ (Value.ref (s1.heap.objs.size + 1) :: us) J.kIn many) rr todo) fun
    | .error er, s2, z => hx σ pins _ _ er s2 J z
    | .ok (.ret u), s2, z => ?_
    | .ok .next, _, z => False.elim z
    | .ok .brk, _, z => False.elim z
    | .ok .cont, _, z => False.elim z))
  obtain ⟨v, H3, J3, rv, rfl, z3⟩ := J.after z
  exact ⟨rv, .ref (s1.heap.objs.size + 1), H3, J3, rfl, z3⟩
end
end My

set_option Elab.async false
set_option linter.all false
set_option maxRecDepth 100000
set_option maxHeartbeats 4000000
/-! ### defs that close over their class, and super().__init__(..) of an own error -/
namespace My
open PySem L2 NdefX
/-- a block whose activation is known -/
structure PSat (X : Cx) (c : Code) (body : List Stmt) (t : TS) : Prop where
  run : ∀ (pins : List (Addr × Obj)) (s : Shared) (σ : L2.St) (H : Hp) (D : Ends), Inv X pins σ H s → t D σ H → wpAt (model X.prog X.w) X.A c (execs body X.env) (SP X pins D) X.xe s
structure PSat1 (X : Cx) (c : Code) (st : Stmt) (t : TS) : Prop where
  run : ∀ (pins : List (Addr × Obj)) (s : Shared) (σ : L2.St) (H : Hp) (D : Ends), Inv X pins σ H s → t D σ H → wpAt (model X.prog X.w) X.A c (exec st X.env) (SP X pins D) X.xe s
theorem psat_of {X : Cx} {c : Code} {body : List Stmt} {t : TS} (h : PSs X body t) : PSat X c body t := ⟨fun pins s σ H D I q => wpAt_of_wpAny (h.run pins s σ H D I q)⟩
theorem psat_cons {X : Cx} {c : Code} {st : Stmt} {rest : List Stmt} {t u : TS} (h1 : PSat1 X c st t) (h2 : PSs X rest u) : PSat X c (st :: rest) (tSeq t u) := by
  refine ⟨fun pins s σ H D I q => ?_⟩
  refine PySem.ks_wpAt_execs_cons (wpAt_mono (h1.run pins s σ H { D with nx := u D } I q) (fun f s1 r => ?_) fun _ _ z => z)
  cases f with
  | next =>
    obtain ⟨σ', H', I', r⟩ := r
    exact wpAt_of_wpAny (h2.run pins s1 σ' H' D I' r)
  | brk => exact r
  | cont => exact r
  | ret u => exact r
/-- the words of a def that closes over its class -/
def nfOf (x qual : Str) (st : Stmt) (cc cda : Addr) : NF := ⟨x, qual, defArgs st, defBody st, defScope st, [("__class__", cc)], cda⟩
structure FunX (K : PySem.W.Frag) (x qual : Str) (st : Stmt) (f : Addr) (fd : FuncData) (cc cda D : Addr) : Prop where
  ex : ∃ (oc : Value) (od : Option Addr) (kV doc pm : Value) (an : Option Addr) (ct : Value) (osl : Array (Option Value)),
    fd = PySem.W.fnX x qual (defArgs st) (defBody st) (defScope st) [("__class__", cc)] .none kV doc pm an (.ref cda) ct ∧ K.lookup f = some ⟨oc, od, .func fd, osl⟩ ∧ PySem.W.codeIn K (.ref cda) qual = true
  cell : ∃ (cl : Value) (cld : Option Addr) (csl : Array (Option Value)), K.lookup cc = some ⟨cl, cld, .cell (some (.ref D)), csl⟩
  kp : PySem.W.keepIn K (.ref f) = true
section
variable {P : Program} {w : World} {K : PySem.W.Frag} {mg : Str → Option Value} {base : Heap}
abbrev cxX (CX : CXT) (P : Program) (w : World) (K : PySem.W.Frag) (mg : Str → Option Value) (base : Heap) (N : List Str) (x qual : Str) (st : Stmt) (cc cda f : Addr) (A : Around) (outer : List Env) (s : Shared) (H : Hp) (E : XK) : Cx := ncx CX P w K mg base N (nfOf x qual st cc cda) f A outer s H E
theorem FunX.ok {CX : CXT} {x qual : Str} {st : Stmt} {f cc cda D : Addr} {fd : FuncData} {N ps : List Str} {k : Nat} {sp : Sp} (F : FunX K x qual st f fd cc cda D) (S : NScope N ps ["__class__"] (defScope st)) (len : ∀ vs H Q E, sp vs H Q E → vs.length = ps.length)
    (hbody : ∀ (A : Around) (outer : List Env) (s : Shared) (H : Hp) (vs : List V) (Q : VK) (E : XK), Room k (A.deeper (envF (nfOf x qual st cc cda) f s.heap.objs.size)) → sp vs H Q E →
      ∃ t, PSat (cxX CX P w K mg base N x qual st cc cda f A outer s H E) (.func (defBody st) (envF (nfOf x qual st cc cda) f s.heap.objs.size)) (defBody st) t ∧ t { nx := fun _ H' => Q .non H', rt := Q } (startF N vs [some (.ref D)]) H) :
    FnOk P w K mg base CX (k + 1) f fd ps sp := by
  obtain ⟨oc, od, kV, doc, pm, an, ct, osl, rfl, lk, hcd⟩ := F.ex
  obtain ⟨cl, cld, csl, hcc⟩ := F.cell
  refine ⟨len, fun A outer s H args us vs Q E hr e0 hb r hsp => ?_⟩
  have hl := len _ _ _ _ hsp
  have KX : K.In s.heap := e0.mod.kin.keeps fun b o e => (e0.bs b o e).1
  have lim : s.heap.NoLimit := e0.mod.nolimit.keeps fun b o e => (e0.bs b o e).1
  have hcB := e0.mod.kin _ _ hcc
  have C : CellsAt (nfOf x qual st cc cda).cl ["__class__"] [some (.ref D)] s.heap H := by
    refine ⟨rfl, fun y c e => ?_, fun a b c e1 e2 => ?_, fun i y e => ?_⟩
    · have e' : (if y = ("__class__" : Str) then some cc else none) = some c := by
        rw [← e]
        show _ = List.lookup y [(("__class__" : Str), cc)]
        rw [List.lookup_cons, List.lookup_nil]
        by_cases h : y = ("__class__" : Str)
        · rw [if_pos h, beq_iff_eq.mpr h]
        · rw [if_neg h, beq_eq_false_iff_ne.mpr h]
      split at e'
      · cases e'
        exact ⟨(e0.bs _ _ hcB).2, _, _, KX _ _ hcc, rfl⟩
      · cases e'
    · have g : ∀ (y : Str) (d : Addr), List.lookup y [(("__class__" : Str), cc)] = some d → y = "__class__" := by
        intro y d e
        rw [List.lookup_cons, List.lookup_nil] at e
        by_cases h : y = ("__class__" : Str)
        · exact h
        · rw [beq_eq_false_iff_ne.mpr h] at e
          cases e
      exact (g a c e1).trans (g b c e2).symm
    · match i, e with
      | 0, e =>
        have ey : y = "__class__" := (Option.some.inj e).symm
        subst ey
        exact ⟨cc, rfl, fun v hv => ⟨.ref D, by cases hv; rfl, _, KX _ _ hcc, rfl⟩⟩
      | i + 1, e => cases e
  refine PySem.ks_codeAny_call_defAt (fd := PySem.W.fnX x qual (defArgs st) (defBody st) (defScope st) [("__class__", cc)] .none kV doc pm an (.ref cda) ct) (body := defBody st) (binds := ps.zip us) hr.depth (KX _ _ lk) rfl lim (PySem.W.codeRec_of KX hcd) rfl hb S.nocell (fun ⟨n, v⟩ hy => S.par n (List.of_mem_zip hy).1) (fun h₁ hns kp => ?_) S.co S.gen S.kind
  obtain ⟨t, ht, hq⟩ := hbody A outer s H vs Q E (hr.deeper _) hsp
  have I : Inv (cxX CX P w K mg base N x qual st cc cda f A outer s H E) [] (startF N vs [some (.ref D)]) H { s with heap := h₁, toks := s.toks + (ps.zip us).length } := inv_startN S hr.hd e0 hl r C hns kp
  refine wpAt_mono (ht.run [] _ (startF N vs [some (.ref D)]) H _ I hq) (fun fl s' hs => ?_) fun e s' hs => hs
  have fin : ∀ {σ' : L2.St} {H' : Hp} {v : V} {u : Value}, Inv (cxX CX P w K mg base N x qual st cc cda f A outer s H E) [] σ' H' s' → L2.RelV v u → Q v H' → CE outer P w H s Q u s' :=
    fun {σ' H' v u} J rv q => ⟨v, H', J.os, J.bare, J.base, J.hok, rv, q⟩
  cases fl with
  | ret u =>
    obtain ⟨v, σ', H', J, rv, q⟩ := hs
    exact fin J rv q
  | next =>
    obtain ⟨σ', H', J, q⟩ := hs
    exact fin (v := V.non) (u := Value.none) J rfl q
  | brk =>
    obtain ⟨_, _, _, q⟩ := hs
    exact False.elim q
  | cont =>
    obtain ⟨_, _, _, q⟩ := hs
    exact False.elim q
end

/-! ### super().__init__(e) -/
/-- what the written part says of an own error that is made by an __init__ of its own: OexC, its place in the chain -/
structure ErrC (K : PySem.W.Frag) (C : Addr) : Prop where
  ox : OexC K C
  sup : PySem.W.ks_superIn K C C "__init__" = some (some (.builtin "ValueError.__init__"))
  isV : PySem.W.subIn K (.ref C) (.type "ValueError") = some true
  opq : PySem.W.nsIn K cStatics "thirdparty.any" = some none
  me : PySem.W.mroIn K C (.ref C) = some true
/-- what the code object of the def tells -/
structure CodeF (K : PySem.W.Frag) (P : Program) (cda : Addr) : Prop where
  at_ : ∃ (ccl : Value) (cdd : Option Addr) (vs : Array Value) (ccs : Array (Option Value)) (file : Str) (tf : Tok), K.lookup cda = some ⟨ccl, cdd, .fields vs, ccs⟩ ∧ vs[2]? = some (.str file tf) ∧ ((P.main.file : Str) == file) = true
  noTop : (P.main.scope.names.lookup ("super" : Str)).isSome = false
/-- the reading: the text is reckoned, nothing more -/
def tSupI (C : Addr) (ta : TA) : TS := fun D σ H => ∃ a : Addr, σ[0]? = some (some (.ref a)) ∧ H a = some (exo a C none) ∧ ta σ H fun vs H1 => vs.length ≤ 1000 ∧ H1 a = some (exo a C none) ∧ D.nx σ H1
section
variable {X : Cx}
theorem psat_sup {body : List Stmt} {f cc cda C : Addr} {fd : FuncData} {oc : Value} {od : Option Addr} {osl : Array (Option Value)} {cl : Value} {cld : Option Addr} {csl : Array (Option Value)} {ar : Arg} {e : Expr} {es : List Expr} {ta : TA} {p0 p1 apos cpos pos : Pos} {pl : Sem Bool}
    (T : ErrC X.K C) (G : CodeF X.K X.prog cda)
    (hf : X.K.lookup f = some ⟨oc, od, .func fd, osl⟩) (hp : (fd.params.posonlyargs ++ fd.params.args).head? = some ar)
    (hcell : X.K.lookup cc = some ⟨cl, cld, .cell (some (.ref C)), csl⟩) (hsuper : X.mg "super" = none)
    (hfu : X.env.func = some f) (hco : X.env.code = .ref cda) (hcl : X.env.cells.lookup ("__class__" : Str) = some cc)
    (hks : X.env.scope.names.lookup ("super" : Str) = some .globalImplicit) (hkc : X.env.scope.names.lookup ("__class__" : Str) = some .free) (hka : X.env.scope.names.lookup ar.arg = some .local)
    (hN : X.N[0]? = some ar.arg) (ha : PA X (e :: es) ta)
    (hev : eval (.Call (.Attribute (.Call (.Name "super" p0) [] [] p1) "__init__" apos) (e :: es) [] cpos) X.env = (do
      let ov ← attributeBase (.Call (.Name "super" p0) [] [] p1) "__init__" X.env (eval (.Call (.Name "super" p0) [] [] p1) X.env)
      standAt apos.atName
      let (f, first) ← holding [ov] (getMethod ov "__init__" pl)
      callWith cpos f first (backTo cpos (starEach (e :: es) X.env)) []))
    (hst : starEach (e :: es) X.env = (false, eval e X.env) :: starEach es X.env) (hpl : (backTo cpos (starEach es X.env)).any (·.1) = false)
    (hsw : swapsWith (.Call (.Attribute (.Call (.Name "super" p0) [] [] p1) "__init__" apos) (e :: es) [] cpos) none pos.line X.env = pure false) (hint : interactive X.env = false) :
    PSat1 X (.func body X.env) (.Expr (.Call (.Attribute (.Call (.Name "super" p0) [] [] p1) "__init__" apos) (e :: es) [] cpos) pos) (tSupI C ta) := by
  refine ⟨fun pins s σ H D I h => ?_⟩
  obtain ⟨a, hσ, ea, q⟩ := h
  obtain ⟨ccl, cdd, vs, ccs, file, tf, hcode, hvs, hfile⟩ := G.at_
  obtain ⟨nm, qn, N, bs, bm, sn, sub, ab, col, dd, k0, k1, k2, k3, k5, hC, hbm⟩ := T.ox.cls
  have hcls : PySem.W.clsIn X.K C = some { name := nm, bases := bs, mro := .ref C :: bm, ns := N, qualname := qn, hasDict := true, slotNames := sn, subclasses := sub, abstract := ab, collection := col, hasDel := false } := by unfold PySem.W.clsIn; rw [hC] <;> rfl
  obtain ⟨t1, ho⟩ := exo_at I.hok ea
  obtain ⟨hh, g, d, t, os⟩ := s
  have XK := I.kIn
  obtain ⟨mb, hb1, hb2⟩ := I.mod.blt
  obtain ⟨m, hn, hl⟩ := id I.loc
  obtain ⟨u0, ru0, lk0⟩ := hl 0 ar.arg (.ref a) hN hσ (.inl hka)
  obtain rfl : u0 = Value.ref a := ru0
  have hv : m ar.arg = some (Value.ref a) := by
    rcases lk0 with ⟨_, e⟩ | ⟨z, _⟩
    · exact e
    · exfalso
      rcases z with z | z
      · have z' : X.env.scope.names.lookup ar.arg = some .cell := z
        rw [hka] at z'; cases z'
      · have z' : X.env.scope.names.lookup ar.arg = some .free := z
        rw [hka] at z'; cases z'
  refine PySem.ks_wpAt_Expr_any (PySem.ks_wpAt_MethodCall ?_ hev) hint hsw
  refine PySem.ks_wpAt_super_base (env := X.env) hks hkc (by decide) hfu (XK _ _ hf) rfl hp hco (XK _ _ hcode) rfl hvs hfile G.noTop ?_
  refine PySem.W.ks_loadName_global I.ok.kind hks (PySem.Calls.loadGlobal_builtin (by rw [I.ok.glob]; exact I.mod.glob.keeps I.bk) hsuper (by rw [I.ok.blt]; exact hb1.keeps I.bk) ((hb2 "super" (by decide)).trans (by decide +kernel)) ⟨rfl, ?_⟩)
  refine wpAny_loadName_free I.ok.kind hkc hcl ⟨_, XK _ _ hcell, rfl⟩ ?_
  refine wpAny_loadName_local I.ok.kind hka hn hv ?_
  refine ks_wpAny_isType_cls (XK _ _ hC) rfl ⟨rfl, ?_⟩
  refine ks_wpAny_call_super (XK _ _ hC) rfl ho rfl (fun c z => nomatch z) (PySem.W.looks_mroIn XK T.me) (fun h' e1 k1' => ?_)
  have I1 : Inv X pins σ H ⟨h', g, d, t, os⟩ := I.kept (t' := t) k1'
  have X1 := I1.kIn
  have ho1 := k1' _ _ ho
  have IA : PySem.W.InstAt h' a _ C none := ⟨ho1, rfl, rfl, trivial⟩
  refine PySem.W.kxs_getMethod PySem.W.kxs_ValueError e1 (PySem.W.looks_opaque X1 T.opq) (l₀ := .ref C :: bm) ?_ rfl X1 ?_ (IA.type.andThen (PySem.W.looks_subIn X1 T.isV)) (PySem.W.ks_ne X1 IA hcls) (by decide) ?_
  · exact fun A Q E s k q => wpAny_bind ((PySem.W.looks_clsIn X1 hcls) A _ E s k (wpAny_pure q))
  · have q1 := T.sup
    unfold PySem.W.ks_superIn at q1
    rw [hcls] at q1
    exact q1
  have I2 : Inv X pins σ H ⟨h'.push (PySem.W.kxs_mw "ValueError.__init__" a), g, d, t + 1, os⟩ := I1.kept (t' := t + 1) (fun b o z => Heap.get?_push_of_some _ z)
  have hu2 : (h'.push (PySem.W.kxs_mw "ValueError.__init__" a)).get? h'.objs.size = some (PySem.W.kxs_mw "ValueError.__init__" a) := Heap.get?_push_size _ rfl
  have hHu : H h'.objs.size = none := I1.hok.fresh (Nat.le_refl _)
  have J2 : Inv X ((h'.objs.size, PySem.W.kxs_mw "ValueError.__init__" a) :: pins) σ H ⟨h'.push (PySem.W.kxs_mw "ValueError.__init__" a), g, d, t + 1, os⟩ := by
    refine I2.pins_of fun p hp => ?_
    rcases List.mem_cons.mp hp with rfl | hp
    · exact ⟨hu2, hHu, Nat.ne_of_gt I1.lt, I1.nofs (Nat.le_refl _), fun v z => nomatch z⟩
    · exact I2.pin p (List.mem_append_right _ hp)
  have key : wpAny (model X.prog X.w) X.A (spliced (backTo cpos (starEach (e :: es) X.env))) (fun vs s₁ => PySem.W.KxsAt "ValueError.__init__" h'.objs.size a s₁.heap ∧ wpAny (model X.prog X.w) X.A (call (.ref h'.objs.size) vs) (fun _ => SP X pins D .next) X.xe s₁) X.xe ⟨h'.push (PySem.W.kxs_mw "ValueError.__init__" a), g, d, t + 1, os⟩ := by
    refine thn (ha.run cpos _ _ σ H _ J2 q) fun us s3 ⟨vs3, H1, I3, rv, hvl, ea1, qn⟩ => ?_
    have hu3 := (I3.pin (h'.objs.size, PySem.W.kxs_mw "ValueError.__init__" a) (List.mem_append_right _ List.mem_cons_self)).1
    refine ⟨hu3, ?_⟩
    have J3 : Inv X pins σ H1 s3 := I3.pins_of fun p hp => I3.pin p (List.mem_append_right _ (List.mem_cons_of_mem _ hp))
    obtain ⟨t2, ho3⟩ := exo_at J3.hok ea1
    have hus : us.length ≤ sizeLine := by
      rw [← Paired.length rv, sizeLine_eq]; omega
    have hC3 := J3.kIn _ _ hC
    obtain ⟨h3, g3, d3, tk3, os3⟩ := s3
    refine wpAny_call (codeAny_of_tree ?_)
    show wpAny _ X.A.in1 (callAny (.ref h'.objs.size) ⟨us, []⟩) _ _ _
    simp only [callAny]
    refine wpAny_bind (wpAny_load hu3 ?_)
    simp only [PySem.W.kxs_mw, show (Value.type "method-wrapper" == Value.type "method" || Value.type "method-wrapper" == Value.type "builtin_function_or_method" || Value.type "method-wrapper" == Value.type "method-wrapper") = true by decide, if_true]
    refine PySem.W.KFB.if_so (by decide) ?_
    refine wpAny_bind (PySem.W.check_bound_init F.excBase_ValueError.toExcCallFacts hC3 ho3 rfl ?_)
    refine wpAny_bind (wpAny_pure (wpAny_pure ?_))
    refine ⟨plainId_quiet F.excBase_ValueError.init.plain _, codeAny_builtin F.excBase_ValueError.initEntry ?_⟩
    refine PySem.W.exc_init_tree (cls := .ref C) (t0 := t2) (dv := none) (c2 := .none) (c3 := .none) (b4 := .bool false) ho3 hus fun h4 k4 hx4 ht4 => ?_
    have J := J3.write (t' := tk3) (x := a) (e := a) (o := exo a C none) (h' := h4) (by rw [ea1]; exact True.intro) (.inl rfl) k4 ⟨_, hx4⟩ (exo_ok hx4)
    have eu : upd H1 a (exo a C none) = H1 := by
      funext b
      by_cases hb : b = a
      · rw [hb, upd_same, ea1]
      · rw [upd_ne hb]
    rw [eu] at J
    exact ⟨σ, H1, J, qn⟩
  rw [hst] at key ⊢
  refine PySem.W.kxs_callWith (i := "ValueError.__init__") (x := a) (by show (false || (backTo cpos (starEach es X.env)).any (·.1)) = false; rw [hpl]; rfl) ?_
  exact PySem.Calls.evalArgs_plain key
end
end My

set_option Elab.async false
set_option linter.all false
set_option maxRecDepth 100000
set_option maxHeartbeats 4000000
/-! ### own errors: made, raised, caught, asked -/
namespace My
open PySem L2 NdefX
/-- __init__ of an error with one field: what it promises -/
def spErr1 (C : Addr) (f : Str) (P : V → Prop) : Sp := fun vs H Q _ => ∃ (a : Addr) (v : V), vs = [.ref a, v] ∧ P v ∧ H a = some (exo a C none) ∧ ∀ dx, H dx = none → dx ≠ a → Q .non (upd (upd H dx (exd dx [(f, v)])) a (exo a C (some dx)))
/-- .. with two fields -/
def spErr2 (C : Addr) (f g : Str) (P : V → V → Prop) : Sp := fun vs H Q _ => ∃ (a : Addr) (v u : V), vs = [.ref a, v, u] ∧ P v u ∧ H a = some (exo a C none) ∧ ∀ dx, H dx = none → dx ≠ a → Q .non (upd (upd (upd H dx (exd dx [(f, v)])) a (exo a C (some dx))) dx (exd dx [(g, u), (f, v)]))
theorem err_kp {H1 H2 : Hp} {a dx : Addr} {fs : List (Str × V)} (na : H1 a = none) (nd : H1 dx = none) (k : ∀ b, b ≠ a → b ≠ dx → H2 b = H1 b) : Kp [] H1 (upd (del H2 a) dx (.xd fs)) := fun b o _ e => by
  have h1 : b ≠ a := ne_of_none e na
  have h2 : b ≠ dx := ne_of_none e nd
  rw [upd_ne h2, del_ne h1, k b h1 h2]
  exact e
theorem err1_made {C : Addr} {f : Str} {P : V → Prop} {v : V} {H1 : Hp} {Q : XK} (hp : P v) (q : ∀ d H', H1 d = none → H' d = some (.xd [(f, v)]) → Kp [] H1 H' → Q (.ref C) (some d) H') :
    ([v] : List V).length ≤ 1000 ∧ ∀ a, H1 a = none → spErr1 C f P (.ref a :: ([v] ++ [])) (upd H1 a (exo a C none)) (fun v H2 => v = .non ∧ ∃ (d : Addr) (fs : List (Str × V)), H2 a = some (exo a C (some d)) ∧ H2 d = some (exd d fs) ∧ H1 d = none ∧ Q (.ref C) (some d) (upd (del H2 a) d (.xd fs))) (fun _ _ _ => False) := by
  refine ⟨by show 1 ≤ 1000; decide, fun a na => ⟨a, v, rfl, hp, upd_same, fun dx ndx hne => ?_⟩⟩
  rw [upd_ne hne] at ndx
  refine ⟨rfl, dx, _, upd_same, by rw [upd_ne hne]; exact upd_same, ndx, q dx _ ndx upd_same (err_kp na ndx fun b h1 h2 => ?_)⟩
  rw [upd_ne h1, upd_ne h2, upd_ne h1]
theorem err2_made {C : Addr} {f g : Str} {P : V → V → Prop} {v u : V} {H1 : Hp} {Q : XK} (hp : P v u) (q : ∀ d H', H1 d = none → H' d = some (.xd [(g, u), (f, v)]) → Kp [] H1 H' → Q (.ref C) (some d) H') :
    ([v, u] : List V).length ≤ 1000 ∧ ∀ a, H1 a = none → spErr2 C f g P (.ref a :: ([v, u] ++ [])) (upd H1 a (exo a C none)) (fun v H2 => v = .non ∧ ∃ (d : Addr) (fs : List (Str × V)), H2 a = some (exo a C (some d)) ∧ H2 d = some (exd d fs) ∧ H1 d = none ∧ Q (.ref C) (some d) (upd (del H2 a) d (.xd fs))) (fun _ _ _ => False) := by
  refine ⟨by show 2 ≤ 1000; decide, fun a na => ⟨a, v, u, rfl, hp, upd_same, fun dx ndx hne => ?_⟩⟩
  rw [upd_ne hne] at ndx
  refine ⟨rfl, dx, _, by rw [upd_ne hne.symm]; exact upd_same, upd_same, ndx, q dx _ ndx upd_same (err_kp na ndx fun b h1 h2 => ?_)⟩
  rw [upd_ne h2, upd_ne h1, upd_ne h2, upd_ne h1]
/-- what the written part says of an error class that is caught and asked -/
structure KitC (K : PySem.W.Frag) (C : Addr) : Prop where
  cl : (PySem.W.clsIn K C).isSome = true
  ga : PySem.W.findIn K (.ref C) "__getattribute__" = some (some (.builtin "BaseException.__getattribute__"))
  gg : PySem.W.findIn K (.ref C) "__getattr__" = some none
  bx : PySem.W.subIn K (.ref C) (.type "BaseException") = some true
  hc : PySem.W.findIn K (.ref C) "__class__" = some (some (.builtin "object.__class__"))
  hn : PySem.W.specialIn K (.builtin "object.__class__") "__get__" = some (some (.builtin "getset_descriptor.__get__"))
  ht : PySem.W.takesIn K (.builtin "object.__class__") = some true
  ob : PySem.W.mroIn K C (.type "object") = some true
/-- isinstance(e, c), e the error that the suite holds -/
def rIsX (K : PySem.W.Frag) (a : Addr) (cls : Value) (d : Option Addr) : List V → Hp → VK → Prop := fun xs H Q => ∃ (c : V) (cv : Value) (b : Bool) (D dd : Addr) (fs : List (Str × V)), xs = [.ref a, c] ∧ (∀ u, RelV c u → u = cv) ∧ cls = .ref D ∧ d = some dd ∧ H dd = some (.xd fs) ∧ KitC K D ∧ PySem.W.kitOne K (.ref D) cv = some b ∧ Q (.bl b) H
/-- .. a tuple of classes that was just laid -/
def rIsXT (K : PySem.W.Frag) (a : Addr) (cls : Value) (d : Option Addr) : List V → Hp → VK → Prop := fun xs H Q => ∃ (tp : Addr) (cs : List V) (us : List Value) (b : Bool) (D dd : Addr) (fs : List (Str × V)), xs = [.ref a, .ref tp] ∧ H tp = some (.tup cs) ∧ Paired ClsV cs us ∧ cls = .ref D ∧ d = some dd ∧ H dd = some (.xd fs) ∧ KitC K D ∧ PySem.W.kitAny K (.ref D) us = some b ∧ Q (.bl b) H
section
variable {X : Cx} {a : Addr} {oe : Obj} {cls : Value} {d : Option Addr} {pn : List (Addr × Obj)}
theorem inst_x {pins : List (Addr × Obj)} {s : Shared} {σ : L2.St} {H : Hp} {D dd : Addr} {fs : List (Str × V)} (I : Inv (X.suite a ((a, oe) :: pn)) pins σ H s) (hz : Zc (.ref D) (some dd) oe) (hf : ∃ vs, oe.data = .fields vs) (e : H dd = some (.xd fs)) : ∃ od, PySem.W.InstAt s.heap a oe D (some od) := by
  obtain ⟨ha, _⟩ := I.pin (a, oe) (List.mem_append_left _ List.mem_cons_self)
  obtain ⟨vs, hv⟩ := hf
  obtain ⟨mA, hns, _⟩ := (show ObjOk X.prog X.w H s.heap dd (.xd fs) from I.hok dd _ e)
  obtain ⟨od, ho, _⟩ := lookIn_ns hns
  exact ⟨od, ha, hz.1, by unfold PySem.W.notCls; rw [hv] <;> rfl, by rw [hz.2]; exact ho⟩
theorem call_isX (hz : Zc cls d oe) (hf : ∃ vs, oe.data = .fields vs) : CallR (X.suite a ((a, oe) :: pn)) (.builtin "isinstance") (rIsX X.K a cls d) := by
  intro pins s σ H xs us Q I r h
  obtain ⟨c, cv, b, D, dd, fs, rfl, hcv, rfl, rfl, ed, T, e, q⟩ := h
  obtain ⟨u1, u2, rfl, r1, r2⟩ := vals2 r
  cases (show u1 = Value.ref a from r1)
  cases hcv _ r2
  obtain ⟨od, J⟩ := inst_x I hz hf ed
  exact PySem.W.kia_one (PySem.W.kitx_exc T.cl T.ga T.gg T.bx T.hc T.hn T.ht T.ob) I.kIn J e (fun z => nomatch z) fun tk => ⟨.bl b, H, I.tok tk, rfl, q⟩
theorem call_isXT (hz : Zc cls d oe) (hf : ∃ vs, oe.data = .fields vs) : CallR (X.suite a ((a, oe) :: pn)) (.builtin "isinstance") (rIsXT X.K a cls d) := by
  intro pins s σ H xs us Q I r h
  obtain ⟨tp, cs, ws, b, D, dd, fs, rfl, hT, k, rfl, rfl, ed, T, e, q⟩ := h
  obtain ⟨u1, u2, rfl, r1, r2⟩ := vals2 r
  cases (show u1 = Value.ref a from r1)
  cases (show u2 = Value.ref tp from r2)
  obtain ⟨od, J⟩ := inst_x I hz hf ed
  obtain ⟨_, its, rv, o, h1, h2, n, h3⟩ := (show ObjOk X.prog X.w H s.heap tp (.tup cs) from I.hok tp _ hT)
  cases ClsV.all k rv
  obtain ⟨oc, od2, dt, sl⟩ := o
  simp only at h2 h3
  subst h2 h3
  exact PySem.W.kia_tup (PySem.W.kitx_exc T.cl T.ga T.gg T.bx T.hc T.hn T.ht T.ob) I.kIn J h1 e (fun z => nomatch z) fun tk => ⟨.bl b, H, I.tok tk, rfl, q⟩
end
end My

set_option Elab.async false
set_option linter.all false
set_option maxRecDepth 100000
set_option maxHeartbeats 4000000
/-! ### try with several clauses that bind the error -/
namespace My
open PySem PySem.Spec PyProof.Rows L2
/-- one clause: the class that it names, the slot of its name, its suite's reading -/
structure Cla where
  c : Value
  i : Nat
  ts : Addr → Value → Option Addr → TS
/-- behind a suite the name in slot i is gone -/
def Ends.off (i : Nat) (D : L2.Ends) : L2.Ends where
  nx σ H := D.nx (σ.set i none) H
  rt := D.rt
  bk σ H := D.bk (σ.set i none) H
  ct σ H := D.ct (σ.set i none) H
/-- what clauses, tried in turn, wish -/
def wClas (K : PySem.W.Frag) (W0 : WX) (D : L2.Ends) : List Cla → WX
  | [] => W0
  | k :: ks => fun cls d σ H => ∃ hit, PySem.W.exmOne K cls k.c = some hit ∧ (hit = true → ∀ a, H a = none → k.ts a cls d (Ends.off k.i D) (σ.set k.i (some (.ref a))) H) ∧ (hit = false → wClas K W0 D ks cls d σ H)
/-- the clauses as they are written -/
inductive Clauses (X : Cx) : List ExceptHandler → List Cla → Prop
  | nil : Clauses X [] []
  | cons {k : Cla} {ks : List Cla} {x n : Str} {b1 : Stmt} {bs : List Stmt} {p1 p2 : Pos} {hs : List ExceptHandler} (nm : Names X x k.c) (at_ : X.N[k.i]? = some n) (lo : X.env.kindOf n = some .local)
      (suite : ∀ (a : Addr) (oe : Obj) (cls : Value) (d : Option Addr) (pn : List (Addr × Obj)), Zc cls d oe → (∃ vs, oe.data = .fields vs) → PSs (X.suite a ((a, oe) :: pn)) (b1 :: bs) (k.ts a cls d)) (more : Clauses X hs ks) :
      Clauses X (.ExceptHandler (some (.Name x p1)) (some n) (b1 :: bs) p2 :: hs) (k :: ks)
section
variable {X : Cx} {pins : List (Addr × Obj)} {σ : L2.St} {H : Hp} {s0 sI : Shared} {h3 B : Heap} {a : Addr} {cls : Value} {d : Option Addr} {D : L2.Ends} {W0 : WX}
/-- the clauses are tried, the error being at a -/
theorem clauses_run (top : X.stack = X.env :: X.outer) (fr : X.env.frame = some X.env.locals) (nd : X.N.Nodup) (tk : Takes X W0) (J : Inv X pins σ H sI) (na : H a = none)
    (J' : ∀ h4, HandSPX.FlyingZ B (X.env :: X.outer) a (Zc cls d) h4 → h3.UpToSlots h4 → Inv X pins σ H { s0 with heap := h4 })
    (out : W0 cls d σ H → ∀ (h4 : Heap), HandSPX.HeldZ B (X.env :: X.outer) a (Zc cls d) X.env.locals h4 → h3.UpToSlots h4 → X.xe (.ref a) { s0 with heap := h4 })
    (fl : HandSPX.FlyingZ B (X.env :: X.outer) a (Zc cls d) h3) : ∀ {hs : List ExceptHandler} {ks : List Cla}, Clauses X hs ks → wClas X.K W0 D ks cls d σ H →
      wpAny (model X.prog X.w) X.A (handleBy (.ref a) X.env hs) (SP X pins D) X.xe { s0 with heap := h3 } := by
  have ok := J.ok
  have J3 := J' h3 fl (Heap.UpToSlots.refl _)
  have far : ∀ {h : Heap} {o : Obj} {vs : Array Value}, h.FunFrames B (X.env :: X.outer) → h.get? a = some o → o.data = .fields vs → a ∉ frs (X.env :: X.outer) := by
    intro h o vs ff e dd hm
    obtain ⟨_, o', e', other⟩ := ff.mem hm
    cases e.symm.trans e'
    exact other _ dd
  obtain ⟨oe, vs, he, hz, hd⟩ := fl.there
  have away := far fl.2.2.1 he hd
  have nL : a ≠ X.env.locals := by
    intro z
    exact away (List.mem_filterMap.mpr ⟨X.env, List.mem_cons_self, by rw [fr, z]⟩)
  have nF : a ∉ X.fs := by
    intro hm
    obtain ⟨e, me, q⟩ := List.mem_filterMap.mp hm
    exact away (List.mem_filterMap.mpr ⟨e, List.mem_cons_of_mem _ me, q⟩)
  have S3 := J3.suite he hd na nL nF
  intro hs ks C
  induction C with
  | nil =>
    intro q
    refine wpAny_handleBy_nil ?_
    obtain ⟨_, _, _, o1, v1, T1, _, _, e1, _, d1, f1, _⟩ := id fl
    unfold PySem.passOn
    refine wpAny_bind (wpAny_field e1 d1 f1 ?_)
    rw [if_neg (show ¬ ((Value.ref T1 == Value.none) = true) by simp)]
    have leave : wpAny (model X.prog X.w) X.A (setFlight (.ref a) X.env.frame) (fun _ s4 => wpAny (model X.prog X.w) X.A (throw (.ref a) : Sem Flow) (SP X pins D) X.xe s4) X.xe { s0 with heap := h3 } := by
      rw [fr]
      exact HandSPX.setFlight_upZ fl fun h4 held up => wpAny_throw (out q h4 held up)
    first | exact wpAny_bind (wpAny_pure (wpAny_bind leave)) | exact wpAny_bind leave
  | @cons k ks x n b1 bs p1 p2 hs nm at_ lo suite more ih =>
    rintro ⟨hit, e1, yes, no⟩
    refine wpAny_handleBy_cons (codeAny_handlers_test ?_) (by intro q; cases q)
    have looks : PySem.W.Looks (model X.prog X.w) h3 (typeOf (.ref a)) cls := by
      intro A Q E s kk q
      exact wpAny_typeOf_ref (kk _ _ he) (by rw [hz.1]; exact q)
    have named : ∀ {Q : Value → Shared → Prop} {E : Value → Shared → Prop}, Q k.c { s0 with heap := h3 } → wpAny (model X.prog X.w) (X.A.mark (some (.ref a))) (eval (.Name x p1) X.env) Q E { s0 with heap := h3 } := by
      intro Q E q
      obtain ⟨g1, g2, m1 | ⟨m1, m2, m3⟩⟩ := nm
      · exact ld_glob (X := X.suite a ((a, oe) :: (X.pn ++ pins))) S3 g1 m1 q g2
      · exact ld_blt (X := X.suite a ((a, oe) :: (X.pn ++ pins))) S3 g1 m1 m2 q m3 g2
    refine named ((PySem.W.exm_one (M := model X.prog X.w) J3.kIn looks e1).here ?_)
    cases hit with
    | false => exact (show wpAny _ X.A (handleBy (.ref a) X.env hs) _ _ _ from ih (no rfl))
    | true =>
      refine codeAny_handlers_suite_as (HandSPX.lands_againZ fl fun h4 fl4 up4 => ?_)
      have J4 := J' h4 fl4 up4
      obtain ⟨o4, v4, e4, z4, d4⟩ := fl4.there
      refine store_ok (X := X.suite a ((a, o4) :: (X.pn ++ pins))) (v := .ref a) (J4.suite e4 d4 na nL nF) nd at_ (.inl lo) rfl (fun s5 S5 => ?_) (.inr lo)
      refine wpAny_mono ((suite a o4 cls d (X.pn ++ pins) z4 ⟨_, d4⟩).run [] s5 _ H _ S5 (yes rfl a na)) ?_ fun _ _ z => z.elim
      rintro fl' s6 hsp
      have close : ∀ {τ : L2.St} {G : Hp} {Q : Shared → Prop}, Inv (X.suite a ((a, o4) :: (X.pn ++ pins))) [] τ G s6 → (∀ s7, Inv X pins (τ.set k.i none) G s7 → Q s7) →
          wpAny (model X.prog X.w) X.A (do bindName X.env n .none; unbindBehindTheSuite X.env n p2) (fun _ s7 => Q s7) X.xe s6 := fun S6 hq => gone_ok (S6.unsuite ok) nd at_ lo hq
      cases fl' with
      | ret u =>
        obtain ⟨v, τ, G, S6, r, q⟩ := hsp
        exact close S6 fun s7 J7 => ⟨_, _, _, J7, r, q⟩
      | _ =>
        obtain ⟨τ, G, S6, q⟩ := hsp
        exact close S6 fun s7 J7 => ⟨_, _, J7, q⟩
end
section
variable {X : Cx} {body : List Stmt} {h1 : ExceptHandler} {hs : List ExceptHandler} {ks : List Cla} {pos : Pos} {tb : WX → TS} {W0 : WX}
theorem ps_try_clauses (top : X.stack = X.env :: X.outer) (fr : X.env.frame = some X.env.locals) (nd : X.N.Nodup) (C : Clauses X (h1 :: hs) ks) (tk : Takes X W0)
    (hb : ∀ (W : WX) (pn : List (Addr × Obj)) (xe : Value → Shared → Prop), Takes (X.tr pn xe) W → PassesOwn (model X.prog X.w) X.A X.env xe → PSs (X.tr pn xe) body (tb W)) :
    PS X (.Try body (h1 :: hs) [] [] pos) (fun D σ H => tb (wClas X.K W0 D ks) D σ H) := by
  refine ⟨fun pins s σ H D I q0 => ?_⟩
  have ok := I.ok
  have frames : X.A.frames = some (X.env :: X.outer) := ok.frames.trans (by rw [top])
  let xe1 : Value → Shared → Prop := fun e s1 => wpAny (model X.prog X.w) X.A (noteFrame e X.env) (fun _ s2 => wpAny (model X.prog X.w) X.A (setFlight e none) (fun _ s3 => wpAny (model X.prog X.w) X.A (handleBy e X.env (h1 :: hs)) (SP X pins D) X.xe s3) X.xe s2) X.xe s1
  have takes : Takes (X.tr (X.pn ++ pins) xe1) (wClas X.K W0 D ks) := by
    rintro u s' ⟨a, B, sI, pins', σ', H', cls, d, rfl, J', nb, up, sky, na, os, ag, w⟩
    have J : Inv X pins σ' H' sI := J'.ofTry ok
    have sky' : Sky B (X.env :: X.outer) a (Zc cls d) X.env.locals s'.heap := by rw [← top]; exact sky
    refine Sky.land Zc.steady frames fr sky' fun h3 fl3 up3 => ?_
    refine clauses_run top fr nd tk J na (fun h4 fl4 up4 => J.landed nb fl4.1 ((up.trans up3).trans up4) os ag) (fun w0 h4 held up4 => ?_) fl3 C w
    exact tk _ _ ⟨a, B, sI, pins, σ', H', cls, d, rfl, J, nb, (up.trans up3).trans up4, .inr (.inr (by rw [top]; exact held)), na, os, ag, w0⟩
  refine wpAny_Try_except (wpAny_mono ((hb _ (X.pn ++ pins) xe1 takes PassesOwn.looking).run [] s σ H D (I.toTry _) q0) ?_ fun e s1 he => he)
  rintro f s1 hsp
  cases f with
  | next =>
    obtain ⟨τ, G, J, q⟩ := hsp
    exact wpAny_execs_nil ⟨τ, G, J.ofTry ok, q⟩
  | ret u =>
    obtain ⟨v, τ, G, J, r, q⟩ := hsp
    exact ⟨v, τ, G, J.ofTry ok, r, q⟩
  | _ =>
    obtain ⟨τ, G, J, q⟩ := hsp
    exact ⟨τ, G, J.ofTry ok, q⟩
end
section
variable {X : Cx} {body : List Stmt} {pos : Pos} {tb : WX → TS} {W0 : WX} {x1 n1 x2 n2 x3 n3 : Str} {c1 c2 c3 : Value} {i1 i2 i3 : Nat} {b1 b2 b3 : Stmt} {r1 r2 r3 : List Stmt} {p1 p2 p3 q1 q2 q3 : Pos} {t1 t2 t3 : Addr → Value → Option Addr → TS}
theorem ps_try_as2 (top : X.stack = X.env :: X.outer) (fr : X.env.frame = some X.env.locals) (nd : X.N.Nodup) (a1 : X.N[i1]? = some n1) (a2 : X.N[i2]? = some n2) (l1 : X.env.kindOf n1 = some .local) (l2 : X.env.kindOf n2 = some .local) (m1 : Names X x1 c1) (m2 : Names X x2 c2) (tk : Takes X W0)
    (hb : ∀ (W : WX) (pn : List (Addr × Obj)) (xe : Value → Shared → Prop), Takes (X.tr pn xe) W → PassesOwn (model X.prog X.w) X.A X.env xe → PSs (X.tr pn xe) body (tb W))
    (s1 : ∀ (a : Addr) (oe : Obj) (cls : Value) (d : Option Addr) (pn : List (Addr × Obj)), Zc cls d oe → (∃ vs, oe.data = .fields vs) → PSs (X.suite a ((a, oe) :: pn)) (b1 :: r1) (t1 a cls d))
    (s2 : ∀ (a : Addr) (oe : Obj) (cls : Value) (d : Option Addr) (pn : List (Addr × Obj)), Zc cls d oe → (∃ vs, oe.data = .fields vs) → PSs (X.suite a ((a, oe) :: pn)) (b2 :: r2) (t2 a cls d)) :
    PS X (.Try body [.ExceptHandler (some (.Name x1 p1)) (some n1) (b1 :: r1) q1, .ExceptHandler (some (.Name x2 p2)) (some n2) (b2 :: r2) q2] [] [] pos) (fun D σ H => tb (wClas X.K W0 D [⟨c1, i1, t1⟩, ⟨c2, i2, t2⟩]) D σ H) :=
  ps_try_clauses top fr nd (.cons m1 a1 l1 s1 (.cons m2 a2 l2 s2 .nil)) tk hb
theorem ps_try_as3 (top : X.stack = X.env :: X.outer) (fr : X.env.frame = some X.env.locals) (nd : X.N.Nodup) (a1 : X.N[i1]? = some n1) (a2 : X.N[i2]? = some n2) (a3 : X.N[i3]? = some n3) (l1 : X.env.kindOf n1 = some .local) (l2 : X.env.kindOf n2 = some .local) (l3 : X.env.kindOf n3 = some .local)
    (m1 : Names X x1 c1) (m2 : Names X x2 c2) (m3 : Names X x3 c3) (tk : Takes X W0)
    (hb : ∀ (W : WX) (pn : List (Addr × Obj)) (xe : Value → Shared → Prop), Takes (X.tr pn xe) W → PassesOwn (model X.prog X.w) X.A X.env xe → PSs (X.tr pn xe) body (tb W))
    (s1 : ∀ (a : Addr) (oe : Obj) (cls : Value) (d : Option Addr) (pn : List (Addr × Obj)), Zc cls d oe → (∃ vs, oe.data = .fields vs) → PSs (X.suite a ((a, oe) :: pn)) (b1 :: r1) (t1 a cls d))
    (s2 : ∀ (a : Addr) (oe : Obj) (cls : Value) (d : Option Addr) (pn : List (Addr × Obj)), Zc cls d oe → (∃ vs, oe.data = .fields vs) → PSs (X.suite a ((a, oe) :: pn)) (b2 :: r2) (t2 a cls d))
    (s3 : ∀ (a : Addr) (oe : Obj) (cls : Value) (d : Option Addr) (pn : List (Addr × Obj)), Zc cls d oe → (∃ vs, oe.data = .fields vs) → PSs (X.suite a ((a, oe) :: pn)) (b3 :: r3) (t3 a cls d)) :
    PS X (.Try body [.ExceptHandler (some (.Name x1 p1)) (some n1) (b1 :: r1) q1, .ExceptHandler (some (.Name x2 p2)) (some n2) (b2 :: r2) q2, .ExceptHandler (some (.Name x3 p3)) (some n3) (b3 :: r3) q3] [] [] pos) (fun D σ H => tb (wClas X.K W0 D [⟨c1, i1, t1⟩, ⟨c2, i2, t2⟩, ⟨c3, i3, t3⟩]) D σ H) :=
  ps_try_clauses top fr nd (.cons m1 a1 l1 s1 (.cons m2 a2 l2 s2 (.cons m3 a3 l3 s3 .nil))) tk hb
end
end My

set_option Elab.async false
set_option linter.all false
set_option maxRecDepth 100000
set_option maxHeartbeats 4000000
/-! ### len(set(t)), t a tuple of any texts -/
namespace My
open PySem PySem.Spec PyProof.Rows L2
/-- how many different ones stand among the first i -/
def dis (xs : List Str) : Nat → Nat
  | 0 => 0
  | i + 1 => if (xs.take i).any (· == xs.getD i Str.empty) = true then dis xs i else dis xs i + 1
theorem dis_le (xs : List Str) : ∀ i, dis xs i ≤ i
  | 0 => Nat.le_refl 0
  | i + 1 => by
    have := dis_le xs i
    unfold dis
    split <;> omega
theorem dis_full {xs : List Str} : ∀ i, dis xs i = i → ∀ j, j < i → (xs.take j).any (· == xs.getD j Str.empty) = false
  | 0, _, j, hj => absurd hj (Nat.not_lt_zero j)
  | i + 1, h, j, hj => by
    have l := dis_le xs i
    unfold dis at h
    split at h
    · omega
    · rename_i q
      by_cases e : j = i
      · rw [e]; exact Bool.eq_false_iff.mpr q
      · exact dis_full i (by omega) j (by omega)
theorem any_take {xs : List Str} {j : Nat} {z : Str} : (xs.take j).any (· == z) = true ↔ ∃ i, i < j ∧ xs[i]? = some z := by
  rw [List.any_eq_true]
  constructor
  · rintro ⟨y, hy, e⟩
    obtain ⟨i, hi⟩ := List.mem_iff_getElem?.mp hy
    rw [List.getElem?_take] at hi
    split at hi
    · rename_i hij
      exact ⟨i, hij, by rw [hi, eq_of_beq e]⟩
    · cases hi
  · rintro ⟨i, hi, e⟩
    exact ⟨z, List.mem_iff_getElem?.mpr ⟨i, by rw [List.getElem?_take, if_pos hi, e]⟩, beq_self_eq_true z⟩
theorem dis_nodup {xs : List Str} : dis xs xs.length = xs.length ↔ xs.Nodup := by
  constructor
  · intro h
    unfold List.Nodup
    rw [List.pairwise_iff_getElem]
    intro i j hi hj hij e
    have z := dis_full _ h j hj
    have g : xs.getD j Str.empty = xs[j] := by rw [List.getD_eq_getElem?_getD, List.getElem?_eq_getElem hj]; rfl
    rw [g] at z
    rw [any_take.mpr ⟨i, hij, by rw [List.getElem?_eq_getElem hi, e]⟩] at z
    cases z
  · intro h
    have key : ∀ i, i ≤ xs.length → dis xs i = i := by
      intro i
      induction i with
      | zero => intro _; rfl
      | succ i ih =>
        intro hi
        have g : xs.getD i Str.empty = xs[i] := by rw [List.getD_eq_getElem?_getD, List.getElem?_eq_getElem (show i < xs.length by omega)]; rfl
        unfold dis
        rw [ih (by omega), g, if_neg]
        intro q
        obtain ⟨j, hj, e⟩ := any_take.mp q
        have hj' : j < xs.length := by omega
        rw [List.getElem?_eq_getElem hj'] at e
        exact List.pairwise_iff_getElem.mp h j i hj' (by omega) hj (Option.some.inj e)
    exact key _ (Nat.le_refl _)
/-- a set that was just made -/
abbrev nset (led : Bool) : Obj := { cls := .type "set", dict := none, data := .set #[] 0 (.fresh 0 0 led) }
abbrev SetN (p : Program) (w : World) (h : Heap) (S : Addr) (xs : List Str) (i : Nat) : Prop := h.SetOf (PySem.strKind p w) S (fun z => (xs.take i).any (· == z)) (dis xs i)
section
variable {p : Program} {w : World} {A : Around} {R : Result → Shared → Prop} {it : Addr} {fp wr : List Addr} {G : Array GenState → Array GenState → Prop} {n : Nat} {Pi : Nat → Value → Prop} {St : Nat → Shared → Prop}
theorem SetN.at {h h' : Heap} {S : Addr} {xs : List Str} {i : Nat} (q : SetN p w h S xs i) (k : ∀ o, h.get? S = some o → h'.get? S = some o) : SetN p w h' S xs i := by
  obtain ⟨o, es, ep, t, ho, r⟩ := q
  exact ⟨o, es, ep, t, k o ho, r⟩
theorem SetN.next {h : Heap} {S : Addr} {xs : List Str} {i : Nat} (hi : i < xs.length) (q : h.SetOf (PySem.strKind p w) S (fun z => (xs.take i).any (· == z) || decide (z = xs.getD i Str.empty)) (if (xs.take i).any (· == xs.getD i Str.empty) = true then dis xs i else dis xs i + 1)) : SetN p w h S xs (i + 1) := by
  refine SetOf_congr q (fun z => ?_) rfl
  have g : xs.getD i Str.empty = xs[i] := by rw [List.getD_eq_getElem?_getD, List.getElem?_eq_getElem hi]; rfl
  rw [List.take_add_one, List.getElem?_eq_getElem hi, g, List.any_append]
  congr 1
  show decide (z = xs[i]) = ((xs[i] == z) || false)
  rw [Bool.or_false]
  by_cases e : z = xs[i]
  · rw [e, beq_self_eq_true, decide_eq_true rfl]
  · rw [decide_eq_false e, beq_eq_false_iff_ne.mpr fun z' => e z'.symm]
/-- the rest of the items goes into the set -/
theorem set_grows (W : WalksS p w A.in1 it fp wr G n Pi St) (S : Addr) (out : S ∉ fp) (xs : List Str) (len : n = xs.length) (few : xs.length ≤ 1000) (txt : ∀ i v, Pi i v → ∃ t, v = .str (xs.getD i Str.empty) t) :
    ∀ (left i : Nat) (s : Shared), n = i + left → St i s → SetN p w s.heap S xs i → (∀ s', Moved (S :: wr) G s s' → SetN p w s'.heap S xs n → R (.ok (.ret .none)) s') → codeAny (model p w) A (.builtin "set.update.loop" ⟨[.ref S, .ref it], []⟩) R s
  | 0, i, s, e, st, q, fin => by
    have e' : i = n := by omega
    subst e'
    have notW : S ∉ wr := fun z => out (W.sub _ z)
    refine codeAny_builtin F.entry_set_update_loop (by
      rw [Around.under_plainId F.plain_set_update_loop _]
      exact wpAny_bind (W.done s _ _ st fun s' hm => wpAny_pure (fin s' (hm.mono fun b hb => List.mem_cons_of_mem _ hb) (q.at fun o => hm.heap S o notW))))
  | left + 1, i, s, e, st, q, fin => by
    have notW : S ∉ wr := fun z => out (W.sub _ z)
    have hi : i < n := by omega
    refine codeAny_builtin F.entry_set_update_loop ?_
    rw [Around.under_plainId F.plain_set_update_loop _]
    refine wpAny_bind (W.item i s _ _ hi st fun v s1 hv st1 m1 => ?_)
    obtain ⟨t, rfl⟩ := txt i v hv
    have q1 : SetN p w s1.heap S xs i := q.at fun o => m1.heap S o notW
    have room : dis xs i + 1 < scanBound := by
      have := dis_le xs i
      unfold scanBound
      omega
    show wpAny _ A.in1 (holding [Value.str (xs.getD i Str.empty) t] (setAdd S (.str (xs.getD i Str.empty) t)) >>= _) _ _ s1
    refine wpAny_bind (wpAny_holding ?_)
    unfold setAdd
    refine wpAny_holding (wpAny_bind ((PySem.strKind p w).pyHash (k := xs.getD i Str.empty) (strKind_is _ _ _ _) ?_))
    refine wpAny_setAddHashed_of (knd := PySem.strKind p w) (s := { s1 with toks := s1.toks + 1 }) (strKind_is _ _ _ _) rfl q1 room fun h2 sb q2 => ?_
    refine wpAny_pure ⟨plainId_quiet F.plain_set_update_loop _, set_grows W S out xs len few txt left (i + 1) _ (by omega) (W.frame _ s1 _ _ st1 (Nat.le_succ _) fun b hb o e1 => ?_) (SetN.next (by omega) q2) fun s3 m3 q3 => fin s3 (Moved.trans W.gtrans ((m1.mono fun b hb => List.mem_cons_of_mem _ hb).then_heap (Nat.le_succ _) fun b o hb e1 => ?_) m3) q3⟩
    · have ne : b ≠ S := fun z => out (by rw [← z]; exact hb)
      rw [sb.2 b ne]; exact e1
    · have ne : b ≠ S := fun z => hb (by rw [z]; exact List.mem_cons_self)
      rw [sb.2 b ne]; exact e1
end
section
variable {p : Program} {w : World} {A : Around} {E : Value → Shared → Prop} {s : Shared}
set_option maxHeartbeats 6400000 in
theorem set_of_texts {l : Addr} {items : Array Value} {xs : List Str} {Q : Value → Shared → Prop} (calm : A.handled = none) (tup : s.heap.IsTuple l items) (txts : StrsAre items.toList xs) (few : xs.length ≤ 1000)
    (go : ∀ (h' : Heap) (tk : Nat), SetN p w h' s.heap.objs.size xs xs.length → (∀ b o, s.heap.get? b = some o → h'.get? b = some o) → Q (.ref s.heap.objs.size) { s with heap := h', toks := tk }) :
    wpAny (model p w) A (call (.type "set") [.ref l]) Q E s := by
  obtain ⟨c, tl, mro⟩ := PySem.F.called_set.mro
  have made := PySem.F.called_set.made; have sub := PySem.F.called_set.sub; have nt := PySem.F.called_set.notType; have cc := PySem.F.called_set.canCreate
  have tcall := PySem.F.typeCall_set_1 (.ref l)
  refine wpAny_call (codeAny_of_tree (show wpAny _ _ (callAny (.type "set") _) _ _ _ from ?_))
  refine wpAny_pure ⟨Code.quiet_builtin _ (by decide +kernel), codeAny_builtin PySem.F.entry_type_call ?_⟩
  rw [Around.under_plain (weight_type_call_type "set" [.ref l] []) rfl]; repeat (any_goals (first | assumption | wp_step))
  refine codeAny_mono (code_set_new_1 (.ref l) (E := E) (Q₁ := fun v s1 => ∃ led : Bool, v = .ref s.heap.objs.size ∧ s1 = { s with heap := s.heap.push (nset led) }) fun led => ⟨led, rfl, rfl⟩) ?_
  rintro (e | fl) s1 hr
  · exact hr
  cases fl with
  | ret v =>
    obtain ⟨led, rfl, rfl⟩ := hr
    have at_ : (s.heap.push (nset led)).get? s.heap.objs.size = some (nset led) := Heap.get?_push_size _ rfl
    have isT : Shared.TypeIs { s with heap := s.heap.push (nset led) } (.ref s.heap.objs.size) "set" := ⟨_, at_, rfl⟩
    have look := PySem.F.called_set.init.lookup; have bind_ := PySem.F.called_set.init.bind (.ref s.heap.objs.size)
    repeat (any_goals (first | assumption | wp_step))
    refine codeAny_mono (codeAny_call_builtin (R := wants (fun r s2 => r = .none ∧ ∃ h' tk, s2 = { s with heap := h', toks := tk } ∧ SetN p w h' s.heap.objs.size xs xs.length ∧ ∀ b o, s.heap.get? b = some o → h'.get? b = some o) E)
      PySem.F.called_set.init.plain PySem.F.entry_set_init (check_set_init_1 isT ?_)) ?_
    · obtain ⟨⟨tc, td, tdat, tsl⟩, ho, hc, hn, hd⟩ := tup
      simp only at hc hd
      subst hc
      subst hd
      have ho1 : (s.heap.push (nset led)).get? l = some { cls := .type "tuple", dict := td, data := .seq items hn, slots := tsl } := Heap.get?_push_of_some _ ho
      have isTup : (s.heap.push (nset led)).IsTuple l items := ⟨_, ho1, rfl, hn, rfl⟩
      have n1 := PySem.F.sub_tuple_set; have n2 := PySem.F.sub_tuple_frozenset; have n3 : (Value.type "tuple" == Value.type "dict") = false := by decide
      unfold Builtin.«set.__init__» noKeywords Builtin.Frozenset.updateFrom
      generalize hI : pyIter = I
      wp_walk
      subst hI
      refine wpAny_pyIter_tuple isTup (wpAny_bind (wpAny_runValue ?_))
      have below : l < s.heap.objs.size := Heap.lt_size ho
      have sz : (s.heap.push (nset led)).objs.size = s.heap.objs.size + 1 := Heap.size_push _ _
      have len : items.size = xs.length := by rw [← StrsAre.len_eq txts]; exact Array.length_toList
      refine set_grows ((Walks.tuple (show A.in1.in1.in1.handled = none by simp [calm]) _ l (by rw [sz]; exact Nat.ne_of_lt (Nat.lt_succ_of_lt below)) items).toS) s.heap.objs.size ?far xs len few (fun i v hv => SS.strs_at txts i v (by rw [Array.getElem?_toList]; exact hv)) items.size 0 _ (Nat.zero_add _).symm ⟨⟨_, Heap.get?_push_size _ rfl, rfl, rfl⟩, isTup.push _⟩ ?start ?stop
      case far =>
        rw [sz]
        intro z
        rcases List.mem_cons.mp z with z | z
        · exact absurd z (Nat.ne_of_lt (Nat.lt_succ_self _))
        · exact absurd (List.mem_singleton.mp z).symm (Nat.ne_of_lt below)
      case start =>
        have empty := (setObjOf_fresh (knd := PySem.strKind p w) led).setOf (a := s.heap.objs.size) (h := (s.heap.push (nset led)).push { cls := .type "tuple_iterator", data := .fields #[.ref l, .int 0 0] }) (Heap.get?_push_of_some _ at_) (by unfold scanBound; omega)
        exact SetOf_congr empty (fun _ => rfl) rfl
      case stop =>
        rintro ⟨h', g', d', tk', os'⟩ mv q
        cases (show g' = s.gens from mv.gens)
        cases (show d' = s.drawn from mv.drawn)
        cases (show os' = s.os from mv.os)
        refine wpAny_pure (show wpAny _ _ (ret Value.none) _ _ _ from wpAny_pure ⟨rfl, h', tk', rfl, by rw [len] at q; exact q, fun b o e => mv.heap b o ?_ (Heap.get?_push_of_some _ (Heap.get?_push_of_some _ e))⟩)
        have hb := Heap.lt_size e
        intro z
        rcases List.mem_cons.mp z with z | z
        · exact absurd z (Nat.ne_of_lt hb)
        · have z' : b ∈ [(s.heap.push (nset led)).objs.size] := z
          rw [List.mem_singleton, sz] at z'
          exact absurd z' (Nat.ne_of_lt (Nat.lt_succ_of_lt hb))
    · rintro (e | fl2) s2 hr2
      · exact hr2
      cases fl2 with
      | ret r =>
        obtain ⟨rfl, h', tk, rfl, q, kp⟩ := hr2
        repeat (any_goals (first | assumption | wp_step))
        exact go _ _ q kp
      | _ => exact hr2.elim
  | _ => exact hr.elim
end
/-- len(set(t)) -/
def tLenT (K : PySem.W.Frag) (ta : TE) : TE := fun σ H Q => ta σ H fun x H1 => ∃ (l : Addr) (xs : List Str), x = .ref l ∧ SqT K H1 l (xs.map V.str) ∧ xs.length ≤ 1000 ∧ Q (.int (dis xs xs.length : Nat)) H1
theorem pe_lenSetT {X : Cx} {a : Expr} {ta : TE} {p p2 q pos : Pos} (hg : Gl X "len") (hm : X.mg "len" = none) (hg2 : Gl X "set") (hm2 : X.mg "set" = none) (ha : PE X a ta) (hc : X.calm = true := by rfl)
    (na : starEach [a] X.env = (false, eval a X.env) :: starEach [] X.env := by rfl) : PE X (.Call (.Name "len" p) [.Call (.Name "set" p2) [a] [] q] [] pos) (tLenT X.K ta) := by
  refine ⟨fun pins s σ H Q I h => ?_⟩
  refine Call_ (ld_blt I hg hm boot_len (callWith_builtin1 (args_cons (Call_ (ld_blt I hg2 hm2 boot_set ?_)) rfl) rfl rfl))
  refine callWith_type1 (args_cons (thn (ha.run pins s σ H _ I h) ?_) na) na rfl
  rintro v s1 ⟨x, H1, I1, rx, l, xs, rfl, tup, few, out⟩
  cases rx
  obtain ⟨its, rv, isT, _⟩ := I1.tuple tup
  refine args_nil (set_of_texts (I1.ok.hd hc) isT (by simpa using strsAre_of rv) few fun h' tk N kp => args_nil ?_)
  obtain ⟨o, es, ep, t, ho, ex, d1, _, _, _, f1, cnt⟩ := N
  have I2 : Inv X pins σ H1 { s1 with heap := h', toks := tk } := I1.kept fun b o e => kp b o e
  have dl := dis_le xs xs.length
  exact call_len_set ho ex d1 f1 (by rw [cnt]; unfold sizeLine at *; omega) ⟨.int (dis xs xs.length : Nat), H1, I2.tok _, ⟨_, by rw [cnt]⟩, out⟩
end My

set_option Elab.async false
set_option linter.all false
set_option maxRecDepth 100000
set_option maxHeartbeats 4000000
/-! ### calls of defs that take any number of values -/
namespace My
open PySem PySem.Spec PyProof.Rows L2
section
variable {X : Cx} {CX : CXT} {k : Nat} {f : Addr} {sp : Sp} {E : XK} {x : Str} {p pos : Pos} {e : Expr} {es : List Expr} {t : TA}
theorem back_from {pins : List (Addr × Obj)} {σ : L2.St} {H : Hp} {s : Shared} {Q : VK} {us : List Value} {vs : List V} (F : FnR X.prog X.w X.K X.mg X.base CX k f sp) (room : Room k X.A) (out : Passes CX X E) (I : Inv X pins σ H s) (r : Vals vs us) (h : sp vs H Q E) :
    wpAny (model X.prog X.w) X.A (call (.ref f) us) (EP X pins σ Q) X.xe s := wpAny_call (run_fnR F room out I r h)
theorem pe_callN (F : FnR X.prog X.w X.K X.mg X.base CX k f sp) (room : Room k X.A) (hg : Gl X x) (hm : X.mg x = some (.ref f)) (kp : PySem.W.keepIn X.K (.ref f) = true) (out : Passes CX X E) (ha : PA X (e :: es) t)
    (hdb : (x == ("__debug__" : Str)) = false := by decide) (one : starEach (e :: es) X.env = (false, eval e X.env) :: starEach es X.env := by rfl) (all_ : (backTo pos (starEach es X.env)).any (·.1) = false := by rfl) :
    PE X (.Call (.Name x p) (e :: es) [] pos) (tCall sp [] E t) := by
  constructor
  intro pins s σ H Q I h
  refine wpAny_Call_Name_kw (ld_glob I hg hm (PySem.W.callWith_K (h₀ := X.base) I.ok.mod.kin kp (thn (ha.run pos pins s σ H _ I h) ?_) one all_) hdb)
  rintro us s1 ⟨vs, H1, I1, r, q⟩
  rw [List.append_nil] at q
  exact ⟨I1.kIn, back_from F room out I1 r q⟩
theorem pe_callN0 (F : FnR X.prog X.w X.K X.mg X.base CX k f sp) (room : Room k X.A) (hg : Gl X x) (hm : X.mg x = some (.ref f)) (kp : PySem.W.keepIn X.K (.ref f) = true) (out : Passes CX X E)
    (hdb : (x == ("__debug__" : Str)) = false := by decide) : PE X (.Call (.Name x p) [] [] pos) (tCall sp [] E tNil) := by
  constructor
  intro pins s σ H Q I h
  exact wpAny_Call_Name_kw (ld_glob I hg hm (PySem.W.callWith_K0 I.kIn kp (back_from F room out I .nil h)) hdb)
end
end My

set_option Elab.async false
set_option linter.all false
set_option maxRecDepth 100000
set_option maxHeartbeats 4000000
/-! ### slices and sums of any tuples, as their callers read them -/
namespace My
open PySem L2
theorem cut_to (xs : List V) (k : Nat) : cutV xs none (some (k : Int)) = xs.take k := by
  unfold cutV
  rw [HT.sIx_none, HT.sIx_nat, List.drop_zero, Nat.sub_zero]
  by_cases h : k ≤ xs.length
  · rw [Nat.min_eq_left h]
  · rw [Nat.min_eq_right (by omega), List.take_length, List.take_of_length_le (by omega)]
theorem cut_from (xs : List V) (k : Nat) : cutV xs (some (k : Int)) none = xs.drop k := by
  unfold cutV
  rw [HT.sIx_none, HT.sIx_nat]
  by_cases h : k ≤ xs.length
  · rw [Nat.min_eq_left h, List.take_of_length_le (by rw [List.length_drop]; omega)]
  · rw [Nat.min_eq_right (by omega), List.drop_length, List.drop_of_length_le (by omega), List.take_nil]
section
variable {K : PySem.W.Frag} {H : Hp} {a b : Addr} {xs ys : List V} {Q : VK} {k : Nat} {i : Int}
theorem slA_to (e : i = (k : Nat)) (h : H a = some (.tup xs)) (q : ∀ r H', H' r = some (.tup (xs.take k)) → Kp [] H H' → Q (.ref r) H') : rSlA K (.ref a) none (some i) H Q := by
  subst e
  refine ⟨a, xs, rfl, sq_t h, fun z => q a H ?_ (Kp.refl _ _), fun _ p np => q p _ (by rw [upd_same, cut_to]) (Kp.new np)⟩
  have z2 := z.2
  rw [HT.sIx_nat] at z2
  rw [h, List.take_of_length_le (by omega)]
theorem slA_from (e : i = (k : Nat)) (h : H a = some (.tup xs)) (q : ∀ r H', H' r = some (.tup (xs.drop k)) → Kp [] H H' → Q (.ref r) H') : rSlA K (.ref a) (some i) none H Q := by
  subst e
  refine ⟨a, xs, rfl, sq_t h, fun z => q a H ?_ (Kp.refl _ _), fun _ p np => q p _ (by rw [upd_same, cut_from]) (Kp.new np)⟩
  have z1 := z.1
  rw [HT.sIx_nat] at z1
  by_cases h0 : k = 0
  · rw [h, h0]; rfl
  · have : xs = [] := List.eq_nil_of_length_eq_zero (by omega)
    rw [h, this, List.drop_nil]
theorem catA_use (ha : H a = some (.tup xs)) (hb : H b = some (.tup ys)) (hl : xs.length + ys.length ≤ 1000) (q : ∀ r H', H' r = some (.tup (xs ++ ys)) → Kp [] H H' → Q (.ref r) H') : rCatA K (.ref a) (.ref b) H Q := by
  refine ⟨a, b, xs, ys, rfl, rfl, sq_t ha, sq_t hb, small (by omega), fun e => q b H ?_ (Kp.refl _ _), fun _ e => q a H ?_ (Kp.refl _ _), fun _ _ p np => q p _ upd_same (Kp.new np)⟩
  · rw [hb, e]; rfl
  · rw [ha, e, List.append_nil]
end
end My

set_option Elab.async false
set_option linter.all false
set_option maxRecDepth 100000
set_option maxHeartbeats 4000000
namespace My
open PySem L2
def top (i : Nat) : Stmt := PySem.Challenge.pw_coretower_k59_callers_are_checked.main.body.getD i (.Pass ⟨0, 0, 0, 0⟩)
abbrev s_is_name : Stmt := top 6
theorem sc_is_name : FnScope ["value", "letter"] ["value"] (defScope s_is_name) := ⟨rfl, rfl, rfl, by decide +kernel, rfl, by decide +kernel, by decide +kernel⟩
abbrev s_is_menu : Stmt := top 16
theorem sc_is_menu : FnScope ["value", "name"] ["value"] (defScope s_is_menu) := ⟨rfl, rfl, rfl, by decide +kernel, rfl, by decide +kernel, by decide +kernel⟩
abbrev s_is_caller : Stmt := top 15
theorem sc_is_caller : FnScope ["value", "menus", "again", "menu"] ["value"] (defScope s_is_caller) := ⟨rfl, rfl, rfl, by decide +kernel, rfl, by decide +kernel, by decide +kernel⟩
abbrev s_once : Stmt := top 11
theorem sc_once : FnScope ["names", "name"] ["names"] (defScope s_once) := ⟨rfl, rfl, rfl, by decide +kernel, rfl, by decide +kernel, by decide +kernel⟩
abbrev s_always : Stmt := top 12
theorem sc_always : FnScope ["names"] ["names"] (defScope s_always) := ⟨rfl, rfl, rfl, by decide +kernel, rfl, by decide +kernel, by decide +kernel⟩
def lets : Str := "abcdefghijklmnopqrstuvwxyz"
/-! ### what a name, a menu, a caller is -/
def lowC (c : Nat) : Bool := decide (97 ≤ c) && decide (c ≤ 122)
def nameS (z : Str) : Bool := decide (1 ≤ z.length) && (decide (z.length ≤ 8) && z.cps.toList.all lowC)
def nameD : PyData → Bool
  | .str z => nameS z
  | _ => false
def strD : PyData → Str
  | .str z => z
  | _ => Str.empty
def menuD : PyData → Bool
  | .tuple ds => decide (1 ≤ ds.length) && (decide (ds.length ≤ 6) && (ds.all nameD && decide ((ds.map strD).Nodup)))
  | _ => false
def callerD : PyData → Bool
  | .tuple [.tuple ms, .bool _] => decide (1 ≤ ms.length) && (decide (ms.length ≤ 4) && ms.all menuD)
  | _ => false
mutual
def szD : PyData → Bool
  | .str z => decide (z.length ≤ 1000)
  | .tuple ds => szAll ds
  | .list ds => szAll ds
  | _ => true
def szAll : List PyData → Bool
  | [] => true
  | d :: ds => szD d && szAll ds
end
theorem szAll_mem : ∀ {ds : List PyData}, szAll ds = true → ∀ d ∈ ds, szD d = true
  | d :: ds, h, e, he => by
    have h' : (szD d && szAll ds) = true := h
    rw [Bool.and_eq_true] at h'
    rcases List.mem_cons.mp he with rfl | he
    · exact h'.1
    · exact szAll_mem h'.2 e he
structure BtA (mg : Str → Option Value) (tL t3 t4 t6 : Tok) : Prop where
  b_isinstance : mg "isinstance" = none
  b_str : mg "str" = none
  b_bool : mg "bool" = none
  b_tuple : mg "tuple" = none
  b_len : mg "len" = none
  b_all : mg "all" = none
  b_set : mg "set" = none
  c_LETTERS : mg "LETTERS" = some (.str lets tL)
  c_MOST_CALLERS : mg "MOST_CALLERS" = some (.int 3 t3)
  c_MOST_MENUS : mg "MOST_MENUS" = some (.int 4 t4)
  c_MOST_NAMES : mg "MOST_NAMES" = some (.int 6 t6)
/-- the promise of a test of data -/
def spD (f : PyData → Bool) : Sp := fun vs H Q _ => ∃ (v : V) (d : PyData), vs = [v] ∧ Dq H v d ∧ szD d = true ∧ ∀ H', Kp [] H H' → Q (.bl (f d)) H'
def LowIn (z : Str) (D : Addr) (H : Hp) (i : Nat) (H' : Hp) : Prop := H' D = some (.lst ((z.cps.toList.take i).map fun c => V.bl (lowC c))) ∧ Kp [] H H'
theorem lets_mem (c : Nat) : decide (c ∈ lets.cps.toList) = lowC c := by
  have e : lets.cps.toList = (List.range 26).map (97 + ·) := by decide +kernel
  rw [e, Bool.eq_iff_iff, decide_eq_true_eq]
  unfold lowC
  rw [Bool.and_eq_true, decide_eq_true_eq, decide_eq_true_eq, List.mem_map]
  constructor
  · rintro ⟨i, hi, rfl⟩
    have := List.mem_range.mp hi
    omega
  · rintro ⟨h1, h2⟩
    exact ⟨c - 97, List.mem_range.mpr (by omega), by omega⟩
theorem all_take {α : Type} {f : α → Bool} {l : List α} : ((l.map fun c => f c).all id) = l.all f := by
  rw [List.all_map]; rfl
theorem take_snoc {α : Type} {l : List α} {i : Nat} {x : α} (h : l[i]? = some x) : l.take (i + 1) = l.take i ++ [x] := by
  rw [List.take_add_one, h]; rfl
section
variable {P : Program} {w : World} {K : PySem.W.Frag} {mg : Str → Option Value} {base : Heap} {tL t3 t4 t6 : Tok}
theorem ok_is_name {f : Addr} {fd : FuncData} (D : Df K mg "is_name" s_is_name ["value"] f fd) (T : BtA mg tL t3 t4 t6) : FnOk P w K mg base CX0 1 f fd ["value"] (spD nameD) := by
  refine D.F.ok sc_is_name (fun vs H Q E h => ?_) (fun cdv A outer s H vs Q E hr h => ?_)
  · obtain ⟨a, m, rfl, _⟩ := h
    rfl
  · obtain ⟨v, d, rfl, hd, sz, q⟩ := h
    have hu := hu_of hr
    refine ⟨_, (pss_cons (ps_if (pt_not (pt_val (pe_callB (id := "isinstance") (r := rIsi K) call_isi (by rfl) T.b_isinstance (by decide +kernel) (pa_cons (pv 0) (pa_cons (pe_bltn (v := .ty "str") (by rfl) T.b_str (by decide +kernel) rfl) pa_nil))))) (pss_one (ps_ret pe_bl)) pss_nil)
      (pss_one (ps_ret (pe_and (pe_chain op_le op_le pe_int (pe_callB (id := "len") call_len_str (by rfl) T.b_len PySem.boot_len (pa_cons (pv 0) pa_nil)) pe_int) (pe_one (pe_callB (id := "all") (r := rAll K) (cr_all rfl) (by rfl) T.b_all (by decide +kernel) (pa_cons (pe_lc (own := [("letter", 1)]) (g := (gName 1)) (tt := tYes) rfl sc_is_name.nd (pi_str (pv 0)) (blkOk_by (N := ["value", "letter"]) (sc := defScope s_is_name) (by decide +kernel)) (fun _ _ _ _ _ => (pg_name (i := 1) sc_is_name.nd rfl (Or.inl rfl))) (fun _ _ _ _ _ => pts_nil) (fun _ _ _ _ _ => (pe_cmpR op_in_sign (pv 1) (pe_glob (v := .str lets) rfl T.c_LETTERS ⟨_, rfl⟩) (by rfl)))) pa_nil))))))), ?_⟩
    try simp only [tSeq, tIfS, tTest, tOp, tUn, tCB, tCons, tNil, tVar, tC, rI0, rI, rU, rEq, rNe, tRet, tRetN, tAsg, gName, gSub, tBM, tBM0, tNext, tB, tNot, tAnd, tOr, tIf, tCall, tDrop, tBreak, tCont, L2.start, tDGet, sDPut, tTup, tLst, tDNewK, tRevL, rCat, rAppend, rPop, rSetL, tAndV, tOrV, tNotV, tSl, tPart, tNoPart, tM1, gTup, gCons, gNil, cxK, cxnK, List.map_cons, List.map_nil, List.length_cons, List.length_nil, List.replicate, List.cons_append, List.nil_append, List.append_nil, List.set_cons_zero, List.set_cons_succ, List.getElem?_cons_zero, List.getElem?_cons_succ, Option.some.injEq, V.ref.injEq, V.int.injEq, V.str.injEq, V.bl.injEq, V.ty.injEq, exists_eq_left', exists_eq_left, exists_and_left, List.cons.injEq, and_true, true_and, sc_ii, sc_ss, sc_bb, sc_ni, sc_in, sc_is, sc_si, sc_nn, decide_true, decide_false, reduceCtorEq, Bool.false_eq_true, if_true, if_false, ite_true, ite_false, exists_const, eq_self, false_and, and_false, or_false, false_or, exists_false, Evl.rLenS, rSum, wipe, tYes, exists_eq, exists_eq', rIxL, rIxT, rIxS, exists_and_right, gt_iff_lt, not_true_eq_false, not_false_eq_true, Bool.not_true, Bool.not_false, decide_eq_true_eq, Nat.reduceSub, Nat.reduceAdd, List.append_assoc, tChain, tDIn, tDNotIn, sDDel, tAug, ipI]
    refine isi_Dstr hd ?_
    try simp only [tSeq, tIfS, tTest, tOp, tUn, tCB, tCons, tNil, tVar, tC, rI0, rI, rU, rEq, rNe, tRet, tRetN, tAsg, gName, gSub, tBM, tBM0, tNext, tB, tNot, tAnd, tOr, tIf, tCall, tDrop, tBreak, tCont, L2.start, tDGet, sDPut, tTup, tLst, tDNewK, tRevL, rCat, rAppend, rPop, rSetL, tAndV, tOrV, tNotV, tSl, tPart, tNoPart, tM1, gTup, gCons, gNil, cxK, cxnK, List.map_cons, List.map_nil, List.length_cons, List.length_nil, List.replicate, List.cons_append, List.nil_append, List.append_nil, List.set_cons_zero, List.set_cons_succ, List.getElem?_cons_zero, List.getElem?_cons_succ, Option.some.injEq, V.ref.injEq, V.int.injEq, V.str.injEq, V.bl.injEq, V.ty.injEq, exists_eq_left', exists_eq_left, exists_and_left, List.cons.injEq, and_true, true_and, sc_ii, sc_ss, sc_bb, sc_ni, sc_in, sc_is, sc_si, sc_nn, decide_true, decide_false, reduceCtorEq, Bool.false_eq_true, if_true, if_false, ite_true, ite_false, exists_const, eq_self, false_and, and_false, or_false, false_or, exists_false, Evl.rLenS, rSum, wipe, tYes, exists_eq, exists_eq', rIxL, rIxT, rIxS, exists_and_right, gt_iff_lt, not_true_eq_false, not_false_eq_true, Bool.not_true, Bool.not_false, decide_eq_true_eq, Nat.reduceSub, Nat.reduceAdd, List.append_assoc, tChain, tDIn, tDNotIn, sDDel, tAug, ipI]
    cases hd with
    | str z =>
      try simp only [tSeq, tIfS, tTest, tOp, tUn, tCB, tCons, tNil, tVar, tC, rI0, rI, rU, rEq, rNe, tRet, tRetN, tAsg, gName, gSub, tBM, tBM0, tNext, tB, tNot, tAnd, tOr, tIf, tCall, tDrop, tBreak, tCont, L2.start, tDGet, sDPut, tTup, tLst, tDNewK, tRevL, rCat, rAppend, rPop, rSetL, tAndV, tOrV, tNotV, tSl, tPart, tNoPart, tM1, gTup, gCons, gNil, cxK, cxnK, List.map_cons, List.map_nil, List.length_cons, List.length_nil, List.replicate, List.cons_append, List.nil_append, List.append_nil, List.set_cons_zero, List.set_cons_succ, List.getElem?_cons_zero, List.getElem?_cons_succ, Option.some.injEq, V.ref.injEq, V.int.injEq, V.str.injEq, V.bl.injEq, V.ty.injEq, exists_eq_left', exists_eq_left, exists_and_left, List.cons.injEq, and_true, true_and, sc_ii, sc_ss, sc_bb, sc_ni, sc_in, sc_is, sc_si, sc_nn, decide_true, decide_false, reduceCtorEq, Bool.false_eq_true, if_true, if_false, ite_true, ite_false, exists_const, eq_self, false_and, and_false, or_false, false_or, exists_false, Evl.rLenS, rSum, wipe, tYes, exists_eq, exists_eq', rIxL, rIxT, rIxS, exists_and_right, gt_iff_lt, not_true_eq_false, not_false_eq_true, Bool.not_true, Bool.not_false, decide_eq_true_eq, Nat.reduceSub, Nat.reduceAdd, List.append_assoc, tChain, tDIn, tDNotIn, sDDel, tAug, ipI, isStrD]
      have zs : z.cps.toList.length = z.length := Array.length_toList
      have zl : z.length ≤ 1000 := of_decide_eq_true sz
      have q' : ∀ H', Kp [] H H' → Q (.bl (nameS z)) H' := q
      unfold nameS at q'
      refine ⟨small (by omega), ?_⟩
      by_cases h1 : 1 ≤ z.length
      · by_cases h8 : z.length ≤ 8
        · have e1 : (1 : Int) ≤ (z.length : Nat) := by omega
          have e8 : ((z.length : Nat) : Int) ≤ 8 := by omega
          rw [decide_eq_true h1, decide_eq_true h8] at q'
          rw [if_pos e1, if_pos e8]
          refine ⟨.str z, rfl, z, rfl, fun o no => lc_it walk_str (LowIn z o H) ⟨upd_same, Kp.new no⟩ (fun _ _ _ _ => True.intro) ?_ ?_⟩
          · rintro i x H1 H2 hi ⟨ho, kp⟩ ⟨rfl, c, hc, rfl⟩
            try simp only [tSeq, tIfS, tTest, tOp, tUn, tCB, tCons, tNil, tVar, tC, rI0, rI, rU, rEq, rNe, tRet, tRetN, tAsg, gName, gSub, tBM, tBM0, tNext, tB, tNot, tAnd, tOr, tIf, tCall, tDrop, tBreak, tCont, L2.start, tDGet, sDPut, tTup, tLst, tDNewK, tRevL, rCat, rAppend, rPop, rSetL, tAndV, tOrV, tNotV, tSl, tPart, tNoPart, tM1, gTup, gCons, gNil, cxK, cxnK, List.map_cons, List.map_nil, List.length_cons, List.length_nil, List.replicate, List.cons_append, List.nil_append, List.append_nil, List.set_cons_zero, List.set_cons_succ, List.getElem?_cons_zero, List.getElem?_cons_succ, Option.some.injEq, V.ref.injEq, V.int.injEq, V.str.injEq, V.bl.injEq, V.ty.injEq, exists_eq_left', exists_eq_left, exists_and_left, List.cons.injEq, and_true, true_and, sc_ii, sc_ss, sc_bb, sc_ni, sc_in, sc_is, sc_si, sc_nn, decide_true, decide_false, reduceCtorEq, Bool.false_eq_true, if_true, if_false, ite_true, ite_false, exists_const, eq_self, false_and, and_false, or_false, false_or, exists_false, Evl.rLenS, rSum, wipe, tYes, exists_eq, exists_eq', rIxL, rIxT, rIxS, exists_and_right, gt_iff_lt, not_true_eq_false, not_false_eq_true, Bool.not_true, Bool.not_false, decide_eq_true_eq, Nat.reduceSub, Nat.reduceAdd, List.append_assoc, tChain, tDIn, tDNotIn, sDDel, tAug, ipI]
            refine ⟨c, rfl, _, ho, ?_, ?_, kp.wr no⟩
            · rw [List.length_map, List.length_take, zs]; exact smallL (by omega)
            · rw [upd_same, lets_mem, take_snoc (x := c) (by rw [← hc]; simp), List.map_append]; rfl
          · rintro H1 ⟨ho, kp⟩
            have q2 := q' H1 kp
            rw [← all_take] at q2
            refine ⟨_, z.cps.toList.map lowC, rfl, sq_l (ho.trans ?_), ?_⟩
            · rw [List.take_of_length_le (by simp), List.map_map]; rfl
            · simpa using q2
        · have e1 : (1 : Int) ≤ (z.length : Nat) := by omega
          have e8 : ¬ ((z.length : Nat) : Int) ≤ 8 := by omega
          rw [decide_eq_true h1, decide_eq_false h8] at q'
          rw [if_pos e1, if_neg e8]
          exact q' _ (Kp.refl _ _)
      · have e1 : ¬ (1 : Int) ≤ (z.length : Nat) := by omega
        rw [decide_eq_false h1] at q'
        rw [if_neg e1]
        exact q' _ (Kp.refl _ _)
    | _ => exact q H (Kp.refl _ _)

/-- ahead of the i-th item of a row of data: what was told of those before stands in the new list -/
def AllIn {α : Type} (g : α → Bool) (ds : List α) (D : Addr) (H : Hp) (i : Nat) (H' : Hp) : Prop := H' D = some (.lst ((ds.take i).map fun d => V.bl (g d))) ∧ Kp [] H H'
theorem allIn_step {α : Type} {g : α → Bool} {ds : List α} {D : Addr} {H H1 H2 : Hp} {i : Nat} {d : α} (hn : H D = none) (h : AllIn g ds D H i H1) (k : Kp [] H1 H2) (e : ds[i]? = some d) (hl : ds.length ≤ 1000) :
    ∃ acc, H2 D = some (.lst acc) ∧ acc.length < sizeLine ∧ AllIn g ds D H (i + 1) (upd H2 D (.lst (acc ++ [V.bl (g d)]))) := by
  refine ⟨_, k _ _ not0 h.1, ?_, ?_, (h.2.trans k).wr hn⟩
  · rw [List.length_map, List.length_take]; exact smallL (by omega)
  · rw [upd_same, take_snoc e, List.map_append]; rfl
theorem allIn_end {α : Type} {K : PySem.W.Frag} {g : α → Bool} {ds : List α} {D : Addr} {H H1 : Hp} {Q : VK} (h : AllIn g ds D H ds.length H1) (q : Q (.bl (ds.all g)) H1) : rAll K [.ref D] H1 Q := by
  refine ⟨D, ds.map g, rfl, sq_l (h.1.trans ?_), ?_⟩
  · rw [List.take_length, List.map_map]; rfl
  · rw [all_take]; exact q

theorem strs_of : ∀ {ds : List PyData} {xs : List V} {H : Hp}, DqAll H xs ds → ds.all nameD = true → xs = (ds.map strD).map V.str
  | _, _, _, .nil, _ => rfl
  | _, _, _, .cons (d := d) h t, e => by
    rw [List.all_cons, Bool.and_eq_true] at e
    rw [List.map_cons, List.map_cons, ← strs_of t e.2]
    cases h <;> first | rfl | (exact absurd e.1 (by simp [nameD]))
theorem ok_is_menu {f : Addr} {fd : FuncData} (D : Df K mg "is_menu" s_is_menu ["value"] f fd) (T : BtA mg tL t3 t4 t6) {fb : Addr} {fdb : FuncData} (D_is_name : Df K mg "is_name" s_is_name ["value"] fb fdb) (G_is_name : FnOk P w K mg base CX0 1 fb fdb ["value"] (spD nameD)) :
    FnOk P w K mg base CX0 2 f fd ["value"] (spD menuD) := by
  refine D.F.ok sc_is_menu (fun vs H Q E h => ?_) (fun cdv A outer s H vs Q E hr h => ?_)
  · obtain ⟨v, d, rfl, _⟩ := h
    rfl
  · obtain ⟨v, d, rfl, hd, sz, q⟩ := h
    refine ⟨_, (pss_cons (ps_if (PW.pt (pw_or (pt_not (pt_val (pe_callB (id := "isinstance") (r := rIsi K) call_isi (by rfl) T.b_isinstance (by decide +kernel) (pa_cons (pv 0) (pa_cons (pe_bltn (v := .ty "tuple") (by rfl) T.b_tuple (by decide +kernel) rfl) pa_nil))))) (pw_or1 (pt_not (pt_chain op_le op_le pe_int (pe_callB (id := "len") (r := Evl.rLenS K) call_len_seq (by rfl) T.b_len PySem.boot_len (pa_cons (pv 0) pa_nil)) (pe_glob (v := .int 6) rfl T.c_MOST_NAMES ⟨_, rfl⟩)))))) (pss_one (ps_ret pe_bl)) pss_nil)
      (pss_one (ps_ret (pe_and (pe_callB (id := "all") (r := rAll K) (cr_all rfl) (by rfl) T.b_all (by decide +kernel) (pa_cons (pe_lc (own := [("name", 1)]) (g := (gName 1)) (tt := tYes) rfl sc_is_menu.nd (pi_tup (pv 0)) (blkOk_by (N := ["value", "name"]) (sc := defScope s_is_menu) (by decide +kernel)) (fun _ _ _ _ _ => (pg_name (i := 1) sc_is_menu.nd rfl (Or.inl rfl))) (fun _ _ _ _ _ => pts_nil) (fun _ _ _ _ _ => (pe_call G_is_name (hr.mono (by decide)) rfl D_is_name.g D_is_name.F.kp D_is_name.b .nil pass0 (pa_cons (pv 1) pa_nil)))) pa_nil)) (pe_one (pe_cmpR op_eq (pe_lenSetT rfl T.b_len rfl T.b_set (pv 0)) (pe_callB (id := "len") (r := Evl.rLenS K) call_len_seq (by rfl) T.b_len PySem.boot_len (pa_cons (pv 0) pa_nil)) (nomark _))))))), ?_⟩
    try simp only [tSeq, tIfS, tTest, tOp, tUn, tCB, tCons, tNil, tVar, tC, rI0, rI, rU, rEq, rNe, tRet, tRetN, tAsg, gName, gSub, tBM, tBM0, tNext, tB, tNot, tAnd, tOr, tIf, tCall, tDrop, tBreak, tCont, L2.start, tDGet, sDPut, tTup, tLst, tDNewK, tRevL, rCat, rAppend, rPop, rSetL, tAndV, tOrV, tNotV, tSl, tPart, tNoPart, tM1, gTup, gCons, gNil, cxK, cxnK, List.map_cons, List.map_nil, List.length_cons, List.length_nil, List.replicate, List.cons_append, List.nil_append, List.append_nil, List.set_cons_zero, List.set_cons_succ, List.getElem?_cons_zero, List.getElem?_cons_succ, Option.some.injEq, V.ref.injEq, V.int.injEq, V.str.injEq, V.bl.injEq, V.ty.injEq, exists_eq_left', exists_eq_left, exists_and_left, List.cons.injEq, and_true, true_and, sc_ii, sc_ss, sc_bb, sc_ni, sc_in, sc_is, sc_si, sc_nn, decide_true, decide_false, reduceCtorEq, Bool.false_eq_true, if_true, if_false, ite_true, ite_false, exists_const, eq_self, false_and, and_false, or_false, false_or, exists_false, Evl.rLenS, rSum, wipe, tYes, exists_eq, exists_eq', rIxL, rIxT, rIxS, exists_and_right, gt_iff_lt, not_true_eq_false, not_false_eq_true, Bool.not_true, Bool.not_false, decide_eq_true_eq, Nat.reduceSub, Nat.reduceAdd, List.append_assoc, tChain, tDIn, tDNotIn, sDDel, tAug, ipI]
    refine isi_Dtup hd ?_
    cases hd with
    | @tup a xs ds e ha =>
      try simp only [tSeq, tIfS, tTest, tOp, tUn, tCB, tCons, tNil, tVar, tC, rI0, rI, rU, rEq, rNe, tRet, tRetN, tAsg, gName, gSub, tBM, tBM0, tNext, tB, tNot, tAnd, tOr, tIf, tCall, tDrop, tBreak, tCont, L2.start, tDGet, sDPut, tTup, tLst, tDNewK, tRevL, rCat, rAppend, rPop, rSetL, tAndV, tOrV, tNotV, tSl, tPart, tNoPart, tM1, gTup, gCons, gNil, cxK, cxnK, List.map_cons, List.map_nil, List.length_cons, List.length_nil, List.replicate, List.cons_append, List.nil_append, List.append_nil, List.set_cons_zero, List.set_cons_succ, List.getElem?_cons_zero, List.getElem?_cons_succ, Option.some.injEq, V.ref.injEq, V.int.injEq, V.str.injEq, V.bl.injEq, V.ty.injEq, exists_eq_left', exists_eq_left, exists_and_left, List.cons.injEq, and_true, true_and, sc_ii, sc_ss, sc_bb, sc_ni, sc_in, sc_is, sc_si, sc_nn, decide_true, decide_false, reduceCtorEq, Bool.false_eq_true, if_true, if_false, ite_true, ite_false, exists_const, eq_self, false_and, and_false, or_false, false_or, exists_false, Evl.rLenS, rSum, wipe, tYes, exists_eq, exists_eq', rIxL, rIxT, rIxS, exists_and_right, gt_iff_lt, not_true_eq_false, not_false_eq_true, Bool.not_true, Bool.not_false, decide_eq_true_eq, Nat.reduceSub, Nat.reduceAdd, List.append_assoc, tChain, tDIn, tDNotIn, sDDel, tAug, ipI, isTupD]
      have hl := ha.len
      refine ⟨xs, .inr (sq_t e), ?_⟩
      rw [hl]
      have q' : ∀ H', Kp [] H H' → Q (.bl (decide (1 ≤ ds.length) && (decide (ds.length ≤ 6) && (ds.all nameD && decide ((ds.map strD).Nodup))))) H' := q
      by_cases h1 : 1 ≤ ds.length
      · by_cases h3 : ds.length ≤ 6
        · have e1 : (1 : Int) ≤ (ds.length : Nat) := by omega
          have e3 : ((ds.length : Nat) : Int) ≤ 6 := by omega
          rw [decide_eq_true h1, decide_eq_true h3] at q'
          try simp only [tSeq, tIfS, tTest, tOp, tUn, tCB, tCons, tNil, tVar, tC, rI0, rI, rU, rEq, rNe, tRet, tRetN, tAsg, gName, gSub, tBM, tBM0, tNext, tB, tNot, tAnd, tOr, tIf, tCall, tDrop, tBreak, tCont, L2.start, tDGet, sDPut, tTup, tLst, tDNewK, tRevL, rCat, rAppend, rPop, rSetL, tAndV, tOrV, tNotV, tSl, tPart, tNoPart, tM1, gTup, gCons, gNil, cxK, cxnK, List.map_cons, List.map_nil, List.length_cons, List.length_nil, List.replicate, List.cons_append, List.nil_append, List.append_nil, List.set_cons_zero, List.set_cons_succ, List.getElem?_cons_zero, List.getElem?_cons_succ, Option.some.injEq, V.ref.injEq, V.int.injEq, V.str.injEq, V.bl.injEq, V.ty.injEq, exists_eq_left', exists_eq_left, exists_and_left, List.cons.injEq, and_true, true_and, sc_ii, sc_ss, sc_bb, sc_ni, sc_in, sc_is, sc_si, sc_nn, decide_true, decide_false, reduceCtorEq, Bool.false_eq_true, if_true, if_false, ite_true, ite_false, exists_const, eq_self, false_and, and_false, or_false, false_or, exists_false, Evl.rLenS, rSum, wipe, tYes, exists_eq, exists_eq', rIxL, rIxT, rIxS, exists_and_right, gt_iff_lt, not_true_eq_false, not_false_eq_true, Bool.not_true, Bool.not_false, decide_eq_true_eq, Nat.reduceSub, Nat.reduceAdd, List.append_assoc, tChain, tDIn, tDNotIn, sDDel, tAug, ipI, e1, e3]
          refine ⟨.ref a, rfl, a, rfl, ⟨_, sq_t e⟩, fun o no => lc_tup (xs := xs) (AllIn nameD ds o H) ⟨upd_same, Kp.new no⟩ (fun i H1 _ h => h.2.tp not0 (sq_t e)) ?_ ?_⟩
          · rintro i x H1 hx h
            obtain ⟨d, ed, hdx⟩ := ha.get hx
            have szd := szAll_mem sz d (List.mem_of_getElem? ed)
            try simp only [tSeq, tIfS, tTest, tOp, tUn, tCB, tCons, tNil, tVar, tC, rI0, rI, rU, rEq, rNe, tRet, tRetN, tAsg, gName, gSub, tBM, tBM0, tNext, tB, tNot, tAnd, tOr, tIf, tCall, tDrop, tBreak, tCont, L2.start, tDGet, sDPut, tTup, tLst, tDNewK, tRevL, rCat, rAppend, rPop, rSetL, tAndV, tOrV, tNotV, tSl, tPart, tNoPart, tM1, gTup, gCons, gNil, cxK, cxnK, List.map_cons, List.map_nil, List.length_cons, List.length_nil, List.replicate, List.cons_append, List.nil_append, List.append_nil, List.set_cons_zero, List.set_cons_succ, List.getElem?_cons_zero, List.getElem?_cons_succ, Option.some.injEq, V.ref.injEq, V.int.injEq, V.str.injEq, V.bl.injEq, V.ty.injEq, exists_eq_left', exists_eq_left, exists_and_left, List.cons.injEq, and_true, true_and, sc_ii, sc_ss, sc_bb, sc_ni, sc_in, sc_is, sc_si, sc_nn, decide_true, decide_false, reduceCtorEq, Bool.false_eq_true, if_true, if_false, ite_true, ite_false, exists_const, eq_self, false_and, and_false, or_false, false_or, exists_false, Evl.rLenS, rSum, wipe, tYes, exists_eq, exists_eq', rIxL, rIxT, rIxS, exists_and_right, gt_iff_lt, not_true_eq_false, not_false_eq_true, Bool.not_true, Bool.not_false, decide_eq_true_eq, Nat.reduceSub, Nat.reduceAdd, List.append_assoc, tChain, tDIn, tDNotIn, sDDel, tAug, ipI]
            exact ⟨x, d, rfl, hdx.kp h.2, szd, fun H2 k2 => allIn_step (g := nameD) no h k2 ed (by omega)⟩
          · intro H1 h
            rw [hl] at h
            refine allIn_end h ⟨_, rfl, ?_⟩
            cases hn : ds.all nameD with
            | false =>
              rw [hn] at q'
              try simp only [tSeq, tIfS, tTest, tOp, tUn, tCB, tCons, tNil, tVar, tC, rI0, rI, rU, rEq, rNe, tRet, tRetN, tAsg, gName, gSub, tBM, tBM0, tNext, tB, tNot, tAnd, tOr, tIf, tCall, tDrop, tBreak, tCont, L2.start, tDGet, sDPut, tTup, tLst, tDNewK, tRevL, rCat, rAppend, rPop, rSetL, tAndV, tOrV, tNotV, tSl, tPart, tNoPart, tM1, gTup, gCons, gNil, cxK, cxnK, List.map_cons, List.map_nil, List.length_cons, List.length_nil, List.replicate, List.cons_append, List.nil_append, List.append_nil, List.set_cons_zero, List.set_cons_succ, List.getElem?_cons_zero, List.getElem?_cons_succ, Option.some.injEq, V.ref.injEq, V.int.injEq, V.str.injEq, V.bl.injEq, V.ty.injEq, exists_eq_left', exists_eq_left, exists_and_left, List.cons.injEq, and_true, true_and, sc_ii, sc_ss, sc_bb, sc_ni, sc_in, sc_is, sc_si, sc_nn, decide_true, decide_false, reduceCtorEq, Bool.false_eq_true, if_true, if_false, ite_true, ite_false, exists_const, eq_self, false_and, and_false, or_false, false_or, exists_false, Evl.rLenS, rSum, wipe, tYes, exists_eq, exists_eq', rIxL, rIxT, rIxS, exists_and_right, gt_iff_lt, not_true_eq_false, not_false_eq_true, Bool.not_true, Bool.not_false, decide_eq_true_eq, Nat.reduceSub, Nat.reduceAdd, List.append_assoc, tChain, tDIn, tDNotIn, sDDel, tAug, ipI]
              exact q' _ h.2
            | true =>
              rw [hn] at q'
              have ex := strs_of ha hn
              try simp only [tSeq, tIfS, tTest, tOp, tUn, tCB, tCons, tNil, tVar, tC, rI0, rI, rU, rEq, rNe, tRet, tRetN, tAsg, gName, gSub, tBM, tBM0, tNext, tB, tNot, tAnd, tOr, tIf, tCall, tDrop, tBreak, tCont, L2.start, tDGet, sDPut, tTup, tLst, tDNewK, tRevL, rCat, rAppend, rPop, rSetL, tAndV, tOrV, tNotV, tSl, tPart, tNoPart, tM1, gTup, gCons, gNil, cxK, cxnK, List.map_cons, List.map_nil, List.length_cons, List.length_nil, List.replicate, List.cons_append, List.nil_append, List.append_nil, List.set_cons_zero, List.set_cons_succ, List.getElem?_cons_zero, List.getElem?_cons_succ, Option.some.injEq, V.ref.injEq, V.int.injEq, V.str.injEq, V.bl.injEq, V.ty.injEq, exists_eq_left', exists_eq_left, exists_and_left, List.cons.injEq, and_true, true_and, sc_ii, sc_ss, sc_bb, sc_ni, sc_in, sc_is, sc_si, sc_nn, decide_true, decide_false, reduceCtorEq, Bool.false_eq_true, if_true, if_false, ite_true, ite_false, exists_const, eq_self, false_and, and_false, or_false, false_or, exists_false, Evl.rLenS, rSum, wipe, tYes, exists_eq, exists_eq', rIxL, rIxT, rIxS, exists_and_right, gt_iff_lt, not_true_eq_false, not_false_eq_true, Bool.not_true, Bool.not_false, decide_eq_true_eq, Nat.reduceSub, Nat.reduceAdd, List.append_assoc, tChain, tDIn, tDNotIn, sDDel, tAug, ipI, tLenT]
              refine ⟨ds.map strD, h.2.tp not0 (by rw [← ex]; exact sq_t e), by rw [List.length_map]; omega, xs, .inr (h.2.tp not0 (sq_t e)), ?_⟩
              have e9 : decide (((dis (ds.map strD) (ds.map strD).length : Nat) : Int) = ((xs.length : Nat) : Int)) = decide ((ds.map strD).Nodup) := by
                have le : xs.length = (ds.map strD).length := by rw [hl, List.length_map]
                rw [le]
                refine decide_eq_decide.mpr ?_
                rw [Int.ofNat_inj]
                exact dis_nodup
              rw [e9]
              exact q' _ h.2
        · have e1 : (1 : Int) ≤ (ds.length : Nat) := by omega
          have e3 : ¬ ((ds.length : Nat) : Int) ≤ 6 := by omega
          rw [decide_eq_true h1, decide_eq_false h3] at q'
          try simp only [tSeq, tIfS, tTest, tOp, tUn, tCB, tCons, tNil, tVar, tC, rI0, rI, rU, rEq, rNe, tRet, tRetN, tAsg, gName, gSub, tBM, tBM0, tNext, tB, tNot, tAnd, tOr, tIf, tCall, tDrop, tBreak, tCont, L2.start, tDGet, sDPut, tTup, tLst, tDNewK, tRevL, rCat, rAppend, rPop, rSetL, tAndV, tOrV, tNotV, tSl, tPart, tNoPart, tM1, gTup, gCons, gNil, cxK, cxnK, List.map_cons, List.map_nil, List.length_cons, List.length_nil, List.replicate, List.cons_append, List.nil_append, List.append_nil, List.set_cons_zero, List.set_cons_succ, List.getElem?_cons_zero, List.getElem?_cons_succ, Option.some.injEq, V.ref.injEq, V.int.injEq, V.str.injEq, V.bl.injEq, V.ty.injEq, exists_eq_left', exists_eq_left, exists_and_left, List.cons.injEq, and_true, true_and, sc_ii, sc_ss, sc_bb, sc_ni, sc_in, sc_is, sc_si, sc_nn, decide_true, decide_false, reduceCtorEq, Bool.false_eq_true, if_true, if_false, ite_true, ite_false, exists_const, eq_self, false_and, and_false, or_false, false_or, exists_false, Evl.rLenS, rSum, wipe, tYes, exists_eq, exists_eq', rIxL, rIxT, rIxS, exists_and_right, gt_iff_lt, not_true_eq_false, not_false_eq_true, Bool.not_true, Bool.not_false, decide_eq_true_eq, Nat.reduceSub, Nat.reduceAdd, List.append_assoc, tChain, tDIn, tDNotIn, sDDel, tAug, ipI, e1, e3]
          exact q' _ (Kp.refl _ _)
      · have e1 : ¬ (1 : Int) ≤ (ds.length : Nat) := by omega
        rw [decide_eq_false h1] at q'
        try simp only [tSeq, tIfS, tTest, tOp, tUn, tCB, tCons, tNil, tVar, tC, rI0, rI, rU, rEq, rNe, tRet, tRetN, tAsg, gName, gSub, tBM, tBM0, tNext, tB, tNot, tAnd, tOr, tIf, tCall, tDrop, tBreak, tCont, L2.start, tDGet, sDPut, tTup, tLst, tDNewK, tRevL, rCat, rAppend, rPop, rSetL, tAndV, tOrV, tNotV, tSl, tPart, tNoPart, tM1, gTup, gCons, gNil, cxK, cxnK, List.map_cons, List.map_nil, List.length_cons, List.length_nil, List.replicate, List.cons_append, List.nil_append, List.append_nil, List.set_cons_zero, List.set_cons_succ, List.getElem?_cons_zero, List.getElem?_cons_succ, Option.some.injEq, V.ref.injEq, V.int.injEq, V.str.injEq, V.bl.injEq, V.ty.injEq, exists_eq_left', exists_eq_left, exists_and_left, List.cons.injEq, and_true, true_and, sc_ii, sc_ss, sc_bb, sc_ni, sc_in, sc_is, sc_si, sc_nn, decide_true, decide_false, reduceCtorEq, Bool.false_eq_true, if_true, if_false, ite_true, ite_false, exists_const, eq_self, false_and, and_false, or_false, false_or, exists_false, Evl.rLenS, rSum, wipe, tYes, exists_eq, exists_eq', rIxL, rIxT, rIxS, exists_and_right, gt_iff_lt, not_true_eq_false, not_false_eq_true, Bool.not_true, Bool.not_false, decide_eq_true_eq, Nat.reduceSub, Nat.reduceAdd, List.append_assoc, tChain, tDIn, tDNotIn, sDDel, tAug, ipI, e1]
        exact q' _ (Kp.refl _ _)
    | _ =>
      try simp only [tSeq, tIfS, tTest, tOp, tUn, tCB, tCons, tNil, tVar, tC, rI0, rI, rU, rEq, rNe, tRet, tRetN, tAsg, gName, gSub, tBM, tBM0, tNext, tB, tNot, tAnd, tOr, tIf, tCall, tDrop, tBreak, tCont, L2.start, tDGet, sDPut, tTup, tLst, tDNewK, tRevL, rCat, rAppend, rPop, rSetL, tAndV, tOrV, tNotV, tSl, tPart, tNoPart, tM1, gTup, gCons, gNil, cxK, cxnK, List.map_cons, List.map_nil, List.length_cons, List.length_nil, List.replicate, List.cons_append, List.nil_append, List.append_nil, List.set_cons_zero, List.set_cons_succ, List.getElem?_cons_zero, List.getElem?_cons_succ, Option.some.injEq, V.ref.injEq, V.int.injEq, V.str.injEq, V.bl.injEq, V.ty.injEq, exists_eq_left', exists_eq_left, exists_and_left, List.cons.injEq, and_true, true_and, sc_ii, sc_ss, sc_bb, sc_ni, sc_in, sc_is, sc_si, sc_nn, decide_true, decide_false, reduceCtorEq, Bool.false_eq_true, if_true, if_false, ite_true, ite_false, exists_const, eq_self, false_and, and_false, or_false, false_or, exists_false, Evl.rLenS, rSum, wipe, tYes, exists_eq, exists_eq', rIxL, rIxT, rIxS, exists_and_right, gt_iff_lt, not_true_eq_false, not_false_eq_true, Bool.not_true, Bool.not_false, decide_eq_true_eq, Nat.reduceSub, Nat.reduceAdd, List.append_assoc, tChain, tDIn, tDNotIn, sDDel, tAug, ipI, isTupD]
      exact q _ (Kp.refl _ _)
theorem ok_is_caller {f : Addr} {fd : FuncData} (D : Df K mg "is_caller" s_is_caller ["value"] f fd) (T : BtA mg tL t3 t4 t6) {fb : Addr} {fdb : FuncData} (D_is_menu : Df K mg "is_menu" s_is_menu ["value"] fb fdb) (G_is_menu : FnOk P w K mg base CX0 2 fb fdb ["value"] (spD menuD)) :
    FnOk P w K mg base CX0 3 f fd ["value"] (spD callerD) := by
  refine D.F.ok sc_is_caller (fun vs H Q E h => ?_) (fun cdv A outer s H vs Q E hr h => ?_)
  · obtain ⟨v, d, rfl, _⟩ := h
    rfl
  · obtain ⟨v, d, rfl, hd, sz, q⟩ := h
    refine ⟨_, (pss_cons (ps_if (PW.pt (pw_or (pt_not (pt_val (pe_callB (id := "isinstance") (r := rIsi K) call_isi (by rfl) T.b_isinstance (by decide +kernel) (pa_cons (pv 0) (pa_cons (pe_bltn (v := .ty "tuple") (by rfl) T.b_tuple (by decide +kernel) rfl) pa_nil))))) (pw_or1 (pt_cmpR op_ne (pe_callB (id := "len") (r := Evl.rLenS K) call_len_seq (by rfl) T.b_len PySem.boot_len (pa_cons (pv 0) pa_nil)) pe_int (nomark _))))) (pss_one (ps_ret pe_bl)) pss_nil)
      (pss_cons (ps_asg (pv 0) (pg_tup (n := 2) (by rfl) (pgs_cons (pg_name (i := 1) sc_is_caller.nd rfl (Or.inl rfl)) (pgs_cons (pg_name (i := 2) sc_is_caller.nd rfl (Or.inl rfl)) pgs_nil))))
      (pss_cons (ps_if (PW.pt (pw_or (pt_not (pt_val (pe_callB (id := "isinstance") (r := rIsi K) call_isi (by rfl) T.b_isinstance (by decide +kernel) (pa_cons (pv 1) (pa_cons (pe_bltn (v := .ty "tuple") (by rfl) T.b_tuple (by decide +kernel) rfl) pa_nil))))) (pw_or1 (pt_not (pt_val (pe_callB (id := "isinstance") (r := rIsi K) call_isi (by rfl) T.b_isinstance (by decide +kernel) (pa_cons (pv 2) (pa_cons (pe_bltn (v := .ty "bool") (by rfl) T.b_bool (by decide +kernel) rfl) pa_nil)))))))) (pss_one (ps_ret pe_bl)) pss_nil)
      (pss_one (ps_ret (pe_and (pe_chain op_le op_le pe_int (pe_callB (id := "len") (r := Evl.rLenS K) call_len_seq (by rfl) T.b_len PySem.boot_len (pa_cons (pv 1) pa_nil)) (pe_glob (v := .int 4) rfl T.c_MOST_MENUS ⟨_, rfl⟩)) (pe_one (pe_callB (id := "all") (r := rAll K) (cr_all rfl) (by rfl) T.b_all (by decide +kernel) (pa_cons (pe_lc (own := [("menu", 3)]) (g := (gName 3)) (tt := tYes) rfl sc_is_caller.nd (pi_tup (pv 1)) (blkOk_by (N := ["value", "menus", "again", "menu"]) (sc := defScope s_is_caller) (by decide +kernel)) (fun _ _ _ _ _ => (pg_name (i := 3) sc_is_caller.nd rfl (Or.inl rfl))) (fun _ _ _ _ _ => pts_nil) (fun _ _ _ _ _ => (pe_call G_is_menu (hr.mono (by decide)) rfl D_is_menu.g D_is_menu.F.kp D_is_menu.b .nil pass0 (pa_cons (pv 3) pa_nil)))) pa_nil))))))))), ?_⟩
    try simp only [tSeq, tIfS, tTest, tOp, tUn, tCB, tCons, tNil, tVar, tC, rI0, rI, rU, rEq, rNe, tRet, tRetN, tAsg, gName, gSub, tBM, tBM0, tNext, tB, tNot, tAnd, tOr, tIf, tCall, tDrop, tBreak, tCont, L2.start, tDGet, sDPut, tTup, tLst, tDNewK, tRevL, rCat, rAppend, rPop, rSetL, tAndV, tOrV, tNotV, tSl, tPart, tNoPart, tM1, gTup, gCons, gNil, cxK, cxnK, List.map_cons, List.map_nil, List.length_cons, List.length_nil, List.replicate, List.cons_append, List.nil_append, List.append_nil, List.set_cons_zero, List.set_cons_succ, List.getElem?_cons_zero, List.getElem?_cons_succ, Option.some.injEq, V.ref.injEq, V.int.injEq, V.str.injEq, V.bl.injEq, V.ty.injEq, exists_eq_left', exists_eq_left, exists_and_left, List.cons.injEq, and_true, true_and, sc_ii, sc_ss, sc_bb, sc_ni, sc_in, sc_is, sc_si, sc_nn, decide_true, decide_false, reduceCtorEq, Bool.false_eq_true, if_true, if_false, ite_true, ite_false, exists_const, eq_self, false_and, and_false, or_false, false_or, exists_false, Evl.rLenS, rSum, wipe, tYes, exists_eq, exists_eq', rIxL, rIxT, rIxS, exists_and_right, gt_iff_lt, not_true_eq_false, not_false_eq_true, Bool.not_true, Bool.not_false, decide_eq_true_eq, Nat.reduceSub, Nat.reduceAdd, List.append_assoc, tChain, tDIn, tDNotIn, sDDel, tAug, ipI]
    refine isi_Dtup hd ?_
    cases hd with
    | @tup a xs ds e ha =>
      try simp only [tSeq, tIfS, tTest, tOp, tUn, tCB, tCons, tNil, tVar, tC, rI0, rI, rU, rEq, rNe, tRet, tRetN, tAsg, gName, gSub, tBM, tBM0, tNext, tB, tNot, tAnd, tOr, tIf, tCall, tDrop, tBreak, tCont, L2.start, tDGet, sDPut, tTup, tLst, tDNewK, tRevL, rCat, rAppend, rPop, rSetL, tAndV, tOrV, tNotV, tSl, tPart, tNoPart, tM1, gTup, gCons, gNil, cxK, cxnK, List.map_cons, List.map_nil, List.length_cons, List.length_nil, List.replicate, List.cons_append, List.nil_append, List.append_nil, List.set_cons_zero, List.set_cons_succ, List.getElem?_cons_zero, List.getElem?_cons_succ, Option.some.injEq, V.ref.injEq, V.int.injEq, V.str.injEq, V.bl.injEq, V.ty.injEq, exists_eq_left', exists_eq_left, exists_and_left, List.cons.injEq, and_true, true_and, sc_ii, sc_ss, sc_bb, sc_ni, sc_in, sc_is, sc_si, sc_nn, decide_true, decide_false, reduceCtorEq, Bool.false_eq_true, if_true, if_false, ite_true, ite_false, exists_const, eq_self, false_and, and_false, or_false, false_or, exists_false, Evl.rLenS, rSum, wipe, tYes, exists_eq, exists_eq', rIxL, rIxT, rIxS, exists_and_right, gt_iff_lt, not_true_eq_false, not_false_eq_true, Bool.not_true, Bool.not_false, decide_eq_true_eq, Nat.reduceSub, Nat.reduceAdd, List.append_assoc, tChain, tDIn, tDNotIn, sDDel, tAug, ipI, isTupD]
      have hl := ha.len
      refine ⟨xs, .inr (sq_t e), ?_⟩
      rw [hl]
      by_cases h2 : ds.length = 2
      · obtain ⟨da, db, rfl⟩ : ∃ a b, ds = [a, b] := by
          match ds, h2 with
          | [a, b], _ => exact ⟨a, b, rfl⟩
        cases ha with
        | cons h1 ht =>
        cases ht with
        | cons h3 ht =>
        cases ht
        have e2 : (((2 : Nat) : Int) = 2) = True := eq_true rfl
        have sa : szD da = true := szAll_mem sz da (by simp)
        try simp only [tSeq, tIfS, tTest, tOp, tUn, tCB, tCons, tNil, tVar, tC, rI0, rI, rU, rEq, rNe, tRet, tRetN, tAsg, gName, gSub, tBM, tBM0, tNext, tB, tNot, tAnd, tOr, tIf, tCall, tDrop, tBreak, tCont, L2.start, tDGet, sDPut, tTup, tLst, tDNewK, tRevL, rCat, rAppend, rPop, rSetL, tAndV, tOrV, tNotV, tSl, tPart, tNoPart, tM1, gTup, gCons, gNil, cxK, cxnK, List.map_cons, List.map_nil, List.length_cons, List.length_nil, List.replicate, List.cons_append, List.nil_append, List.append_nil, List.set_cons_zero, List.set_cons_succ, List.getElem?_cons_zero, List.getElem?_cons_succ, Option.some.injEq, V.ref.injEq, V.int.injEq, V.str.injEq, V.bl.injEq, V.ty.injEq, exists_eq_left', exists_eq_left, exists_and_left, List.cons.injEq, and_true, true_and, sc_ii, sc_ss, sc_bb, sc_ni, sc_in, sc_is, sc_si, sc_nn, decide_true, decide_false, reduceCtorEq, Bool.false_eq_true, if_true, if_false, ite_true, ite_false, exists_const, eq_self, false_and, and_false, or_false, false_or, exists_false, Evl.rLenS, rSum, wipe, tYes, exists_eq, exists_eq', rIxL, rIxT, rIxS, exists_and_right, gt_iff_lt, not_true_eq_false, not_false_eq_true, Bool.not_true, Bool.not_false, decide_eq_true_eq, Nat.reduceSub, Nat.reduceAdd, List.append_assoc, tChain, tDIn, tDNotIn, sDDel, tAug, ipI, e2]
        refine ⟨_, sq_t e, rfl, _, _, rfl, _, _, rfl, rfl, ?_⟩
        refine isi_Dtup h1 ?_
        cases h1 with
        | @tup b ys ms eb hb =>
          try simp only [tSeq, tIfS, tTest, tOp, tUn, tCB, tCons, tNil, tVar, tC, rI0, rI, rU, rEq, rNe, tRet, tRetN, tAsg, gName, gSub, tBM, tBM0, tNext, tB, tNot, tAnd, tOr, tIf, tCall, tDrop, tBreak, tCont, L2.start, tDGet, sDPut, tTup, tLst, tDNewK, tRevL, rCat, rAppend, rPop, rSetL, tAndV, tOrV, tNotV, tSl, tPart, tNoPart, tM1, gTup, gCons, gNil, cxK, cxnK, List.map_cons, List.map_nil, List.length_cons, List.length_nil, List.replicate, List.cons_append, List.nil_append, List.append_nil, List.set_cons_zero, List.set_cons_succ, List.getElem?_cons_zero, List.getElem?_cons_succ, Option.some.injEq, V.ref.injEq, V.int.injEq, V.str.injEq, V.bl.injEq, V.ty.injEq, exists_eq_left', exists_eq_left, exists_and_left, List.cons.injEq, and_true, true_and, sc_ii, sc_ss, sc_bb, sc_ni, sc_in, sc_is, sc_si, sc_nn, decide_true, decide_false, reduceCtorEq, Bool.false_eq_true, if_true, if_false, ite_true, ite_false, exists_const, eq_self, false_and, and_false, or_false, false_or, exists_false, Evl.rLenS, rSum, wipe, tYes, exists_eq, exists_eq', rIxL, rIxT, rIxS, exists_and_right, gt_iff_lt, not_true_eq_false, not_false_eq_true, Bool.not_true, Bool.not_false, decide_eq_true_eq, Nat.reduceSub, Nat.reduceAdd, List.append_assoc, tChain, tDIn, tDNotIn, sDDel, tAug, ipI, isTupD]
          refine isi_Dbool h3 ?_
          cases h3 with
          | bl c =>
            try simp only [tSeq, tIfS, tTest, tOp, tUn, tCB, tCons, tNil, tVar, tC, rI0, rI, rU, rEq, rNe, tRet, tRetN, tAsg, gName, gSub, tBM, tBM0, tNext, tB, tNot, tAnd, tOr, tIf, tCall, tDrop, tBreak, tCont, L2.start, tDGet, sDPut, tTup, tLst, tDNewK, tRevL, rCat, rAppend, rPop, rSetL, tAndV, tOrV, tNotV, tSl, tPart, tNoPart, tM1, gTup, gCons, gNil, cxK, cxnK, List.map_cons, List.map_nil, List.length_cons, List.length_nil, List.replicate, List.cons_append, List.nil_append, List.append_nil, List.set_cons_zero, List.set_cons_succ, List.getElem?_cons_zero, List.getElem?_cons_succ, Option.some.injEq, V.ref.injEq, V.int.injEq, V.str.injEq, V.bl.injEq, V.ty.injEq, exists_eq_left', exists_eq_left, exists_and_left, List.cons.injEq, and_true, true_and, sc_ii, sc_ss, sc_bb, sc_ni, sc_in, sc_is, sc_si, sc_nn, decide_true, decide_false, reduceCtorEq, Bool.false_eq_true, if_true, if_false, ite_true, ite_false, exists_const, eq_self, false_and, and_false, or_false, false_or, exists_false, Evl.rLenS, rSum, wipe, tYes, exists_eq, exists_eq', rIxL, rIxT, rIxS, exists_and_right, gt_iff_lt, not_true_eq_false, not_false_eq_true, Bool.not_true, Bool.not_false, decide_eq_true_eq, Nat.reduceSub, Nat.reduceAdd, List.append_assoc, tChain, tDIn, tDNotIn, sDDel, tAug, ipI, isBoolD]
            have hm := hb.len
            refine ⟨ys, .inr (sq_t eb), ?_⟩
            rw [hm]
            have q' : ∀ H', Kp [] H H' → Q (.bl (decide (1 ≤ ms.length) && (decide (ms.length ≤ 4) && ms.all menuD))) H' := q
            by_cases h1 : 1 ≤ ms.length
            · by_cases h3 : ms.length ≤ 4
              · have e1 : (1 : Int) ≤ (ms.length : Nat) := by omega
                have e3 : ((ms.length : Nat) : Int) ≤ 4 := by omega
                rw [decide_eq_true h1, decide_eq_true h3] at q'
                try simp only [tSeq, tIfS, tTest, tOp, tUn, tCB, tCons, tNil, tVar, tC, rI0, rI, rU, rEq, rNe, tRet, tRetN, tAsg, gName, gSub, tBM, tBM0, tNext, tB, tNot, tAnd, tOr, tIf, tCall, tDrop, tBreak, tCont, L2.start, tDGet, sDPut, tTup, tLst, tDNewK, tRevL, rCat, rAppend, rPop, rSetL, tAndV, tOrV, tNotV, tSl, tPart, tNoPart, tM1, gTup, gCons, gNil, cxK, cxnK, List.map_cons, List.map_nil, List.length_cons, List.length_nil, List.replicate, List.cons_append, List.nil_append, List.append_nil, List.set_cons_zero, List.set_cons_succ, List.getElem?_cons_zero, List.getElem?_cons_succ, Option.some.injEq, V.ref.injEq, V.int.injEq, V.str.injEq, V.bl.injEq, V.ty.injEq, exists_eq_left', exists_eq_left, exists_and_left, List.cons.injEq, and_true, true_and, sc_ii, sc_ss, sc_bb, sc_ni, sc_in, sc_is, sc_si, sc_nn, decide_true, decide_false, reduceCtorEq, Bool.false_eq_true, if_true, if_false, ite_true, ite_false, exists_const, eq_self, false_and, and_false, or_false, false_or, exists_false, Evl.rLenS, rSum, wipe, tYes, exists_eq, exists_eq', rIxL, rIxT, rIxS, exists_and_right, gt_iff_lt, not_true_eq_false, not_false_eq_true, Bool.not_true, Bool.not_false, decide_eq_true_eq, Nat.reduceSub, Nat.reduceAdd, List.append_assoc, tChain, tDIn, tDNotIn, sDDel, tAug, ipI, e1, e3]
                refine ⟨.ref b, rfl, b, rfl, ⟨_, sq_t eb⟩, fun o no => lc_tup (xs := ys) (AllIn menuD ms o H) ⟨upd_same, Kp.new no⟩ (fun i H1 _ h => h.2.tp not0 (sq_t eb)) ?_ ?_⟩
                · rintro i x H1 hx h
                  obtain ⟨d, ed, hdx⟩ := hb.get hx
                  have szd := szAll_mem (ds := ms) sa d (List.mem_of_getElem? ed)
                  try simp only [tSeq, tIfS, tTest, tOp, tUn, tCB, tCons, tNil, tVar, tC, rI0, rI, rU, rEq, rNe, tRet, tRetN, tAsg, gName, gSub, tBM, tBM0, tNext, tB, tNot, tAnd, tOr, tIf, tCall, tDrop, tBreak, tCont, L2.start, tDGet, sDPut, tTup, tLst, tDNewK, tRevL, rCat, rAppend, rPop, rSetL, tAndV, tOrV, tNotV, tSl, tPart, tNoPart, tM1, gTup, gCons, gNil, cxK, cxnK, List.map_cons, List.map_nil, List.length_cons, List.length_nil, List.replicate, List.cons_append, List.nil_append, List.append_nil, List.set_cons_zero, List.set_cons_succ, List.getElem?_cons_zero, List.getElem?_cons_succ, Option.some.injEq, V.ref.injEq, V.int.injEq, V.str.injEq, V.bl.injEq, V.ty.injEq, exists_eq_left', exists_eq_left, exists_and_left, List.cons.injEq, and_true, true_and, sc_ii, sc_ss, sc_bb, sc_ni, sc_in, sc_is, sc_si, sc_nn, decide_true, decide_false, reduceCtorEq, Bool.false_eq_true, if_true, if_false, ite_true, ite_false, exists_const, eq_self, false_and, and_false, or_false, false_or, exists_false, Evl.rLenS, rSum, wipe, tYes, exists_eq, exists_eq', rIxL, rIxT, rIxS, exists_and_right, gt_iff_lt, not_true_eq_false, not_false_eq_true, Bool.not_true, Bool.not_false, decide_eq_true_eq, Nat.reduceSub, Nat.reduceAdd, List.append_assoc, tChain, tDIn, tDNotIn, sDDel, tAug, ipI]
                  exact ⟨x, d, rfl, hdx.kp h.2, szd, fun H2 k2 => allIn_step (g := menuD) no h k2 ed (by omega)⟩
                · intro H1 h
                  rw [hm] at h
                  exact allIn_end h (q' _ h.2)
              · have e1 : (1 : Int) ≤ (ms.length : Nat) := by omega
                have e3 : ¬ ((ms.length : Nat) : Int) ≤ 4 := by omega
                rw [decide_eq_true h1, decide_eq_false h3] at q'
                try simp only [tSeq, tIfS, tTest, tOp, tUn, tCB, tCons, tNil, tVar, tC, rI0, rI, rU, rEq, rNe, tRet, tRetN, tAsg, gName, gSub, tBM, tBM0, tNext, tB, tNot, tAnd, tOr, tIf, tCall, tDrop, tBreak, tCont, L2.start, tDGet, sDPut, tTup, tLst, tDNewK, tRevL, rCat, rAppend, rPop, rSetL, tAndV, tOrV, tNotV, tSl, tPart, tNoPart, tM1, gTup, gCons, gNil, cxK, cxnK, List.map_cons, List.map_nil, List.length_cons, List.length_nil, List.replicate, List.cons_append, List.nil_append, List.append_nil, List.set_cons_zero, List.set_cons_succ, List.getElem?_cons_zero, List.getElem?_cons_succ, Option.some.injEq, V.ref.injEq, V.int.injEq, V.str.injEq, V.bl.injEq, V.ty.injEq, exists_eq_left', exists_eq_left, exists_and_left, List.cons.injEq, and_true, true_and, sc_ii, sc_ss, sc_bb, sc_ni, sc_in, sc_is, sc_si, sc_nn, decide_true, decide_false, reduceCtorEq, Bool.false_eq_true, if_true, if_false, ite_true, ite_false, exists_const, eq_self, false_and, and_false, or_false, false_or, exists_false, Evl.rLenS, rSum, wipe, tYes, exists_eq, exists_eq', rIxL, rIxT, rIxS, exists_and_right, gt_iff_lt, not_true_eq_false, not_false_eq_true, Bool.not_true, Bool.not_false, decide_eq_true_eq, Nat.reduceSub, Nat.reduceAdd, List.append_assoc, tChain, tDIn, tDNotIn, sDDel, tAug, ipI, e1, e3]
                exact q' _ (Kp.refl _ _)
            · have e1 : ¬ (1 : Int) ≤ (ms.length : Nat) := by omega
              rw [decide_eq_false h1] at q'
              try simp only [tSeq, tIfS, tTest, tOp, tUn, tCB, tCons, tNil, tVar, tC, rI0, rI, rU, rEq, rNe, tRet, tRetN, tAsg, gName, gSub, tBM, tBM0, tNext, tB, tNot, tAnd, tOr, tIf, tCall, tDrop, tBreak, tCont, L2.start, tDGet, sDPut, tTup, tLst, tDNewK, tRevL, rCat, rAppend, rPop, rSetL, tAndV, tOrV, tNotV, tSl, tPart, tNoPart, tM1, gTup, gCons, gNil, cxK, cxnK, List.map_cons, List.map_nil, List.length_cons, List.length_nil, List.replicate, List.cons_append, List.nil_append, List.append_nil, List.set_cons_zero, List.set_cons_succ, List.getElem?_cons_zero, List.getElem?_cons_succ, Option.some.injEq, V.ref.injEq, V.int.injEq, V.str.injEq, V.bl.injEq, V.ty.injEq, exists_eq_left', exists_eq_left, exists_and_left, List.cons.injEq, and_true, true_and, sc_ii, sc_ss, sc_bb, sc_ni, sc_in, sc_is, sc_si, sc_nn, decide_true, decide_false, reduceCtorEq, Bool.false_eq_true, if_true, if_false, ite_true, ite_false, exists_const, eq_self, false_and, and_false, or_false, false_or, exists_false, Evl.rLenS, rSum, wipe, tYes, exists_eq, exists_eq', rIxL, rIxT, rIxS, exists_and_right, gt_iff_lt, not_true_eq_false, not_false_eq_true, Bool.not_true, Bool.not_false, decide_eq_true_eq, Nat.reduceSub, Nat.reduceAdd, List.append_assoc, tChain, tDIn, tDNotIn, sDDel, tAug, ipI, e1]
              exact q' _ (Kp.refl _ _)
          | _ =>
            try simp only [tSeq, tIfS, tTest, tOp, tUn, tCB, tCons, tNil, tVar, tC, rI0, rI, rU, rEq, rNe, tRet, tRetN, tAsg, gName, gSub, tBM, tBM0, tNext, tB, tNot, tAnd, tOr, tIf, tCall, tDrop, tBreak, tCont, L2.start, tDGet, sDPut, tTup, tLst, tDNewK, tRevL, rCat, rAppend, rPop, rSetL, tAndV, tOrV, tNotV, tSl, tPart, tNoPart, tM1, gTup, gCons, gNil, cxK, cxnK, List.map_cons, List.map_nil, List.length_cons, List.length_nil, List.replicate, List.cons_append, List.nil_append, List.append_nil, List.set_cons_zero, List.set_cons_succ, List.getElem?_cons_zero, List.getElem?_cons_succ, Option.some.injEq, V.ref.injEq, V.int.injEq, V.str.injEq, V.bl.injEq, V.ty.injEq, exists_eq_left', exists_eq_left, exists_and_left, List.cons.injEq, and_true, true_and, sc_ii, sc_ss, sc_bb, sc_ni, sc_in, sc_is, sc_si, sc_nn, decide_true, decide_false, reduceCtorEq, Bool.false_eq_true, if_true, if_false, ite_true, ite_false, exists_const, eq_self, false_and, and_false, or_false, false_or, exists_false, Evl.rLenS, rSum, wipe, tYes, exists_eq, exists_eq', rIxL, rIxT, rIxS, exists_and_right, gt_iff_lt, not_true_eq_false, not_false_eq_true, Bool.not_true, Bool.not_false, decide_eq_true_eq, Nat.reduceSub, Nat.reduceAdd, List.append_assoc, tChain, tDIn, tDNotIn, sDDel, tAug, ipI, isBoolD]
            exact q _ (Kp.refl _ _)
        | _ =>
          try simp only [tSeq, tIfS, tTest, tOp, tUn, tCB, tCons, tNil, tVar, tC, rI0, rI, rU, rEq, rNe, tRet, tRetN, tAsg, gName, gSub, tBM, tBM0, tNext, tB, tNot, tAnd, tOr, tIf, tCall, tDrop, tBreak, tCont, L2.start, tDGet, sDPut, tTup, tLst, tDNewK, tRevL, rCat, rAppend, rPop, rSetL, tAndV, tOrV, tNotV, tSl, tPart, tNoPart, tM1, gTup, gCons, gNil, cxK, cxnK, List.map_cons, List.map_nil, List.length_cons, List.length_nil, List.replicate, List.cons_append, List.nil_append, List.append_nil, List.set_cons_zero, List.set_cons_succ, List.getElem?_cons_zero, List.getElem?_cons_succ, Option.some.injEq, V.ref.injEq, V.int.injEq, V.str.injEq, V.bl.injEq, V.ty.injEq, exists_eq_left', exists_eq_left, exists_and_left, List.cons.injEq, and_true, true_and, sc_ii, sc_ss, sc_bb, sc_ni, sc_in, sc_is, sc_si, sc_nn, decide_true, decide_false, reduceCtorEq, Bool.false_eq_true, if_true, if_false, ite_true, ite_false, exists_const, eq_self, false_and, and_false, or_false, false_or, exists_false, Evl.rLenS, rSum, wipe, tYes, exists_eq, exists_eq', rIxL, rIxT, rIxS, exists_and_right, gt_iff_lt, not_true_eq_false, not_false_eq_true, Bool.not_true, Bool.not_false, decide_eq_true_eq, Nat.reduceSub, Nat.reduceAdd, List.append_assoc, tChain, tDIn, tDNotIn, sDDel, tAug, ipI, isTupD]
          exact q _ (Kp.refl _ _)
      · have e2 : ((ds.length : Nat) : Int) ≠ 2 := by omega
        have qf : callerD (.tuple ds) = false := by
          match ds, h2 with
          | [], _ => rfl
          | [x], _ => simp [callerD]
          | _ :: _ :: _ :: _, _ => simp [callerD]
        rw [qf] at q
        try simp only [tSeq, tIfS, tTest, tOp, tUn, tCB, tCons, tNil, tVar, tC, rI0, rI, rU, rEq, rNe, tRet, tRetN, tAsg, gName, gSub, tBM, tBM0, tNext, tB, tNot, tAnd, tOr, tIf, tCall, tDrop, tBreak, tCont, L2.start, tDGet, sDPut, tTup, tLst, tDNewK, tRevL, rCat, rAppend, rPop, rSetL, tAndV, tOrV, tNotV, tSl, tPart, tNoPart, tM1, gTup, gCons, gNil, cxK, cxnK, List.map_cons, List.map_nil, List.length_cons, List.length_nil, List.replicate, List.cons_append, List.nil_append, List.append_nil, List.set_cons_zero, List.set_cons_succ, List.getElem?_cons_zero, List.getElem?_cons_succ, Option.some.injEq, V.ref.injEq, V.int.injEq, V.str.injEq, V.bl.injEq, V.ty.injEq, exists_eq_left', exists_eq_left, exists_and_left, List.cons.injEq, and_true, true_and, sc_ii, sc_ss, sc_bb, sc_ni, sc_in, sc_is, sc_si, sc_nn, decide_true, decide_false, reduceCtorEq, Bool.false_eq_true, if_true, if_false, ite_true, ite_false, exists_const, eq_self, false_and, and_false, or_false, false_or, exists_false, Evl.rLenS, rSum, wipe, tYes, exists_eq, exists_eq', rIxL, rIxT, rIxS, exists_and_right, gt_iff_lt, not_true_eq_false, not_false_eq_true, Bool.not_true, Bool.not_false, decide_eq_true_eq, Nat.reduceSub, Nat.reduceAdd, List.append_assoc, tChain, tDIn, tDNotIn, sDDel, tAug, ipI, e2]
        exact q _ (Kp.refl _ _)
    | _ =>
      try simp only [tSeq, tIfS, tTest, tOp, tUn, tCB, tCons, tNil, tVar, tC, rI0, rI, rU, rEq, rNe, tRet, tRetN, tAsg, gName, gSub, tBM, tBM0, tNext, tB, tNot, tAnd, tOr, tIf, tCall, tDrop, tBreak, tCont, L2.start, tDGet, sDPut, tTup, tLst, tDNewK, tRevL, rCat, rAppend, rPop, rSetL, tAndV, tOrV, tNotV, tSl, tPart, tNoPart, tM1, gTup, gCons, gNil, cxK, cxnK, List.map_cons, List.map_nil, List.length_cons, List.length_nil, List.replicate, List.cons_append, List.nil_append, List.append_nil, List.set_cons_zero, List.set_cons_succ, List.getElem?_cons_zero, List.getElem?_cons_succ, Option.some.injEq, V.ref.injEq, V.int.injEq, V.str.injEq, V.bl.injEq, V.ty.injEq, exists_eq_left', exists_eq_left, exists_and_left, List.cons.injEq, and_true, true_and, sc_ii, sc_ss, sc_bb, sc_ni, sc_in, sc_is, sc_si, sc_nn, decide_true, decide_false, reduceCtorEq, Bool.false_eq_true, if_true, if_false, ite_true, ite_false, exists_const, eq_self, false_and, and_false, or_false, false_or, exists_false, Evl.rLenS, rSum, wipe, tYes, exists_eq, exists_eq', rIxL, rIxT, rIxS, exists_and_right, gt_iff_lt, not_true_eq_false, not_false_eq_true, Bool.not_true, Bool.not_false, decide_eq_true_eq, Nat.reduceSub, Nat.reduceAdd, List.append_assoc, tChain, tDIn, tDNotIn, sDDel, tAug, ipI, isTupD]
      exact q _ (Kp.refl _ _)
structure BtO (mg : Str → Option Value) : Prop where
  b_tuple : mg "tuple" = none
/-- a name alone in a tuple, for each of xs -/
def Singles (K : PySem.W.Frag) (H : Hp) (vs : List V) (xs : List Str) : Prop := vs.length = xs.length ∧ ∀ (i : Nat) (v : V), vs[i]? = some v → ∃ (t : Addr) (x : Str), v = .ref t ∧ xs[i]? = some x ∧ H t = some (.tup [.str x])
def spOnce (K : PySem.W.Frag) : Sp := fun vs H Q _ => ∃ (a : Addr) (xs : List Str), vs = [.ref a] ∧ SqT K H a (xs.map V.str) ∧ xs.length ≤ 1000 ∧
  ∀ (p m : Addr) (us : List V) (H' : Hp), H p = none → H' p = some (.tup [.ref m, .bl false]) → H' m = some (.tup us) → Singles K H' us xs → Kp [] H H' → Q (.ref p) H'
def spAlways (K : PySem.W.Frag) : Sp := fun vs H Q _ => ∃ (a : Addr) (xs : List Str), vs = [.ref a] ∧ SqT K H a (xs.map V.str) ∧ xs.length ≤ 1000 ∧
  ∀ (p m : Addr) (H' : Hp), H p = none → H' p = some (.tup [.ref m, .bl true]) → H' m = some (.tup [.ref a]) → Kp [] H H' → Q (.ref p) H'
def OnIn (K : PySem.W.Frag) (xs : List Str) (D : Addr) (H : Hp) (i : Nat) (H' : Hp) : Prop := ∃ us, H' D = some (.lst us) ∧ Singles K H' us (xs.take i) ∧ Kp [] H H'
theorem Singles.kp {K : PySem.W.Frag} {H H' : Hp} {vs : List V} {xs : List Str} (h : Singles K H vs xs) (k : Kp [] H H') : Singles K H' vs xs := ⟨h.1, fun i v e => by
  obtain ⟨t, x, a, b, c⟩ := h.2 i v e
  exact ⟨t, x, a, b, k _ _ not0 c⟩⟩
theorem ok_once {f : Addr} {oc : Value} {od : Option Addr} {kV dc pm cd ct : Value} {an : Option Addr} {sl : Array (Option Value)} (T : BtO mg)
    (lk : K.lookup f = some ⟨oc, od, .func (PySem.W.fnOf "once" "once" (defArgs s_once) (defBody s_once) (defScope s_once) .none kV dc pm an cd ct), sl⟩) (hcd : PySem.W.codeIn K cd "once" = true) :
    FnR P w K mg base CX0 1 f (fun vs H Q E => ∃ ws rest, vs = ws ++ rest ∧ ws.length = ([] : List Str).length ∧ rest.length ≤ sizeLine ∧ ∀ p, H p = Option.none → spOnce K (ws ++ [V.ref p]) (upd H p (.tup rest)) Q E) := by
  refine StX.fn_star (ps := []) (pv := "names") lk hcd sc_once StX.cxUp_none (fun us rest h => ?_) (fun A outer s H vs Q E hr h => ?_)
  · match us, h, rest with
    | [], _, [] => rfl
    | [], _, [_] => rfl
    | [], _, _ :: _ :: _ => rfl
  · obtain ⟨a, xs, rfl, hS, hl, q⟩ := h
    refine ⟨_, (pss_one (ps_ret (pe_tup (pa_cons (pe_callTy call_tuple_of (by rfl) T.b_tuple (by decide +kernel) (pa_cons (pe_lc (own := [("name", 1)]) (g := (gName 1)) (tt := tYes) rfl sc_once.nd (pi_tup (pv 0)) (blkOk_by (N := ["names", "name"]) (sc := defScope s_once) (by decide +kernel)) (fun _ _ _ _ _ => (pg_name (i := 1) sc_once.nd rfl (Or.inl rfl))) (fun _ _ _ _ _ => pts_nil) (fun _ _ _ _ _ => (pe_tup (pa_cons (pv 1) pa_nil)))) pa_nil)) (pa_cons pe_bl pa_nil))))), ?_⟩
    try simp only [tSeq, tIfS, tTest, tOp, tUn, tCB, tCons, tNil, tVar, tC, rI0, rI, rU, rEq, rNe, tRet, tRetN, tAsg, gName, gSub, tBM, tBM0, tNext, tB, tNot, tAnd, tOr, tIf, tCall, tDrop, tBreak, tCont, L2.start, tDGet, sDPut, tTup, tLst, tDNewK, tRevL, rCat, rAppend, rPop, rSetL, tAndV, tOrV, tNotV, tSl, tPart, tNoPart, tM1, gTup, gCons, gNil, cxK, cxnK, List.map_cons, List.map_nil, List.length_cons, List.length_nil, List.replicate, List.cons_append, List.nil_append, List.append_nil, List.set_cons_zero, List.set_cons_succ, List.getElem?_cons_zero, List.getElem?_cons_succ, Option.some.injEq, V.ref.injEq, V.int.injEq, V.str.injEq, V.bl.injEq, V.ty.injEq, exists_eq_left', exists_eq_left, exists_and_left, List.cons.injEq, and_true, true_and, sc_ii, sc_ss, sc_bb, sc_ni, sc_in, sc_is, sc_si, sc_nn, decide_true, decide_false, reduceCtorEq, Bool.false_eq_true, if_true, if_false, ite_true, ite_false, exists_const, eq_self, false_and, and_false, or_false, false_or, exists_false, Evl.rLenS, rSum, wipe, tYes, exists_eq, exists_eq', rIxL, rIxT, rIxS, exists_and_right, gt_iff_lt, not_true_eq_false, not_false_eq_true, Bool.not_true, Bool.not_false, decide_eq_true_eq, Nat.reduceSub, Nat.reduceAdd, List.append_assoc, tChain, tDIn, tDNotIn, sDDel, tAug, ipI]
    refine ⟨.ref a, rfl, a, rfl, ⟨_, hS⟩, fun o no => lc_tup (xs := xs.map V.str) (OnIn K xs o H) ⟨[], upd_same, ⟨rfl, fun i v e => nomatch e⟩, Kp.new no⟩ (fun i H1 _ h => by
      obtain ⟨_, _, _, k⟩ := h
      exact k.tp not0 hS) ?_ ?_⟩
    · rintro i x H1 hx ⟨us, ho, hs, k⟩
      rw [List.getElem?_map] at hx
      obtain ⟨z, hz, rfl⟩ : ∃ z, xs[i]? = some z ∧ x = V.str z := by
        cases e : xs[i]? with
        | none => rw [e] at hx; cases hx
        | some z => rw [e] at hx; exact ⟨z, rfl, (Option.some.inj hx).symm⟩
      try simp only [tSeq, tIfS, tTest, tOp, tUn, tCB, tCons, tNil, tVar, tC, rI0, rI, rU, rEq, rNe, tRet, tRetN, tAsg, gName, gSub, tBM, tBM0, tNext, tB, tNot, tAnd, tOr, tIf, tCall, tDrop, tBreak, tCont, L2.start, tDGet, sDPut, tTup, tLst, tDNewK, tRevL, rCat, rAppend, rPop, rSetL, tAndV, tOrV, tNotV, tSl, tPart, tNoPart, tM1, gTup, gCons, gNil, cxK, cxnK, List.map_cons, List.map_nil, List.length_cons, List.length_nil, List.replicate, List.cons_append, List.nil_append, List.append_nil, List.set_cons_zero, List.set_cons_succ, List.getElem?_cons_zero, List.getElem?_cons_succ, Option.some.injEq, V.ref.injEq, V.int.injEq, V.str.injEq, V.bl.injEq, V.ty.injEq, exists_eq_left', exists_eq_left, exists_and_left, List.cons.injEq, and_true, true_and, sc_ii, sc_ss, sc_bb, sc_ni, sc_in, sc_is, sc_si, sc_nn, decide_true, decide_false, reduceCtorEq, Bool.false_eq_true, if_true, if_false, ite_true, ite_false, exists_const, eq_self, false_and, and_false, or_false, false_or, exists_false, Evl.rLenS, rSum, wipe, tYes, exists_eq, exists_eq', rIxL, rIxT, rIxS, exists_and_right, gt_iff_lt, not_true_eq_false, not_false_eq_true, Bool.not_true, Bool.not_false, decide_eq_true_eq, Nat.reduceSub, Nat.reduceAdd, List.append_assoc, tChain, tDIn, tDNotIn, sDDel, tAug, ipI]
      refine ⟨small (by decide), fun t nt => ?_⟩
      have k1 : Kp [] H1 (upd H1 t (.tup [.str z])) := Kp.new nt
      have hul : us.length ≤ 1000 := by rw [hs.1, List.length_take]; omega
      refine ⟨us, k1 _ _ not0 ho, smallL (by omega), us ++ [.ref t], upd_same, ?_, (k.trans k1).wr no⟩
      have s1 := hs.kp k1
      have to : t ≠ o := fun q => by
        rw [q, ho] at nt
        cases nt
      refine ⟨by rw [List.length_append, s1.1, List.take_add_one, hz, List.length_append]; rfl, fun j v e => ?_⟩
      rw [List.take_add_one, hz]
      have old : ∀ {t' : Addr} {x' : Str}, upd H1 t (.tup [.str z]) t' = some (.tup [.str x']) → upd (upd H1 t (.tup [.str z])) o (.lst (us ++ [.ref t])) t' = some (.tup [.str x']) := by
        intro t' x' q
        have ne : t' ≠ o := fun w => by
          rw [w] at q
          rw [k1 _ _ not0 ho] at q
          cases q
        rw [upd_ne ne]
        exact q
      by_cases hj : j < us.length
      · rw [List.getElem?_append_left hj] at e
        obtain ⟨t', x', a1, a2, a3⟩ := s1.2 j v e
        exact ⟨t', x', a1, by rw [List.getElem?_append_left (by rw [← s1.1]; exact hj)]; exact a2, old a3⟩
      · have hl2 := (List.getElem?_eq_some_iff.mp e).1
        rw [List.length_append, List.length_singleton] at hl2
        have ej : j = us.length := by omega
        subst ej
        rw [List.getElem?_concat_length] at e
        cases e
        refine ⟨t, z, rfl, ?_, old upd_same⟩
        rw [s1.1]
        exact List.getElem?_concat_length
    · rintro H1 ⟨us, ho, hs, k⟩
      try simp only [tSeq, tIfS, tTest, tOp, tUn, tCB, tCons, tNil, tVar, tC, rI0, rI, rU, rEq, rNe, tRet, tRetN, tAsg, gName, gSub, tBM, tBM0, tNext, tB, tNot, tAnd, tOr, tIf, tCall, tDrop, tBreak, tCont, L2.start, tDGet, sDPut, tTup, tLst, tDNewK, tRevL, rCat, rAppend, rPop, rSetL, tAndV, tOrV, tNotV, tSl, tPart, tNoPart, tM1, gTup, gCons, gNil, cxK, cxnK, List.map_cons, List.map_nil, List.length_cons, List.length_nil, List.replicate, List.cons_append, List.nil_append, List.append_nil, List.set_cons_zero, List.set_cons_succ, List.getElem?_cons_zero, List.getElem?_cons_succ, Option.some.injEq, V.ref.injEq, V.int.injEq, V.str.injEq, V.bl.injEq, V.ty.injEq, exists_eq_left', exists_eq_left, exists_and_left, List.cons.injEq, and_true, true_and, sc_ii, sc_ss, sc_bb, sc_ni, sc_in, sc_is, sc_si, sc_nn, decide_true, decide_false, reduceCtorEq, Bool.false_eq_true, if_true, if_false, ite_true, ite_false, exists_const, eq_self, false_and, and_false, or_false, false_or, exists_false, Evl.rLenS, rSum, wipe, tYes, exists_eq, exists_eq', rIxL, rIxT, rIxS, exists_and_right, gt_iff_lt, not_true_eq_false, not_false_eq_true, Bool.not_true, Bool.not_false, decide_eq_true_eq, Nat.reduceSub, Nat.reduceAdd, List.append_assoc, tChain, tDIn, tDNotIn, sDDel, tAug, ipI]
      rw [List.length_map, List.take_length] at hs
      refine ⟨us, .inl ⟨sq_l ho, fun m nm => ⟨small (by decide), fun p np => ?_⟩⟩⟩
      have k1 : Kp [] H1 (upd H1 m (.tup us)) := Kp.new nm
      have k2 : Kp [] (upd H1 m (.tup us)) (upd (upd H1 m (.tup us)) p (.tup [.ref m, .bl false])) := Kp.new np
      exact q p m us _ ((k.trans k1).free0 np) upd_same (k2 _ _ not0 upd_same) ((hs.kp k1).kp k2) ((k.trans k1).trans k2)
theorem ok_always {f : Addr} {oc : Value} {od : Option Addr} {kV dc pm cd ct : Value} {an : Option Addr} {sl : Array (Option Value)} (T : BtO mg)
    (lk : K.lookup f = some ⟨oc, od, .func (PySem.W.fnOf "always" "always" (defArgs s_always) (defBody s_always) (defScope s_always) .none kV dc pm an cd ct), sl⟩) (hcd : PySem.W.codeIn K cd "always" = true) :
    FnR P w K mg base CX0 1 f (fun vs H Q E => ∃ ws rest, vs = ws ++ rest ∧ ws.length = ([] : List Str).length ∧ rest.length ≤ sizeLine ∧ ∀ p, H p = Option.none → spAlways K (ws ++ [V.ref p]) (upd H p (.tup rest)) Q E) := by
  refine StX.fn_star (ps := []) (pv := "names") lk hcd sc_always StX.cxUp_none (fun us rest h => ?_) (fun A outer s H vs Q E hr h => ?_)
  · match us, h, rest with
    | [], _, [] => rfl
    | [], _, [_] => rfl
    | [], _, _ :: _ :: _ => rfl
  · obtain ⟨a, xs, rfl, hS, hl, q⟩ := h
    refine ⟨_, (pss_one (ps_ret (pe_tup (pa_cons (pe_tup (pa_cons (pv 0) pa_nil)) (pa_cons pe_bl pa_nil))))), ?_⟩
    try simp only [tSeq, tIfS, tTest, tOp, tUn, tCB, tCons, tNil, tVar, tC, rI0, rI, rU, rEq, rNe, tRet, tRetN, tAsg, gName, gSub, tBM, tBM0, tNext, tB, tNot, tAnd, tOr, tIf, tCall, tDrop, tBreak, tCont, L2.start, tDGet, sDPut, tTup, tLst, tDNewK, tRevL, rCat, rAppend, rPop, rSetL, tAndV, tOrV, tNotV, tSl, tPart, tNoPart, tM1, gTup, gCons, gNil, cxK, cxnK, List.map_cons, List.map_nil, List.length_cons, List.length_nil, List.replicate, List.cons_append, List.nil_append, List.append_nil, List.set_cons_zero, List.set_cons_succ, List.getElem?_cons_zero, List.getElem?_cons_succ, Option.some.injEq, V.ref.injEq, V.int.injEq, V.str.injEq, V.bl.injEq, V.ty.injEq, exists_eq_left', exists_eq_left, exists_and_left, List.cons.injEq, and_true, true_and, sc_ii, sc_ss, sc_bb, sc_ni, sc_in, sc_is, sc_si, sc_nn, decide_true, decide_false, reduceCtorEq, Bool.false_eq_true, if_true, if_false, ite_true, ite_false, exists_const, eq_self, false_and, and_false, or_false, false_or, exists_false, Evl.rLenS, rSum, wipe, tYes, exists_eq, exists_eq', rIxL, rIxT, rIxS, exists_and_right, gt_iff_lt, not_true_eq_false, not_false_eq_true, Bool.not_true, Bool.not_false, decide_eq_true_eq, Nat.reduceSub, Nat.reduceAdd, List.append_assoc, tChain, tDIn, tDNotIn, sDDel, tAug, ipI]
    refine ⟨small (by decide), fun m nm => ⟨small (by decide), fun p np => ?_⟩⟩
    have k1 : Kp [] H (upd H m (.tup [.ref a])) := Kp.new nm
    refine q p m _ (k1.free0 np) upd_same ?_ (k1.trans (Kp.new np))
    exact (Kp.new (S := []) np) _ _ not0 upd_same
end
end My

set_option Elab.async false
set_option linter.all false
set_option maxRecDepth 100000
set_option maxHeartbeats 4000000
namespace My
open PySem L2 NdefX
def mtop (i j : Nat) : Stmt := match top i with
  | .ClassDef _ _ _ b _ _ _ _ _ _ _ => b.getD j (.Pass ⟨0, 0, 0, 0⟩)
  | _ => .Pass ⟨0, 0, 0, 0⟩
theorem len_app (x y : Str) : (x ++ y).length = x.length + y.length := Array.size_append
abbrev s_NoOperation_init : Stmt := mtop 2 0
theorem sc_NoOperation_init : NScope ["self", "name", "__class__"] ["self", "name"] ["__class__"] (defScope s_NoOperation_init) := nscope_by (by decide +kernel)
theorem ok_NoOperation_init {P : Program} {w : World} {K : PySem.W.Frag} {mg : Str → Option Value} {base : Heap} {CX : CXT} {f cc cda C : Addr} {fd : FuncData} (F : FunX K "__init__" "NoOperation.__init__" s_NoOperation_init f fd cc cda C) (T : ErrC K C) (G : CodeF K P cda) (hsup : mg "super" = none) (n1 : PySem.W.findIn K (.ref C) "name" = some none) {Pf : V → Prop} :
    FnOk P w K mg base CX 1 f fd ["self", "name"] (spErr1 C "name" Pf) := by
  have F0 := F
  obtain ⟨oc, od, kV, doc, pm, an, ct, osl, hfd, lk, hcd⟩ := F0.ex
  obtain ⟨cl, cld, csl, hcc⟩ := F0.cell
  refine F.ok sc_NoOperation_init (fun vs H Q E h => ?_) (fun A outer s H vs Q E hr h => ?_)
  · obtain ⟨a, v, rfl, _⟩ := h
    rfl
  · obtain ⟨a, v, rfl, hp, ha, q⟩ := h
    refine ⟨_, psat_cons (psat_sup T G lk (by rw [hfd]; rfl) hcc hsup rfl rfl rfl rfl rfl rfl rfl (pa_cons pe_str pa_nil) rfl rfl rfl rfl rfl) (pss_one (ps_ost (pv 0) (pv 1))), ?_⟩
    try simp only [tSeq, tIfS, tTest, tOp, tUn, tCB, tCons, tNil, tVar, tC, rI0, rI, rU, rEq, rNe, tRet, tRetN, tAsg, gName, gSub, tBM, tBM0, tNext, tB, tNot, tAnd, tOr, tIf, tCall, tDrop, tBreak, tCont, L2.start, tDGet, sDPut, tTup, tLst, tDNewK, tRevL, rCat, rAppend, rPop, rSetL, tAndV, tOrV, tNotV, tSl, tPart, tNoPart, tM1, gTup, gCons, gNil, cxK, cxnK, List.map_cons, List.map_nil, List.length_cons, List.length_nil, List.replicate, List.cons_append, List.nil_append, List.append_nil, List.set_cons_zero, List.set_cons_succ, List.getElem?_cons_zero, List.getElem?_cons_succ, Option.some.injEq, V.ref.injEq, V.int.injEq, V.str.injEq, V.bl.injEq, V.ty.injEq, exists_eq_left', exists_eq_left, exists_and_left, List.cons.injEq, and_true, true_and, sc_ii, sc_ss, sc_bb, sc_ni, sc_in, sc_is, sc_si, sc_nn, decide_true, decide_false, reduceCtorEq, Bool.false_eq_true, if_true, if_false, ite_true, ite_false, exists_const, eq_self, false_and, and_false, or_false, false_or, exists_false, Evl.rLenS, rSum, wipe, tYes, exists_eq, exists_eq', rIxL, rIxT, rIxS, exists_and_right, gt_iff_lt, not_true_eq_false, not_false_eq_true, Bool.not_true, Bool.not_false, decide_eq_true_eq, Nat.reduceSub, Nat.reduceAdd, List.append_assoc, tChain, tDIn, tDNotIn, sDDel, tAug, ipI, startF, tSupI, tOst]
    exact ⟨ha, by decide, ha, C, T.ox, n1, .inl ⟨ha, q⟩⟩
abbrev s_BadClient_init : Stmt := mtop 3 0
theorem sc_BadClient_init : NScope ["self", "caller", "__class__"] ["self", "caller"] ["__class__"] (defScope s_BadClient_init) := nscope_by (by decide +kernel)
theorem ok_BadClient_init {P : Program} {w : World} {K : PySem.W.Frag} {mg : Str → Option Value} {base : Heap} {CX : CXT} {f cc cda C : Addr} {fd : FuncData} (F : FunX K "__init__" "BadClient.__init__" s_BadClient_init f fd cc cda C) (T : ErrC K C) (G : CodeF K P cda) (hsup : mg "super" = none) (n1 : PySem.W.findIn K (.ref C) "caller" = some none) {Pf : V → Prop} (hPf : ∀ v, Pf v → ∃ i : Int, v = .int i ∧ i.natAbs.log2 < 1920) :
    FnOk P w K mg base CX 1 f fd ["self", "caller"] (spErr1 C "caller" Pf) := by
  have F0 := F
  obtain ⟨oc, od, kV, doc, pm, an, ct, osl, hfd, lk, hcd⟩ := F0.ex
  obtain ⟨cl, cld, csl, hcc⟩ := F0.cell
  refine F.ok sc_BadClient_init (fun vs H Q E h => ?_) (fun A outer s H vs Q E hr h => ?_)
  · obtain ⟨a, v, rfl, _⟩ := h
    rfl
  · obtain ⟨a, v, rfl, hp, ha, q⟩ := h
    obtain ⟨i, rfl, il⟩ := hPf v hp
    have tl := PyProof.Rows.int_text_len_1921 il
    refine ⟨_, psat_cons (psat_sup T G lk (by rw [hfd]; rfl) hcc hsup rfl rfl rfl rfl rfl rfl rfl (pa_cons (pe_joined (.cons pe_str (.cons (pe_fmt (pv 1)) (.cons pe_str .nil)))) pa_nil) rfl rfl rfl rfl rfl) (pss_one (ps_ost (pv 0) (pv 1))), ?_⟩
    try simp only [tSeq, tIfS, tTest, tOp, tUn, tCB, tCons, tNil, tVar, tC, rI0, rI, rU, rEq, rNe, tRet, tRetN, tAsg, gName, gSub, tBM, tBM0, tNext, tB, tNot, tAnd, tOr, tIf, tCall, tDrop, tBreak, tCont, L2.start, tDGet, sDPut, tTup, tLst, tDNewK, tRevL, rCat, rAppend, rPop, rSetL, tAndV, tOrV, tNotV, tSl, tPart, tNoPart, tM1, gTup, gCons, gNil, cxK, cxnK, List.map_cons, List.map_nil, List.length_cons, List.length_nil, List.replicate, List.cons_append, List.nil_append, List.append_nil, List.set_cons_zero, List.set_cons_succ, List.getElem?_cons_zero, List.getElem?_cons_succ, Option.some.injEq, V.ref.injEq, V.int.injEq, V.str.injEq, V.bl.injEq, V.ty.injEq, exists_eq_left', exists_eq_left, exists_and_left, List.cons.injEq, and_true, true_and, sc_ii, sc_ss, sc_bb, sc_ni, sc_in, sc_is, sc_si, sc_nn, decide_true, decide_false, reduceCtorEq, Bool.false_eq_true, if_true, if_false, ite_true, ite_false, exists_const, eq_self, false_and, and_false, or_false, false_or, exists_false, Evl.rLenS, rSum, wipe, tYes, exists_eq, exists_eq', rIxL, rIxT, rIxS, exists_and_right, gt_iff_lt, not_true_eq_false, not_false_eq_true, Bool.not_true, Bool.not_false, decide_eq_true_eq, Nat.reduceSub, Nat.reduceAdd, List.append_assoc, tChain, tDIn, tDNotIn, sDDel, tAug, ipI, startF, tSupI, tJs, tFmt, tOst]
    have z0 : Str.empty.length = 0 := rfl
    have s0 : (Str.ofString "caller ").length = 7 := by decide +kernel
    have s2 : (Str.ofString " of the client is wrong").length = 23 := by decide +kernel
    refine ⟨ha, small ?_, il, small ?_, small ?_, by decide, ha, C, T.ox, n1, .inl ⟨ha, q⟩⟩
    all_goals (simp only [len_app, z0, s0, s2]; omega)
abbrev s_check_callers : Stmt := top 13
theorem sc_check_callers : FnScope ["client", "at", "caller"] ["client"] (defScope s_check_callers) := ⟨rfl, rfl, rfl, by decide +kernel, rfl, by decide +kernel, by decide +kernel⟩
abbrev s_check_client : Stmt := top 14
theorem sc_check_client : FnScope ["client", "names", "menus", "_", "menu", "name"] ["client", "names"] (defScope s_check_client) := ⟨rfl, rfl, rfl, by decide +kernel, rfl, by decide +kernel, by decide +kernel⟩
/-- what stands of an own error with one field, and its __init__ -/
structure Er1 (P : Program) (w : World) (K : PySem.W.Frag) (mg : Str → Option Value) (base : Heap) (nm fld : Str) (C f : Addr) (fd : FuncData) (ps : List Str) (Pf : V → Prop) : Prop where
  k : mg nm = some (.ref C)
  ox : OexC K C
  ic : PySem.W.findIn K (.ref C) "__init__" = some (some (.ref f))
  ti : PySem.W.typeIn K (.ref f) = some (.type "function")
  b : Binds K fd ps []
  G : FnOk P w K mg base (L2.CX P w) 1 f fd ps (spErr1 C fld Pf)
def SmallI (v : V) : Prop := ∃ i : Int, v = .int i ∧ 0 ≤ i ∧ i ≤ 1000
theorem smallI_log {v : V} (h : SmallI v) : ∃ i : Int, v = .int i ∧ i.natAbs.log2 < 1920 := by
  obtain ⟨i, e, h0, h1⟩ := h
  refine ⟨i, e, ?_⟩
  by_cases e0 : i.natAbs = 0
  · rw [e0]; decide
  · rw [Nat.log2_lt e0]
    have h0 : (1000 : Nat) < 2 ^ 1920 := by decide +kernel
    omega
/-! ### what check_client tells -/
inductive Out
  | ok
  | cl (i : Nat)
  | nm (z : Str)
def badAt (i : Nat) (d : PyData) : Bool := i == 3 || !callerD d
def badIx : Nat → List PyData → Option Nat
  | _, [] => none
  | i, d :: ds => if badAt i d = true then some i else badIx (i + 1) ds
def namesM : PyData → List Str
  | .tuple ds => ds.map strD
  | _ => []
def menusC : PyData → List PyData
  | .tuple [.tuple ms, _] => ms
  | _ => []
def namesC (d : PyData) : List Str := (menusC d).flatMap namesM
def due (ds : List PyData) (ks : List Str) : Out := if ds = [] then .cl 0 else match badIx 0 ds with
  | some i => .cl i
  | none => match (ds.flatMap namesC).find? (fun z => !decide (z ∈ ks)) with
    | some z => .nm z
    | none => .ok
theorem badIx_some : ∀ {ds : List PyData} {i n : Nat} {d : PyData}, ds[n]? = some d → (∀ j e, j < n → ds[j]? = some e → badAt (i + j) e = false) → badAt (i + n) d = true → badIx i ds = some (i + n)
  | [], _, n, _, h, _, _ => by simp at h
  | x :: ds, i, 0, d, h, _, b => by
    cases h
    have b' : badAt i x = true := b
    unfold badIx
    rw [if_pos b']; rfl
  | x :: ds, i, n + 1, d, h, g, b => by
    have g0 : badAt i x = false := g 0 x (Nat.succ_pos n) rfl
    have ih := badIx_some (ds := ds) (i := i + 1) (n := n) (d := d) h (fun j e hj he => by
      have z := g (j + 1) e (Nat.succ_lt_succ hj) he
      have e1 : i + 1 + j = i + (j + 1) := by omega
      rw [e1]; exact z) (by
      have e1 : i + 1 + n = i + (n + 1) := by omega
      rw [e1]; exact b)
    unfold badIx
    rw [g0, if_neg Bool.false_ne_true, ih]
    congr 1
    omega
theorem badIx_none : ∀ {ds : List PyData} {i : Nat}, (∀ j e, ds[j]? = some e → badAt (i + j) e = false) → badIx i ds = none
  | [], _, _ => rfl
  | x :: ds, i, g => by
    have g0 : badAt i x = false := g 0 x rfl
    unfold badIx
    rw [g0, if_neg Bool.false_ne_true]
    refine badIx_none fun j e he => ?_
    have z := g (j + 1) e he
    have e1 : i + 1 + j = i + (j + 1) := by omega
    rw [e1]; exact z
theorem due_cl {ds : List PyData} {ks : List Str} {n : Nat} {d : PyData} (h : ds[n]? = some d) (g : ∀ j e, j < n → ds[j]? = some e → badAt j e = false) (b : badAt n d = true) : due ds ks = .cl n := by
  unfold due
  rw [if_neg (fun z => by rw [z] at h; simp at h), badIx_some (i := 0) h (fun j e hj he => by rw [Nat.zero_add]; exact g j e hj he) (by rw [Nat.zero_add]; exact b), Nat.zero_add]
theorem due_nm {ds : List PyData} {ks : List Str} {z : Str} {pre post : List Str} (ne : ds ≠ []) (g : ∀ j e, ds[j]? = some e → badAt j e = false) (e : ds.flatMap namesC = pre ++ z :: post) (hp : ∀ x ∈ pre, x ∈ ks) (hz : z ∉ ks) : due ds ks = .nm z := by
  unfold due
  rw [if_neg ne, badIx_none (i := 0) fun j e he => by rw [Nat.zero_add]; exact g j e he]
  have f : (ds.flatMap namesC).find? (fun z => !decide (z ∈ ks)) = some z := by
    rw [List.find?_eq_some_iff_append]
    refine ⟨by rw [decide_eq_false hz]; rfl, pre, post, e, fun x hx => by rw [decide_eq_true (hp x hx)]; rfl⟩
  rw [f]
theorem due_ok {ds : List PyData} {ks : List Str} (ne : ds ≠ []) (g : ∀ j e, ds[j]? = some e → badAt j e = false) (hp : ∀ x ∈ ds.flatMap namesC, x ∈ ks) : due ds ks = .ok := by
  unfold due
  rw [if_neg ne, badIx_none (i := 0) fun j e he => by rw [Nat.zero_add]; exact g j e he]
  have f : (ds.flatMap namesC).find? (fun z => !decide (z ∈ ks)) = none := by
    rw [List.find?_eq_none]
    intro x hx
    rw [decide_eq_true (hp x hx)]
    exact Bool.false_ne_true
  rw [f]
theorem callerD_parts {d : PyData} (h : callerD d = true) : ∃ ms b, d = .tuple [.tuple ms, .bool b] ∧ 1 ≤ ms.length ∧ ms.length ≤ 4 ∧ ∀ m ∈ ms, menuD m = true := by
  unfold callerD at h
  split at h
  · rename_i ms b
    rw [Bool.and_eq_true, Bool.and_eq_true, decide_eq_true_eq, decide_eq_true_eq, List.all_eq_true] at h
    exact ⟨ms, b, rfl, h.1, h.2.1, h.2.2⟩
  · cases h
theorem menuD_parts {d : PyData} (h : menuD d = true) : ∃ ds, d = .tuple ds ∧ 1 ≤ ds.length ∧ ds.length ≤ 6 ∧ ds.all nameD = true ∧ (ds.map strD).Nodup := by
  unfold menuD at h
  split at h
  · rename_i ds
    rw [Bool.and_eq_true, Bool.and_eq_true, Bool.and_eq_true, decide_eq_true_eq, decide_eq_true_eq, decide_eq_true_eq] at h
    exact ⟨ds, rfl, h.1, h.2.1, h.2.2.1, h.2.2.2⟩
  · cases h
theorem flat_take {α β : Type} {xs : List α} {f : α → List β} {i : Nat} {x : α} (h : xs[i]? = some x) : xs.flatMap f = (xs.take i).flatMap f ++ (f x ++ (xs.drop (i + 1)).flatMap f) := by
  have hi := (List.getElem?_eq_some_iff.mp h).1
  have e : xs = xs.take i ++ x :: xs.drop (i + 1) := by
    have ex := (List.getElem?_eq_some_iff.mp h).2
    rw [← ex, ← List.drop_eq_getElem_cons hi, List.take_append_drop]
  conv => lhs; rw [e]
  rw [List.flatMap_append, List.flatMap_cons]
theorem flat_snoc {α β : Type} {xs : List α} {f : α → List β} {i : Nat} {x : α} (h : xs[i]? = some x) : (xs.take (i + 1)).flatMap f = (xs.take i).flatMap f ++ f x := by
  rw [List.take_add_one, h, List.flatMap_append]
  show _ ++ ([x] : List α).flatMap f = _
  rw [List.flatMap_cons, List.flatMap_nil, List.append_nil]
def dueC (ds : List PyData) : Option Nat := if ds = [] then some 0 else badIx 0 ds
theorem due_ofC {ds : List PyData} {ks : List Str} {i : Nat} (h : dueC ds = some i) : due ds ks = .cl i := by
  unfold dueC at h; unfold due
  by_cases e : ds = []
  · rw [if_pos e] at h ⊢; cases h; rfl
  · rw [if_neg e] at h ⊢; rw [h]
theorem dueC_good : ∀ {ds : List PyData} {i : Nat}, badIx i ds = none → ∀ j e, ds[j]? = some e → badAt (i + j) e = false
  | [], _, _, _, _, h => by simp at h
  | x :: ds, i, h, j, e, he => by
    unfold badIx at h
    by_cases b : badAt i x = true
    · rw [if_pos b] at h; cases h
    · rw [if_neg b] at h
      cases j with
      | zero => cases he; exact Bool.not_eq_true _ ▸ b
      | succ j =>
        have z := dueC_good h j e he
        rw [show i + (j + 1) = i + 1 + j by omega]; exact z
theorem dueC_none {ds : List PyData} (h : dueC ds = none) : ds ≠ [] ∧ ∀ j e, ds[j]? = some e → badAt j e = false := by
  unfold dueC at h
  by_cases e : ds = []
  · rw [if_pos e] at h; cases h
  · rw [if_neg e] at h
    exact ⟨e, fun j d hd => by have z := dueC_good h j d hd; rw [Nat.zero_add] at z; exact z⟩
theorem dueC_some {ds : List PyData} {n : Nat} {d : PyData} (h : ds[n]? = some d) (g : ∀ j e, j < n → ds[j]? = some e → badAt j e = false) (b : badAt n d = true) : dueC ds = some n := by
  unfold dueC
  rw [if_neg (fun z => by rw [z] at h; simp at h), badIx_some (i := 0) h (fun j e hj he => by rw [Nat.zero_add]; exact g j e hj he) (by rw [Nat.zero_add]; exact b), Nat.zero_add]
theorem dueC_ok {ds : List PyData} (ne : ds ≠ []) (g : ∀ j e, ds[j]? = some e → badAt j e = false) : dueC ds = none := by
  unfold dueC
  rw [if_neg ne, badIx_none (i := 0) fun j e he => by rw [Nat.zero_add]; exact g j e he]
def spCC (K : PySem.W.Frag) (BC : Addr) : Sp := fun vs H Q E => ∃ (a : Addr) (xs : List V) (ds : List PyData), vs = [.ref a] ∧ SqL K H a xs ∧ DqAll H xs ds ∧ szAll ds = true ∧ ds.length ≤ 1000 ∧
  (dueC ds = none → ∀ H', Kp [] H H' → Q .non H') ∧
  (∀ i : Nat, dueC ds = some i → ∀ (d : Addr) (H' : Hp), H d = none → H' d = some (.xd [("caller", .int i)]) → Kp [] H H' → E (.ref BC) (some d) H')
def spChk (K : PySem.W.Frag) (BC NO : Addr) : Sp := fun vs H Q E => ∃ (a b : Addr) (xs : List V) (ds : List PyData) (ks : List Str), vs = [.ref a, .ref b] ∧ SqL K H a xs ∧ DqAll H xs ds ∧ szAll ds = true ∧ ds.length ≤ 1000 ∧ SqL K H b (ks.map V.str) ∧
  (due ds ks = .ok → ∀ H', Kp [] H H' → Q .non H') ∧
  (∀ i : Nat, due ds ks = .cl i → ∀ (d : Addr) (H' : Hp), H d = none → H' d = some (.xd [("caller", .int i)]) → Kp [] H H' → E (.ref BC) (some d) H') ∧
  (∀ z : Str, due ds ks = .nm z → ∀ (d : Addr) (H' : Hp), H d = none → H' d = some (.xd [("name", .str z)]) → Kp [] H H' → E (.ref NO) (some d) H')
theorem inV_str {z : Str} : ∀ {ks : List Str}, inV (.str z) (ks.map V.str) = decide (z ∈ ks)
  | [] => rfl
  | k :: ks => by
    have e : inV (.str z) ((k :: ks).map V.str) = ((k == z) || inV (.str z) (ks.map V.str)) := rfl
    rw [e, inV_str (ks := ks)]
    by_cases h : k = z
    · rw [h, beq_self_eq_true, Bool.true_or, decide_eq_true List.mem_cons_self]
    · rw [beq_eq_false_iff_ne.mpr h, Bool.false_or]
      refine decide_eq_decide.mpr ⟨fun q => List.mem_cons_of_mem _ q, fun q => ?_⟩
      rcases List.mem_cons.mp q with q | q
      · exact absurd q.symm h
      · exact q
structure BtB (mg : Str → Option Value) (tL t3 t4 t6 : Tok) : Prop extends BtA mg tL t3 t4 t6 where
  b_enumerate : mg "enumerate" = none
section
variable {P : Program} {w : World} {K : PySem.W.Frag} {mg : Str → Option Value} {base : Heap} {tL t3 t4 t6 : Tok}
def Ck1 (a : Addr) (H : Hp) (ds : List PyData) (i : Nat) (σ : L2.St) (H' : Hp) : Prop := ∃ c1 c2, σ = [some (.ref a), c1, c2] ∧ Kp [] H H' ∧ ∀ j e, j < i → ds[j]? = some e → badAt j e = false
def Ck2 (a b : Addr) (H : Hp) (ds : List PyData) (ks : List Str) (i : Nat) (σ : L2.St) (H' : Hp) : Prop := ∃ c3 c4 c5 c6, σ = [some (.ref a), some (.ref b), c3, c4, c5, c6] ∧ Kp [] H H' ∧ ∀ z ∈ (ds.take i).flatMap namesC, z ∈ ks
def Ck3 (a b m : Addr) (v : V) (H : Hp) (ms : List PyData) (ks : List Str) (i : Nat) (σ : L2.St) (H' : Hp) : Prop := ∃ c5 c6, σ = [some (.ref a), some (.ref b), some (.ref m), some v, c5, c6] ∧ Kp [] H H' ∧ ∀ z ∈ (ms.take i).flatMap namesM, z ∈ ks
def Ck4 (a b m n : Addr) (v : V) (H : Hp) (zs : List Str) (ks : List Str) (i : Nat) (σ : L2.St) (H' : Hp) : Prop := ∃ c6, σ = [some (.ref a), some (.ref b), some (.ref m), some v, some (.ref n), c6] ∧ Kp [] H H' ∧ ∀ z ∈ zs.take i, z ∈ ks
theorem ok_check_callers {f : Addr} {fd : FuncData} (D : Df K mg "check_callers" s_check_callers ["client"] f fd) (T : BtB mg tL t3 t4 t6) {BC fB : Addr} {fdB : FuncData} (E_BadClient : Er1 P w K mg base "BadClient" "caller" BC fB fdB ["self", "caller"] SmallI)
    {fb : Addr} {fdb : FuncData} (D_is_caller : Df K mg "is_caller" s_is_caller ["value"] fb fdb) (G_is_caller : FnOk P w K mg base CX0 3 fb fdb ["value"] (spD callerD)) :
    FnOk P w K mg base (L2.CX P w) 4 f fd ["client"] (spCC K BC) := by
  refine D.F.okX sc_check_callers (fun vs H Q E h => ?_) (fun cdv A outer s H vs Q E hr h => ?_)
  · obtain ⟨a, _, _, rfl, _⟩ := h
    rfl
  · obtain ⟨a, xs, ds, rfl, hS, hD, sz, hl, qO, qC⟩ := h
    have hu := hu_of hr
    have hxl := hD.len
    refine ⟨_, (pss_cons (ps_if (pt_not (pt_truth (pv 0) (by intro _; rfl))) (pss_one (ps_raise rfl (takes_of rfl rfl rfl rfl) (pmk_oex E_BadClient.ox E_BadClient.ic E_BadClient.ti E_BadClient.G (hr.mono (by decide)) E_BadClient.b .nil passL rfl E_BadClient.k (pa_cons pe_int pa_nil)))) pss_nil)
      (pss_one (ps_for (passes_of rfl) rfl (pi_enum rfl T.b_enumerate (pa_cons (pv 0) pa_nil)) (pg_tup (n := 2) (by rfl) (pgs_cons (pg_name (i := 1) sc_check_callers.nd rfl (Or.inl rfl)) (pgs_cons (pg_name (i := 2) sc_check_callers.nd rfl (Or.inl rfl)) pgs_nil))) (pss_one (ps_if (PW.pt (pw_or (pt_cmpR op_eq (pv 1) (pe_glob (v := .int 3) rfl T.c_MOST_CALLERS ⟨_, rfl⟩) (nomark _)) (pw_or1 (pt_not (pt_val (pe_call G_is_caller (hr.mono (by decide)) rfl D_is_caller.g D_is_caller.F.kp D_is_caller.b .nil pass0 (pa_cons (pv 2) pa_nil))))))) (pss_one (ps_raise rfl (takes_of rfl rfl rfl rfl) (pmk_oex E_BadClient.ox E_BadClient.ic E_BadClient.ti E_BadClient.G (hr.mono (by decide)) E_BadClient.b .nil passL rfl E_BadClient.k (pa_cons (pv 1) pa_nil)))) pss_nil))))), ?_⟩
    try simp only [tSeq, tIfS, tTest, tOp, tUn, tCB, tCons, tNil, tVar, tC, rI0, rI, rU, rEq, rNe, tRet, tRetN, tAsg, gName, gSub, tBM, tBM0, tNext, tB, tNot, tAnd, tOr, tIf, tCall, tDrop, tBreak, tCont, L2.start, tDGet, sDPut, tTup, tLst, tDNewK, tRevL, rCat, rAppend, rPop, rSetL, tAndV, tOrV, tNotV, tSl, tPart, tNoPart, tM1, gTup, gCons, gNil, cxK, cxnK, List.map_cons, List.map_nil, List.length_cons, List.length_nil, List.replicate, List.cons_append, List.nil_append, List.append_nil, List.set_cons_zero, List.set_cons_succ, List.getElem?_cons_zero, List.getElem?_cons_succ, Option.some.injEq, V.ref.injEq, V.int.injEq, V.str.injEq, V.bl.injEq, V.ty.injEq, exists_eq_left', exists_eq_left, exists_and_left, List.cons.injEq, and_true, true_and, sc_ii, sc_ss, sc_bb, sc_ni, sc_in, sc_is, sc_si, sc_nn, decide_true, decide_false, reduceCtorEq, Bool.false_eq_true, if_true, if_false, ite_true, ite_false, exists_const, eq_self, false_and, and_false, or_false, false_or, exists_false, Evl.rLenS, rSum, wipe, tYes, exists_eq, exists_eq', rIxL, rIxT, rIxS, exists_and_right, gt_iff_lt, not_true_eq_false, not_false_eq_true, Bool.not_true, Bool.not_false, decide_eq_true_eq, Nat.reduceSub, Nat.reduceAdd, List.append_assoc, tChain, tDIn, tDNotIn, sDDel, tAug, ipI]
    refine ⟨!xs.isEmpty, .inl ⟨xs, hS, by cases xs <;> rfl⟩, ?_⟩
    cases hx0 : xs with
    | nil =>
      subst hx0
      have e0 : ds = [] := by cases hD; rfl
      try simp only [tSeq, tIfS, tTest, tOp, tUn, tCB, tCons, tNil, tVar, tC, rI0, rI, rU, rEq, rNe, tRet, tRetN, tAsg, gName, gSub, tBM, tBM0, tNext, tB, tNot, tAnd, tOr, tIf, tCall, tDrop, tBreak, tCont, L2.start, tDGet, sDPut, tTup, tLst, tDNewK, tRevL, rCat, rAppend, rPop, rSetL, tAndV, tOrV, tNotV, tSl, tPart, tNoPart, tM1, gTup, gCons, gNil, cxK, cxnK, List.map_cons, List.map_nil, List.length_cons, List.length_nil, List.replicate, List.cons_append, List.nil_append, List.append_nil, List.set_cons_zero, List.set_cons_succ, List.getElem?_cons_zero, List.getElem?_cons_succ, Option.some.injEq, V.ref.injEq, V.int.injEq, V.str.injEq, V.bl.injEq, V.ty.injEq, exists_eq_left', exists_eq_left, exists_and_left, List.cons.injEq, and_true, true_and, sc_ii, sc_ss, sc_bb, sc_ni, sc_in, sc_is, sc_si, sc_nn, decide_true, decide_false, reduceCtorEq, Bool.false_eq_true, if_true, if_false, ite_true, ite_false, exists_const, eq_self, false_and, and_false, or_false, false_or, exists_false, Evl.rLenS, rSum, wipe, tYes, exists_eq, exists_eq', rIxL, rIxT, rIxS, exists_and_right, gt_iff_lt, not_true_eq_false, not_false_eq_true, Bool.not_true, Bool.not_false, decide_eq_true_eq, Nat.reduceSub, Nat.reduceAdd, List.append_assoc, tChain, tDIn, tDNotIn, sDDel, tAug, ipI, List.isEmpty]
      refine err1_made (P := SmallI) ⟨0, rfl, by decide, by decide⟩ fun d H4 nd hd k4 => ?_
      exact qC 0 (by unfold dueC; rw [if_pos e0]) d H4 nd hd k4
    | cons x0 xr =>
    rw [← hx0]
    have ne : ds ≠ [] := fun z => by
      rw [z] at hD
      cases hD
      cases hx0
    have ee : xs.isEmpty = false := by rw [hx0]; rfl
    rw [ee]
    try simp only [tSeq, tIfS, tTest, tOp, tUn, tCB, tCons, tNil, tVar, tC, rI0, rI, rU, rEq, rNe, tRet, tRetN, tAsg, gName, gSub, tBM, tBM0, tNext, tB, tNot, tAnd, tOr, tIf, tCall, tDrop, tBreak, tCont, L2.start, tDGet, sDPut, tTup, tLst, tDNewK, tRevL, rCat, rAppend, rPop, rSetL, tAndV, tOrV, tNotV, tSl, tPart, tNoPart, tM1, gTup, gCons, gNil, cxK, cxnK, List.map_cons, List.map_nil, List.length_cons, List.length_nil, List.replicate, List.cons_append, List.nil_append, List.append_nil, List.set_cons_zero, List.set_cons_succ, List.getElem?_cons_zero, List.getElem?_cons_succ, Option.some.injEq, V.ref.injEq, V.int.injEq, V.str.injEq, V.bl.injEq, V.ty.injEq, exists_eq_left', exists_eq_left, exists_and_left, List.cons.injEq, and_true, true_and, sc_ii, sc_ss, sc_bb, sc_ni, sc_in, sc_is, sc_si, sc_nn, decide_true, decide_false, reduceCtorEq, Bool.false_eq_true, if_true, if_false, ite_true, ite_false, exists_const, eq_self, false_and, and_false, or_false, false_or, exists_false, Evl.rLenS, rSum, wipe, tYes, exists_eq, exists_eq', rIxL, rIxT, rIxS, exists_and_right, gt_iff_lt, not_true_eq_false, not_false_eq_true, Bool.not_true, Bool.not_false, decide_eq_true_eq, Nat.reduceSub, Nat.reduceAdd, List.append_assoc, tChain, tDIn, tDNotIn, sDDel, tAug, ipI]
    refine ⟨.ref a, rfl, a, xs, rfl, hS, ?_⟩
    refine for_it (walk_enum (K := K) (a := a) (xs := xs)) (Ck1 a H ds) ⟨_, _, rfl, Kp.refl _ _, fun j e hj => absurd hj (Nat.not_lt_zero j)⟩ (fun i σ H2 _ h => by
      obtain ⟨_, _, _, kp, _⟩ := h
      exact kp.ls not0 hS) ?_ ?_
    · rintro i x σ H2 H3 hi ⟨c1, c2, rfl, kp, hg⟩ ⟨t, u, v, rfl, nt, rfl, e1, e2⟩
      cases e1
      obtain ⟨d, ed, hq⟩ := hD.get e2
      have k2 : Kp [] H2 (upd H2 t (.tup [.int (i : Nat), v])) := Kp.new nt
      have k02 := kp.trans k2
      have szd := szAll_mem sz d (List.mem_of_getElem? ed)
      try simp only [tSeq, tIfS, tTest, tOp, tUn, tCB, tCons, tNil, tVar, tC, rI0, rI, rU, rEq, rNe, tRet, tRetN, tAsg, gName, gSub, tBM, tBM0, tNext, tB, tNot, tAnd, tOr, tIf, tCall, tDrop, tBreak, tCont, L2.start, tDGet, sDPut, tTup, tLst, tDNewK, tRevL, rCat, rAppend, rPop, rSetL, tAndV, tOrV, tNotV, tSl, tPart, tNoPart, tM1, gTup, gCons, gNil, cxK, cxnK, List.map_cons, List.map_nil, List.length_cons, List.length_nil, List.replicate, List.cons_append, List.nil_append, List.append_nil, List.set_cons_zero, List.set_cons_succ, List.getElem?_cons_zero, List.getElem?_cons_succ, Option.some.injEq, V.ref.injEq, V.int.injEq, V.str.injEq, V.bl.injEq, V.ty.injEq, exists_eq_left', exists_eq_left, exists_and_left, List.cons.injEq, and_true, true_and, sc_ii, sc_ss, sc_bb, sc_ni, sc_in, sc_is, sc_si, sc_nn, decide_true, decide_false, reduceCtorEq, Bool.false_eq_true, if_true, if_false, ite_true, ite_false, exists_const, eq_self, false_and, and_false, or_false, false_or, exists_false, Evl.rLenS, rSum, wipe, tYes, exists_eq, exists_eq', rIxL, rIxT, rIxS, exists_and_right, gt_iff_lt, not_true_eq_false, not_false_eq_true, Bool.not_true, Bool.not_false, decide_eq_true_eq, Nat.reduceSub, Nat.reduceAdd, List.append_assoc, tChain, tDIn, tDNotIn, sDDel, tAug, ipI]
      refine ⟨_, sq_t upd_same, rfl, _, _, rfl, _, _, rfl, rfl, ?_⟩
      have il : i ≤ 1000 := by omega
      have bad : badAt i d = true → ∀ H5, Kp [] H H5 → tMkO BC (spErr1 BC "caller" SmallI) [] (tCons (tVar 1) tNil) [some (.ref a), some (.int i), some v] H5 fun cls d H' => E cls d H' := fun bd H5 k5 =>
        ⟨.int i, rfl, err1_made (P := SmallI) ⟨i, rfl, by omega, by omega⟩ fun d' H6 nd hd k6 => qC i (dueC_some ed hg bd) d' H6 (k5.free0 nd) hd (k5.trans k6)⟩
      refine ⟨rfl, ?_⟩
      refine ite2 (fun h3 => ?_) (fun h3 => ?_)
      · have e3 : i = 3 := by
          have := V.int.inj h3
          omega
        exact bad (by unfold badAt; rw [e3]; rfl) _ k02
      · have e3 : (i == 3) = false := beq_eq_false_iff_ne.mpr fun z => h3 (by rw [z]; rfl)
        refine ⟨v, d, rfl, hq.kp k02, szd, fun H4 k4 => ?_⟩
        cases hc : callerD d with
        | false =>
          try simp only [tSeq, tIfS, tTest, tOp, tUn, tCB, tCons, tNil, tVar, tC, rI0, rI, rU, rEq, rNe, tRet, tRetN, tAsg, gName, gSub, tBM, tBM0, tNext, tB, tNot, tAnd, tOr, tIf, tCall, tDrop, tBreak, tCont, L2.start, tDGet, sDPut, tTup, tLst, tDNewK, tRevL, rCat, rAppend, rPop, rSetL, tAndV, tOrV, tNotV, tSl, tPart, tNoPart, tM1, gTup, gCons, gNil, cxK, cxnK, List.map_cons, List.map_nil, List.length_cons, List.length_nil, List.replicate, List.cons_append, List.nil_append, List.append_nil, List.set_cons_zero, List.set_cons_succ, List.getElem?_cons_zero, List.getElem?_cons_succ, Option.some.injEq, V.ref.injEq, V.int.injEq, V.str.injEq, V.bl.injEq, V.ty.injEq, exists_eq_left', exists_eq_left, exists_and_left, List.cons.injEq, and_true, true_and, sc_ii, sc_ss, sc_bb, sc_ni, sc_in, sc_is, sc_si, sc_nn, decide_true, decide_false, reduceCtorEq, Bool.false_eq_true, if_true, if_false, ite_true, ite_false, exists_const, eq_self, false_and, and_false, or_false, false_or, exists_false, Evl.rLenS, rSum, wipe, tYes, exists_eq, exists_eq', rIxL, rIxT, rIxS, exists_and_right, gt_iff_lt, not_true_eq_false, not_false_eq_true, Bool.not_true, Bool.not_false, decide_eq_true_eq, Nat.reduceSub, Nat.reduceAdd, List.append_assoc, tChain, tDIn, tDNotIn, sDDel, tAug, ipI]
          exact bad (by unfold badAt; rw [hc, e3]; rfl) _ (k02.trans k4)
        | true =>
          try simp only [tSeq, tIfS, tTest, tOp, tUn, tCB, tCons, tNil, tVar, tC, rI0, rI, rU, rEq, rNe, tRet, tRetN, tAsg, gName, gSub, tBM, tBM0, tNext, tB, tNot, tAnd, tOr, tIf, tCall, tDrop, tBreak, tCont, L2.start, tDGet, sDPut, tTup, tLst, tDNewK, tRevL, rCat, rAppend, rPop, rSetL, tAndV, tOrV, tNotV, tSl, tPart, tNoPart, tM1, gTup, gCons, gNil, cxK, cxnK, List.map_cons, List.map_nil, List.length_cons, List.length_nil, List.replicate, List.cons_append, List.nil_append, List.append_nil, List.set_cons_zero, List.set_cons_succ, List.getElem?_cons_zero, List.getElem?_cons_succ, Option.some.injEq, V.ref.injEq, V.int.injEq, V.str.injEq, V.bl.injEq, V.ty.injEq, exists_eq_left', exists_eq_left, exists_and_left, List.cons.injEq, and_true, true_and, sc_ii, sc_ss, sc_bb, sc_ni, sc_in, sc_is, sc_si, sc_nn, decide_true, decide_false, reduceCtorEq, Bool.false_eq_true, if_true, if_false, ite_true, ite_false, exists_const, eq_self, false_and, and_false, or_false, false_or, exists_false, Evl.rLenS, rSum, wipe, tYes, exists_eq, exists_eq', rIxL, rIxT, rIxS, exists_and_right, gt_iff_lt, not_true_eq_false, not_false_eq_true, Bool.not_true, Bool.not_false, decide_eq_true_eq, Nat.reduceSub, Nat.reduceAdd, List.append_assoc, tChain, tDIn, tDNotIn, sDDel, tAug, ipI]
          refine ⟨_, _, rfl, k02.trans k4, fun j e hj he => ?_⟩
          by_cases ej : j = i
          · rw [ej] at he
            rw [ed] at he
            cases he
            unfold badAt
            rw [ej, hc, e3]; rfl
          · exact hg j e (by omega) he
    · rintro σ H2 ⟨c1, c2, rfl, kp, hg⟩
      exact qO (dueC_ok ne fun j e he => hg j e (by
        have := (List.getElem?_eq_some_iff.mp he).1
        omega) he) _ kp
theorem ok_check_client {f : Addr} {fd : FuncData} (D : Df K mg "check_client" s_check_client ["client", "names"] f fd) (T : BtB mg tL t3 t4 t6) {BC NO fN : Addr} {fdN : FuncData} (E_NoOperation : Er1 P w K mg base "NoOperation" "name" NO fN fdN ["self", "name"] (fun _ => True))
    {fb : Addr} {fdb : FuncData} (D_check_callers : Df K mg "check_callers" s_check_callers ["client"] fb fdb) (G_check_callers : FnOk P w K mg base (L2.CX P w) 4 fb fdb ["client"] (spCC K BC)) :
    FnOk P w K mg base (L2.CX P w) 5 f fd ["client", "names"] (spChk K BC NO) := by
  refine D.F.okX sc_check_client (fun vs H Q E h => ?_) (fun cdv A outer s H vs Q E hr h => ?_)
  · obtain ⟨a, b, _, _, _, rfl, _⟩ := h
    rfl
  · obtain ⟨a, b, xs, ds, ks, rfl, hS, hD, sz, hl, hK, qO, qC, qN⟩ := h
    have hu := hu_of hr
    have hxl := hD.len
    refine ⟨_, (pss_cons (ps_expr (pe_call G_check_callers (hr.mono (by decide)) rfl D_check_callers.g D_check_callers.F.kp D_check_callers.b .nil (passes_call (E := E) (takes_of rfl rfl rfl rfl) (fun _ _ _ _ h => h)) (pa_cons (pv 0) pa_nil)))
      (pss_one (ps_for (passes_of rfl) rfl (pi_list (pv 0)) (pg_tup (n := 2) (by rfl) (pgs_cons (pg_name (i := 2) sc_check_client.nd rfl (Or.inl rfl)) (pgs_cons (pg_name (i := 3) sc_check_client.nd rfl (Or.inl rfl)) pgs_nil))) (pss_one (ps_for (passes_of rfl) rfl (pi_tup (pv 2)) (pg_name (i := 4) sc_check_client.nd rfl (Or.inl rfl)) (pss_one (ps_for (passes_of rfl) rfl (pi_tup (pv 4)) (pg_name (i := 5) sc_check_client.nd rfl (Or.inl rfl)) (pss_one (ps_if (pt_cmpR op_notIn_seq (pv 5) (pv 1) (by rfl)) (pss_one (ps_raise rfl (takes_of rfl rfl rfl rfl) (pmk_oex E_NoOperation.ox E_NoOperation.ic E_NoOperation.ti E_NoOperation.G (hr.mono (by decide)) E_NoOperation.b .nil passL rfl E_NoOperation.k (pa_cons (pv 5) pa_nil)))) pss_nil))))))))), ?_⟩
    try simp only [tSeq, tIfS, tTest, tOp, tUn, tCB, tCons, tNil, tVar, tC, rI0, rI, rU, rEq, rNe, tRet, tRetN, tAsg, gName, gSub, tBM, tBM0, tNext, tB, tNot, tAnd, tOr, tIf, tCall, tDrop, tBreak, tCont, L2.start, tDGet, sDPut, tTup, tLst, tDNewK, tRevL, rCat, rAppend, rPop, rSetL, tAndV, tOrV, tNotV, tSl, tPart, tNoPart, tM1, gTup, gCons, gNil, cxK, cxnK, List.map_cons, List.map_nil, List.length_cons, List.length_nil, List.replicate, List.cons_append, List.nil_append, List.append_nil, List.set_cons_zero, List.set_cons_succ, List.getElem?_cons_zero, List.getElem?_cons_succ, Option.some.injEq, V.ref.injEq, V.int.injEq, V.str.injEq, V.bl.injEq, V.ty.injEq, exists_eq_left', exists_eq_left, exists_and_left, List.cons.injEq, and_true, true_and, sc_ii, sc_ss, sc_bb, sc_ni, sc_in, sc_is, sc_si, sc_nn, decide_true, decide_false, reduceCtorEq, Bool.false_eq_true, if_true, if_false, ite_true, ite_false, exists_const, eq_self, false_and, and_false, or_false, false_or, exists_false, Evl.rLenS, rSum, wipe, tYes, exists_eq, exists_eq', rIxL, rIxT, rIxS, exists_and_right, gt_iff_lt, not_true_eq_false, not_false_eq_true, Bool.not_true, Bool.not_false, decide_eq_true_eq, Nat.reduceSub, Nat.reduceAdd, List.append_assoc, tChain, tDIn, tDNotIn, sDDel, tAug, ipI]
    refine ⟨a, xs, ds, rfl, hS, hD, sz, hl, fun eC H2 kp => ?_, fun i eC d H' nd hd k => qC i (due_ofC eC) d H' nd hd k⟩
    obtain ⟨ne, hgA⟩ := dueC_none eC
    try simp only [tSeq, tIfS, tTest, tOp, tUn, tCB, tCons, tNil, tVar, tC, rI0, rI, rU, rEq, rNe, tRet, tRetN, tAsg, gName, gSub, tBM, tBM0, tNext, tB, tNot, tAnd, tOr, tIf, tCall, tDrop, tBreak, tCont, L2.start, tDGet, sDPut, tTup, tLst, tDNewK, tRevL, rCat, rAppend, rPop, rSetL, tAndV, tOrV, tNotV, tSl, tPart, tNoPart, tM1, gTup, gCons, gNil, cxK, cxnK, List.map_cons, List.map_nil, List.length_cons, List.length_nil, List.replicate, List.cons_append, List.nil_append, List.append_nil, List.set_cons_zero, List.set_cons_succ, List.getElem?_cons_zero, List.getElem?_cons_succ, Option.some.injEq, V.ref.injEq, V.int.injEq, V.str.injEq, V.bl.injEq, V.ty.injEq, exists_eq_left', exists_eq_left, exists_and_left, List.cons.injEq, and_true, true_and, sc_ii, sc_ss, sc_bb, sc_ni, sc_in, sc_is, sc_si, sc_nn, decide_true, decide_false, reduceCtorEq, Bool.false_eq_true, if_true, if_false, ite_true, ite_false, exists_const, eq_self, false_and, and_false, or_false, false_or, exists_false, Evl.rLenS, rSum, wipe, tYes, exists_eq, exists_eq', rIxL, rIxT, rIxS, exists_and_right, gt_iff_lt, not_true_eq_false, not_false_eq_true, Bool.not_true, Bool.not_false, decide_eq_true_eq, Nat.reduceSub, Nat.reduceAdd, List.append_assoc, tChain, tDIn, tDNotIn, sDDel, tAug, ipI]
    refine forL (K := K) (a := a) (xs := xs) (Ck2 a b H ds ks) rfl (kp.ls not0 hS) ⟨_, _, _, _, rfl, kp, fun z hz => nomatch hz⟩ (fun i σ H3 _ h => by
      obtain ⟨_, _, _, _, _, k, _⟩ := h
      exact k.ls not0 hS) ?_ ?_
    · rintro i x σ H3 hx ⟨c3, c4, c5, c6, rfl, k3, hn⟩
      obtain ⟨d, ed, hq⟩ := hD.get hx
      have g0 := hgA i d ed
      have hc : callerD d = true := by
        unfold badAt at g0
        cases z : callerD d with
        | true => rfl
        | false => rw [z] at g0; cases h : i == 3 <;> rw [h] at g0 <;> cases g0
      obtain ⟨ms, bb, rfl, m1, m4, hms⟩ := callerD_parts hc
      cases hq with
      | tup et ht =>
      cases ht with
      | cons h1 ht =>
      cases ht with
      | cons h2 ht =>
      cases ht
      cases h1 with
      | @tup m ys _ em hm =>
      cases h2
      try simp only [tSeq, tIfS, tTest, tOp, tUn, tCB, tCons, tNil, tVar, tC, rI0, rI, rU, rEq, rNe, tRet, tRetN, tAsg, gName, gSub, tBM, tBM0, tNext, tB, tNot, tAnd, tOr, tIf, tCall, tDrop, tBreak, tCont, L2.start, tDGet, sDPut, tTup, tLst, tDNewK, tRevL, rCat, rAppend, rPop, rSetL, tAndV, tOrV, tNotV, tSl, tPart, tNoPart, tM1, gTup, gCons, gNil, cxK, cxnK, List.map_cons, List.map_nil, List.length_cons, List.length_nil, List.replicate, List.cons_append, List.nil_append, List.append_nil, List.set_cons_zero, List.set_cons_succ, List.getElem?_cons_zero, List.getElem?_cons_succ, Option.some.injEq, V.ref.injEq, V.int.injEq, V.str.injEq, V.bl.injEq, V.ty.injEq, exists_eq_left', exists_eq_left, exists_and_left, List.cons.injEq, and_true, true_and, sc_ii, sc_ss, sc_bb, sc_ni, sc_in, sc_is, sc_si, sc_nn, decide_true, decide_false, reduceCtorEq, Bool.false_eq_true, if_true, if_false, ite_true, ite_false, exists_const, eq_self, false_and, and_false, or_false, false_or, exists_false, Evl.rLenS, rSum, wipe, tYes, exists_eq, exists_eq', rIxL, rIxT, rIxS, exists_and_right, gt_iff_lt, not_true_eq_false, not_false_eq_true, Bool.not_true, Bool.not_false, decide_eq_true_eq, Nat.reduceSub, Nat.reduceAdd, List.append_assoc, tChain, tDIn, tDNotIn, sDDel, tAug, ipI]
      refine ⟨_, sq_t (k3 _ _ not0 et), rfl, _, _, rfl, _, _, rfl, rfl, ?_⟩
      have eC : namesC (.tuple [.tuple ms, .bool bb]) = ms.flatMap namesM := rfl
      have hml := hm.len
      refine forT (K := K) (a := m) (xs := ys) (Ck3 a b m (.bl bb) H ms ks) rfl (k3.tp not0 (sq_t em)) ⟨_, _, rfl, k3, fun z hz => nomatch hz⟩ (fun j σ H4 _ h => by
        obtain ⟨_, _, _, k, _⟩ := h
        exact k.tp not0 (sq_t em)) ?_ ?_
      · rintro j y σ H4 hy ⟨c5, c6, rfl, k4, hn2⟩
        obtain ⟨md, em2, hqm⟩ := hm.get hy
        obtain ⟨zs, rfl, z1, z6, znm, znd⟩ := menuD_parts (hms md (List.mem_of_getElem? em2))
        cases hqm with
        | @tup n ws _ en hw =>
        have ew := strs_of hw znm
        have eM : namesM (.tuple zs) = zs.map strD := rfl
        try simp only [tSeq, tIfS, tTest, tOp, tUn, tCB, tCons, tNil, tVar, tC, rI0, rI, rU, rEq, rNe, tRet, tRetN, tAsg, gName, gSub, tBM, tBM0, tNext, tB, tNot, tAnd, tOr, tIf, tCall, tDrop, tBreak, tCont, L2.start, tDGet, sDPut, tTup, tLst, tDNewK, tRevL, rCat, rAppend, rPop, rSetL, tAndV, tOrV, tNotV, tSl, tPart, tNoPart, tM1, gTup, gCons, gNil, cxK, cxnK, List.map_cons, List.map_nil, List.length_cons, List.length_nil, List.replicate, List.cons_append, List.nil_append, List.append_nil, List.set_cons_zero, List.set_cons_succ, List.getElem?_cons_zero, List.getElem?_cons_succ, Option.some.injEq, V.ref.injEq, V.int.injEq, V.str.injEq, V.bl.injEq, V.ty.injEq, exists_eq_left', exists_eq_left, exists_and_left, List.cons.injEq, and_true, true_and, sc_ii, sc_ss, sc_bb, sc_ni, sc_in, sc_is, sc_si, sc_nn, decide_true, decide_false, reduceCtorEq, Bool.false_eq_true, if_true, if_false, ite_true, ite_false, exists_const, eq_self, false_and, and_false, or_false, false_or, exists_false, Evl.rLenS, rSum, wipe, tYes, exists_eq, exists_eq', rIxL, rIxT, rIxS, exists_and_right, gt_iff_lt, not_true_eq_false, not_false_eq_true, Bool.not_true, Bool.not_false, decide_eq_true_eq, Nat.reduceSub, Nat.reduceAdd, List.append_assoc, tChain, tDIn, tDNotIn, sDDel, tAug, ipI]
        refine forT (K := K) (a := n) (xs := ws) (Ck4 a b m n (.bl bb) H (zs.map strD) ks) rfl (k4.tp not0 (sq_t en)) ⟨_, rfl, k4, fun z hz => nomatch hz⟩ (fun l σ H5 _ h => by
          obtain ⟨_, _, k, _⟩ := h
          exact k.tp not0 (sq_t en)) ?_ ?_
        · rintro l x σ H5 hx ⟨c6, rfl, k5, hn3⟩
          rw [ew, List.getElem?_map] at hx
          obtain ⟨z, hz, rfl⟩ : ∃ z, (zs.map strD)[l]? = some z ∧ x = V.str z := by
            cases e : (zs.map strD)[l]? with
            | none => rw [e] at hx; cases hx
            | some z => rw [e] at hx; exact ⟨z, rfl, (Option.some.inj hx).symm⟩
          try simp only [tSeq, tIfS, tTest, tOp, tUn, tCB, tCons, tNil, tVar, tC, rI0, rI, rU, rEq, rNe, tRet, tRetN, tAsg, gName, gSub, tBM, tBM0, tNext, tB, tNot, tAnd, tOr, tIf, tCall, tDrop, tBreak, tCont, L2.start, tDGet, sDPut, tTup, tLst, tDNewK, tRevL, rCat, rAppend, rPop, rSetL, tAndV, tOrV, tNotV, tSl, tPart, tNoPart, tM1, gTup, gCons, gNil, cxK, cxnK, List.map_cons, List.map_nil, List.length_cons, List.length_nil, List.replicate, List.cons_append, List.nil_append, List.append_nil, List.set_cons_zero, List.set_cons_succ, List.getElem?_cons_zero, List.getElem?_cons_succ, Option.some.injEq, V.ref.injEq, V.int.injEq, V.str.injEq, V.bl.injEq, V.ty.injEq, exists_eq_left', exists_eq_left, exists_and_left, List.cons.injEq, and_true, true_and, sc_ii, sc_ss, sc_bb, sc_ni, sc_in, sc_is, sc_si, sc_nn, decide_true, decide_false, reduceCtorEq, Bool.false_eq_true, if_true, if_false, ite_true, ite_false, exists_const, eq_self, false_and, and_false, or_false, false_or, exists_false, Evl.rLenS, rSum, wipe, tYes, exists_eq, exists_eq', rIxL, rIxT, rIxS, exists_and_right, gt_iff_lt, not_true_eq_false, not_false_eq_true, Bool.not_true, Bool.not_false, decide_eq_true_eq, Nat.reduceSub, Nat.reduceAdd, List.append_assoc, tChain, tDIn, tDNotIn, sDDel, tAug, ipI]
          refine ⟨b, _, rfl, .inl (k5.ls not0 hK), rfl, flat_strs ks, _, rfl, ?_⟩
          rw [inV_str]
          by_cases hzk : z ∈ ks
          · rw [decide_eq_true hzk]
            try simp only [tSeq, tIfS, tTest, tOp, tUn, tCB, tCons, tNil, tVar, tC, rI0, rI, rU, rEq, rNe, tRet, tRetN, tAsg, gName, gSub, tBM, tBM0, tNext, tB, tNot, tAnd, tOr, tIf, tCall, tDrop, tBreak, tCont, L2.start, tDGet, sDPut, tTup, tLst, tDNewK, tRevL, rCat, rAppend, rPop, rSetL, tAndV, tOrV, tNotV, tSl, tPart, tNoPart, tM1, gTup, gCons, gNil, cxK, cxnK, List.map_cons, List.map_nil, List.length_cons, List.length_nil, List.replicate, List.cons_append, List.nil_append, List.append_nil, List.set_cons_zero, List.set_cons_succ, List.getElem?_cons_zero, List.getElem?_cons_succ, Option.some.injEq, V.ref.injEq, V.int.injEq, V.str.injEq, V.bl.injEq, V.ty.injEq, exists_eq_left', exists_eq_left, exists_and_left, List.cons.injEq, and_true, true_and, sc_ii, sc_ss, sc_bb, sc_ni, sc_in, sc_is, sc_si, sc_nn, decide_true, decide_false, reduceCtorEq, Bool.false_eq_true, if_true, if_false, ite_true, ite_false, exists_const, eq_self, false_and, and_false, or_false, false_or, exists_false, Evl.rLenS, rSum, wipe, tYes, exists_eq, exists_eq', rIxL, rIxT, rIxS, exists_and_right, gt_iff_lt, not_true_eq_false, not_false_eq_true, Bool.not_true, Bool.not_false, decide_eq_true_eq, Nat.reduceSub, Nat.reduceAdd, List.append_assoc, tChain, tDIn, tDNotIn, sDDel, tAug, ipI]
            refine ⟨_, rfl, k5, fun u hu => ?_⟩
            rw [take_snoc hz] at hu
            rcases List.mem_append.mp hu with hu | hu
            · exact hn3 u hu
            · rw [List.mem_singleton.mp hu]; exact hzk
          · rw [decide_eq_false hzk]
            try simp only [tSeq, tIfS, tTest, tOp, tUn, tCB, tCons, tNil, tVar, tC, rI0, rI, rU, rEq, rNe, tRet, tRetN, tAsg, gName, gSub, tBM, tBM0, tNext, tB, tNot, tAnd, tOr, tIf, tCall, tDrop, tBreak, tCont, L2.start, tDGet, sDPut, tTup, tLst, tDNewK, tRevL, rCat, rAppend, rPop, rSetL, tAndV, tOrV, tNotV, tSl, tPart, tNoPart, tM1, gTup, gCons, gNil, cxK, cxnK, List.map_cons, List.map_nil, List.length_cons, List.length_nil, List.replicate, List.cons_append, List.nil_append, List.append_nil, List.set_cons_zero, List.set_cons_succ, List.getElem?_cons_zero, List.getElem?_cons_succ, Option.some.injEq, V.ref.injEq, V.int.injEq, V.str.injEq, V.bl.injEq, V.ty.injEq, exists_eq_left', exists_eq_left, exists_and_left, List.cons.injEq, and_true, true_and, sc_ii, sc_ss, sc_bb, sc_ni, sc_in, sc_is, sc_si, sc_nn, decide_true, decide_false, reduceCtorEq, Bool.false_eq_true, if_true, if_false, ite_true, ite_false, exists_const, eq_self, false_and, and_false, or_false, false_or, exists_false, Evl.rLenS, rSum, wipe, tYes, exists_eq, exists_eq', rIxL, rIxT, rIxS, exists_and_right, gt_iff_lt, not_true_eq_false, not_false_eq_true, Bool.not_true, Bool.not_false, decide_eq_true_eq, Nat.reduceSub, Nat.reduceAdd, List.append_assoc, tChain, tDIn, tDNotIn, sDDel, tAug, ipI]
            refine ⟨.str z, rfl, err1_made (P := fun _ => True) True.intro fun d' H6 nd hd k6 => ?_⟩
            have el : (zs.map strD) = (zs.map strD).take l ++ z :: (zs.map strD).drop (l + 1) := by
              have hi := (List.getElem?_eq_some_iff.mp hz).1
              rw [← (List.getElem?_eq_some_iff.mp hz).2, ← List.drop_eq_getElem_cons hi, List.take_append_drop]
            refine qN z (due_nm (pre := (ds.take i).flatMap namesC ++ ((ms.take j).flatMap namesM ++ (zs.map strD).take l)) (post := ((zs.map strD).drop (l + 1) ++ (ms.drop (j + 1)).flatMap namesM) ++ (ds.drop (i + 1)).flatMap namesC) ne hgA ?_ ?_ hzk) d' H6 (k5.free0 nd) hd (k5.trans k6)
            · rw [flat_take ed, eC, flat_take em2, eM]
              conv => lhs; rw [el]
              simp only [List.append_assoc, List.cons_append]
            · intro u hu
              rcases List.mem_append.mp hu with hu | hu
              · exact hn u hu
              rcases List.mem_append.mp hu with hu | hu
              · exact hn2 u hu
              · exact hn3 u hu
        · rintro σ H5 ⟨c6, rfl, k5, hn3⟩
          refine ⟨_, _, rfl, k5, fun z hz => ?_⟩
          rw [flat_snoc em2, eM, List.mem_append] at hz
          rcases hz with hz | hz
          · exact hn2 z hz
          · refine hn3 z ?_
            rw [ew, List.length_map, List.take_length]
            exact hz
      · rintro σ H4 ⟨c5, c6, rfl, k4, hn2⟩
        refine ⟨_, _, _, _, rfl, k4, fun z hz => ?_⟩
        rw [flat_snoc ed, eC, List.mem_append] at hz
        rcases hz with hz | hz
        · exact hn z hz
        · refine hn2 z ?_
          rw [hml, List.take_length]
          exact hz
    · rintro σ H3 ⟨c3, c4, c5, c6, rfl, k3, hn⟩
      refine qO (due_ok ne hgA fun z hz => hn z ?_) _ k3
      rw [hxl, List.take_length]
      exact hz
end
end My

set_option Elab.async false
set_option linter.all false
set_option maxRecDepth 100000
set_option maxHeartbeats 4000000
namespace My
open PySem L2 NdefX
abbrev s_law_draw : Stmt := top 18
theorem sc_law_draw : FnScope ["_law_script", "_law_k", "_law_seed", "_law_rest", "_law_turn"] ["_law_script", "_law_k"] (defScope s_law_draw) := ⟨rfl, rfl, rfl, by decide +kernel, rfl, by decide +kernel, by decide +kernel⟩
abbrev s_law_name : Stmt := top 19
theorem sc_law_name : FnScope ["_law_cell", "_law_more", "_law_names", "_law_letters", "_law_text", "_law_k", "_law_place"] ["_law_cell", "_law_more", "_law_names"] (defScope s_law_name) := ⟨rfl, rfl, rfl, by decide +kernel, rfl, by decide +kernel, by decide +kernel⟩
/-- range(m), the bound being reckoned without a change -/
theorem forRg {ta : TA} {g : TG} {tb : TS} {D : Ends} {σ : L2.St} {H : Hp} (m : Int) (Pv : Nat → L2.St → Hp → Prop) (ht : ∀ R : List V → Hp → Prop, R [.int m] H → ta σ H R) (h1 : -(2 ^ 62) ≤ m) (h2 : m < 2 ^ 62) (h0 : Pv 0 σ H)
    (step : ∀ j σ H, j < m.toNat → Pv j σ H → g (.int (0 + j)) σ H fun σ2 H2 => tb { D with nx := Pv (j + 1), ct := Pv (j + 1), bk := D.nx } σ2 H2) (fin : ∀ σ H, Pv m.toNat σ H → D.nx σ H) : tFor (iRng1 ta) g tb D σ H :=
  ht _ ⟨m, rfl, h1, h2, for_range Pv h0 step fin⟩
structure BtC (mg : Str → Option Value) : Prop where
  b_len : mg "len" = none
  b_int : mg "int" = none
  b_abs : mg "abs" = none
  b_range : mg "range" = none
def spDr (K : PySem.W.Frag) : Sp := fun vs H Q _ => ∃ (a : Addr) (k : Int) (ns : List Int), vs = [.ref a, .int k] ∧ SqL K H a (ns.map V.int) ∧ ns.length ≤ 63 ∧ 0 ≤ k ∧ k ≤ 100 ∧ ∀ r : Int, 0 ≤ r → r < 1000 → Q (.int r) H
section
variable {P : Program} {w : World} {K : PySem.W.Frag} {mg : Str → Option Value} {base : Heap}
theorem ok_law_draw {f : Addr} {fd : FuncData} (D : Df K mg "_law_draw" s_law_draw ["_law_script", "_law_k"] f fd) (T : BtC mg) : FnOk P w K mg base CX0 1 f fd ["_law_script", "_law_k"] (spDr K) := by
  refine D.F.ok sc_law_draw (fun vs H Q E h => ?_) (fun cdv A outer s H vs Q E hr h => ?_)
  · obtain ⟨a, m, _, rfl, _⟩ := h
    rfl
  · obtain ⟨a, k, ns, rfl, hS, hl, k0, k1, q⟩ := h
    have hu := hu_of hr
    refine ⟨_, (pss_cons (ps_if (pt_cmpR op_eq (pe_callB (id := "len") (r := Evl.rLenS K) call_len_seq (by rfl) T.b_len PySem.boot_len (pa_cons (pv 0) pa_nil)) pe_int (nomark _)) (pss_one (ps_ret (pe_op op_mod (pe_op op_mul (pv 1) pe_int) pe_int))) pss_nil)
      (pss_cons (ps_set (i := 2) sc_law_draw.nd rfl (Or.inl rfl) (pe_callB (id := "abs") call_abs (by rfl) T.b_abs (by decide +kernel) (pa_cons (pe_callTy (T := "int") call_int1 (by rfl) T.b_int (by decide +kernel) (pa_cons (pe_ix (r := rIxL K) ix_list (pv 0) (pe_op op_mod (pv 1) (pe_callB (id := "len") (r := Evl.rLenS K) call_len_seq (by rfl) T.b_len PySem.boot_len (pa_cons (pv 0) pa_nil))) (fun _ _ => rfl)) pa_nil)) pa_nil)))
      (pss_cons (ps_if (pt_cmpR op_ge (pv 2) (pe_op op_pow pe_int pe_int) (nomark _)) (pss_cons (ps_set (i := 3) sc_law_draw.nd rfl (Or.inl rfl) (pv 2))
      (pss_cons (ps_for PassesOwn.never rfl (pi_range1 rfl T.b_range (pa_cons (pe_op op_fdiv (pv 1) (pe_callB (id := "len") (r := Evl.rLenS K) call_len_seq (by rfl) T.b_len PySem.boot_len (pa_cons (pv 0) pa_nil))) pa_nil)) (pg_name (i := 4) sc_law_draw.nd rfl (Or.inl rfl)) (pss_one (ps_set (i := 3) sc_law_draw.nd rfl (Or.inl rfl) (pe_op op_fdiv (pv 3) pe_int))))
      (pss_one (ps_if (pt_cmpR op_gt (pv 3) pe_int (nomark _)) (pss_one (ps_ret (pe_op op_mod (pv 3) pe_int))) pss_nil)))) pss_nil)
      (pss_cons (ps_set (i := 2) sc_law_draw.nd rfl (Or.inl rfl) (pe_op op_mod (pe_callTy (T := "int") call_int1 (by rfl) T.b_int (by decide +kernel) (pa_cons (pe_op op_add (pe_op op_add (pe_op op_mul (pv 2) pe_int) (pe_op op_mul (pe_op op_add (pv 1) pe_int) pe_int)) pe_int) pa_nil)) pe_int))
      (pss_cons (ps_set (i := 2) sc_law_draw.nd rfl (Or.inl rfl) (pe_op op_mod (pe_callTy (T := "int") call_int1 (by rfl) T.b_int (by decide +kernel) (pa_cons (pe_op op_add (pe_op op_add (pe_op op_mul (pv 2) (pv 2)) (pe_op op_mul pe_int (pv 2))) (pe_op op_mul pe_int (pv 1))) pa_nil)) pe_int))
      (pss_one (ps_ret (pe_op op_mod (pe_op op_fdiv (pv 2) pe_int) pe_int)))))))), ?_⟩
    try simp only [tSeq, tIfS, tTest, tOp, tUn, tCB, tCons, tNil, tVar, tC, rI0, rI, rU, rEq, rNe, tRet, tRetN, tAsg, gName, gSub, tBM, tBM0, tNext, tB, tNot, tAnd, tOr, tIf, tCall, tDrop, tBreak, tCont, L2.start, tDGet, sDPut, tTup, tLst, tDNewK, tRevL, rCat, rAppend, rPop, rSetL, tAndV, tOrV, tNotV, tSl, tPart, tNoPart, tM1, gTup, gCons, gNil, cxK, cxnK, List.map_cons, List.map_nil, List.length_cons, List.length_nil, List.replicate, List.cons_append, List.nil_append, List.append_nil, List.set_cons_zero, List.set_cons_succ, List.getElem?_cons_zero, List.getElem?_cons_succ, Option.some.injEq, V.ref.injEq, V.int.injEq, V.str.injEq, V.bl.injEq, V.ty.injEq, exists_eq_left', exists_eq_left, exists_and_left, List.cons.injEq, and_true, true_and, sc_ii, sc_ss, sc_bb, sc_ni, sc_in, sc_is, sc_si, sc_nn, decide_true, decide_false, reduceCtorEq, Bool.false_eq_true, if_true, if_false, ite_true, ite_false, exists_const, eq_self, false_and, and_false, or_false, false_or, exists_false, Evl.rLenS, rSum, wipe, tYes, exists_eq, exists_eq', rIxL, rIxT, rIxS, exists_and_right, gt_iff_lt, not_true_eq_false, not_false_eq_true, Bool.not_true, Bool.not_false, decide_eq_true_eq, Nat.reduceSub, Nat.reduceAdd, List.append_assoc, tChain, tDIn, tDNotIn, sDDel, tAug, ipI]
    refine ⟨_, .inl hS, ?_⟩
    rw [List.length_map]
    refine ite2 (fun h0 => ?_) (fun h0 => ?_)
    · exact ⟨.inr ⟨by decide, by decide⟩, by decide, q _ (Int.emod_nonneg _ (by decide)) (Int.emod_lt_of_pos _ (by decide))⟩
    · have hlen : (0 : Int) < (ns.length : Nat) := by omega
      obtain ⟨j, hj, ej⟩ : ∃ j : Nat, k % ((ns.length : Nat) : Int) = (j : Nat) ∧ j < ns.length := by
        have h1 := Int.emod_nonneg k (show ((ns.length : Nat) : Int) ≠ 0 by omega)
        have h2 := Int.emod_lt_of_pos k hlen
        exact ⟨(k % ((ns.length : Nat) : Int)).toNat, by omega, by omega⟩
      refine ⟨_, .inl hS, by rw [List.length_map]; exact hlen, _, hS, V.int (ns[j]), ?_, ?_⟩
      · rw [List.length_map, hj]
        exact atI_nat (by rw [List.getElem?_map, List.getElem?_eq_getElem ej]; rfl)
      refine .inl ⟨_, rfl, ⟨by decide, by decide, by decide⟩, ?_⟩
      generalize hv : (if ns[j] < 0 then -ns[j] else ns[j]) = v
      have v0 : 0 ≤ v := by
        rw [← hv]; split <;> omega
      have small_ : ∀ x : Int, 0 ≤ x % 2147483647 ∧ x % 2147483647 < 2147483647 := fun x => ⟨Int.emod_nonneg _ (by decide), Int.emod_lt_of_pos _ (by decide)⟩
      refine ite2 (fun hg => ?_) (fun hg => ?_)
      · have d0 : 0 ≤ k / ((ns.length : Nat) : Int) := Int.ediv_nonneg k0 (by omega)
        have d1 : k / ((ns.length : Nat) : Int) ≤ k := Int.ediv_le_self _ k0
        refine forRg (k / ((ns.length : Nat) : Int)) (fun _ σ H' => ∃ (r : Int) (c : Option V), σ = [some (.ref a), some (.int k), some (.int v), some (.int r), c] ∧ 0 ≤ r ∧ H' = H) ?_ (by omega) (by omega) ⟨v, none, rfl, v0, rfl⟩ ?_ ?_
        · intro R hR
          try simp only [tSeq, tIfS, tTest, tOp, tUn, tCB, tCons, tNil, tVar, tC, rI0, rI, rU, rEq, rNe, tRet, tRetN, tAsg, gName, gSub, tBM, tBM0, tNext, tB, tNot, tAnd, tOr, tIf, tCall, tDrop, tBreak, tCont, L2.start, tDGet, sDPut, tTup, tLst, tDNewK, tRevL, rCat, rAppend, rPop, rSetL, tAndV, tOrV, tNotV, tSl, tPart, tNoPart, tM1, gTup, gCons, gNil, cxK, cxnK, List.map_cons, List.map_nil, List.length_cons, List.length_nil, List.replicate, List.cons_append, List.nil_append, List.append_nil, List.set_cons_zero, List.set_cons_succ, List.getElem?_cons_zero, List.getElem?_cons_succ, Option.some.injEq, V.ref.injEq, V.int.injEq, V.str.injEq, V.bl.injEq, V.ty.injEq, exists_eq_left', exists_eq_left, exists_and_left, List.cons.injEq, and_true, true_and, sc_ii, sc_ss, sc_bb, sc_ni, sc_in, sc_is, sc_si, sc_nn, decide_true, decide_false, reduceCtorEq, Bool.false_eq_true, if_true, if_false, ite_true, ite_false, exists_const, eq_self, false_and, and_false, or_false, false_or, exists_false, Evl.rLenS, rSum, wipe, tYes, exists_eq, exists_eq', rIxL, rIxT, rIxS, exists_and_right, gt_iff_lt, not_true_eq_false, not_false_eq_true, Bool.not_true, Bool.not_false, decide_eq_true_eq, Nat.reduceSub, Nat.reduceAdd, List.append_assoc, tChain, tDIn, tDNotIn, sDDel, tAug, ipI]
          refine ⟨_, .inl hS, ?_⟩
          rw [List.length_map]
          exact ⟨⟨by omega, by omega⟩, hR⟩
        · rintro i σ H' hi ⟨r, c, rfl, r0, rfl⟩
          try simp only [tSeq, tIfS, tTest, tOp, tUn, tCB, tCons, tNil, tVar, tC, rI0, rI, rU, rEq, rNe, tRet, tRetN, tAsg, gName, gSub, tBM, tBM0, tNext, tB, tNot, tAnd, tOr, tIf, tCall, tDrop, tBreak, tCont, L2.start, tDGet, sDPut, tTup, tLst, tDNewK, tRevL, rCat, rAppend, rPop, rSetL, tAndV, tOrV, tNotV, tSl, tPart, tNoPart, tM1, gTup, gCons, gNil, cxK, cxnK, List.map_cons, List.map_nil, List.length_cons, List.length_nil, List.replicate, List.cons_append, List.nil_append, List.append_nil, List.set_cons_zero, List.set_cons_succ, List.getElem?_cons_zero, List.getElem?_cons_succ, Option.some.injEq, V.ref.injEq, V.int.injEq, V.str.injEq, V.bl.injEq, V.ty.injEq, exists_eq_left', exists_eq_left, exists_and_left, List.cons.injEq, and_true, true_and, sc_ii, sc_ss, sc_bb, sc_ni, sc_in, sc_is, sc_si, sc_nn, decide_true, decide_false, reduceCtorEq, Bool.false_eq_true, if_true, if_false, ite_true, ite_false, exists_const, eq_self, false_and, and_false, or_false, false_or, exists_false, Evl.rLenS, rSum, wipe, tYes, exists_eq, exists_eq', rIxL, rIxT, rIxS, exists_and_right, gt_iff_lt, not_true_eq_false, not_false_eq_true, Bool.not_true, Bool.not_false, decide_eq_true_eq, Nat.reduceSub, Nat.reduceAdd, List.append_assoc, tChain, tDIn, tDNotIn, sDDel, tAug, ipI]
          exact ⟨⟨by decide, by decide⟩, Int.ediv_nonneg r0 (by decide)⟩
        · rintro σ H' ⟨r, c, rfl, r0, rfl⟩
          try simp only [tSeq, tIfS, tTest, tOp, tUn, tCB, tCons, tNil, tVar, tC, rI0, rI, rU, rEq, rNe, tRet, tRetN, tAsg, gName, gSub, tBM, tBM0, tNext, tB, tNot, tAnd, tOr, tIf, tCall, tDrop, tBreak, tCont, L2.start, tDGet, sDPut, tTup, tLst, tDNewK, tRevL, rCat, rAppend, rPop, rSetL, tAndV, tOrV, tNotV, tSl, tPart, tNoPart, tM1, gTup, gCons, gNil, cxK, cxnK, List.map_cons, List.map_nil, List.length_cons, List.length_nil, List.replicate, List.cons_append, List.nil_append, List.append_nil, List.set_cons_zero, List.set_cons_succ, List.getElem?_cons_zero, List.getElem?_cons_succ, Option.some.injEq, V.ref.injEq, V.int.injEq, V.str.injEq, V.bl.injEq, V.ty.injEq, exists_eq_left', exists_eq_left, exists_and_left, List.cons.injEq, and_true, true_and, sc_ii, sc_ss, sc_bb, sc_ni, sc_in, sc_is, sc_si, sc_nn, decide_true, decide_false, reduceCtorEq, Bool.false_eq_true, if_true, if_false, ite_true, ite_false, exists_const, eq_self, false_and, and_false, or_false, false_or, exists_false, Evl.rLenS, rSum, wipe, tYes, exists_eq, exists_eq', rIxL, rIxT, rIxS, exists_and_right, gt_iff_lt, not_true_eq_false, not_false_eq_true, Bool.not_true, Bool.not_false, decide_eq_true_eq, Nat.reduceSub, Nat.reduceAdd, List.append_assoc, tChain, tDIn, tDNotIn, sDDel, tAug, ipI]
          refine ite2 (fun hr0 => ?_) (fun hr0 => ?_)
          · exact ⟨by decide, q _ (Int.emod_nonneg _ (by decide)) (Int.emod_lt_of_pos _ (by decide))⟩
          · refine ⟨.inr ⟨by decide, by decide⟩, .inr ⟨by decide, by decide⟩, by decide, ?_⟩
            generalize hx : (v * 48271 + (k + 1) * 69621 + 11) % 2147483647 = x
            have hx2 := small_ (v * 48271 + (k + 1) * 69621 + 11)
            rw [hx] at hx2
            exact ⟨.inr ⟨by omega, by omega⟩, .inl ⟨by decide, by decide⟩, .inl ⟨by decide, by decide⟩, by decide, ⟨by decide, by decide⟩, by decide, q _ (Int.emod_nonneg _ (by decide)) (Int.emod_lt_of_pos _ (by decide))⟩
      · refine ⟨.inr ⟨by decide, by decide⟩, .inr ⟨by decide, by decide⟩, by decide, ?_⟩
        generalize hx : (v * 48271 + (k + 1) * 69621 + 11) % 2147483647 = x
        have hx2 := small_ (v * 48271 + (k + 1) * 69621 + 11)
        rw [hx] at hx2
        exact ⟨.inr ⟨by omega, by omega⟩, .inl ⟨by decide, by decide⟩, .inl ⟨by decide, by decide⟩, by decide, ⟨by decide, by decide⟩, by decide, q _ (Int.emod_nonneg _ (by decide)) (Int.emod_lt_of_pos _ (by decide))⟩
/-! ### a name that isn't there yet -/
/-- letters from a to z alone -/
def Low (z : Str) : Prop := ∀ c ∈ z.cps.toList, 97 ≤ c ∧ c ≤ 122
theorem lets_at : ∀ i : Nat, i < 26 → lets.cps.toList[i]? = some (97 + i) := by decide +kernel
theorem low1 {c : Nat} (h : 97 ≤ c ∧ c ≤ 122) : Low ⟨#[c]⟩ := fun d hd => by
  have e : d = c := by simpa using hd
  rw [e]; exact h
theorem low_app {x y : Str} (hx : Low x) (hy : Low y) : Low (x ++ y) := fun c hc => by
  have e : (x ++ y).cps.toList = x.cps.toList ++ y.cps.toList := Array.toList_append
  rw [e] at hc
  rcases List.mem_append.mp hc with h | h
  · exact hx c h
  · exact hy c h
theorem nameS_of {z : Str} (h : Low z) (h1 : 1 ≤ z.length) (h8 : z.length ≤ 8) : nameS z = true := by
  unfold nameS
  rw [decide_eq_true h1, decide_eq_true h8, Bool.true_and, Bool.true_and, List.all_eq_true]
  intro c hc
  unfold lowC
  rw [decide_eq_true (h c hc).1, decide_eq_true (h c hc).2]; rfl
/-- the letter with the number n -/
def letN (n : Nat) : Str := ⟨#[97 + n % 26]⟩
theorem letN_name (n : Nat) : nameS (letN n) = true := nameS_of (low1 (by omega)) (by show 1 ≤ 1; decide) (by show 1 ≤ 8; decide)
theorem nine {zs : List Str} {n : Nat} (h : ∀ i, i < 9 → letN (n + i) ∈ zs) : 9 ≤ zs.length := by
  have nd : ((List.range 9).map fun i => letN (n + i)).Nodup := by
    unfold List.Nodup
    rw [List.pairwise_map]
    refine List.Pairwise.imp_of_mem ?_ List.pairwise_lt_range
    intro a b ha hb hab e
    have ha' := List.mem_range.mp ha
    have hb' := List.mem_range.mp hb
    have e1 : (#[97 + (n + a) % 26] : Array Nat) = #[97 + (n + b) % 26] := congrArg Str.cps e
    have e2 : 97 + (n + a) % 26 = 97 + (n + b) % 26 := by simpa using e1
    omega
  have le := List.Nodup.length_le_of_subset nd (l₂ := zs) fun x hx => by
    obtain ⟨i, hi, rfl⟩ := List.mem_map.mp hx
    exact h i (List.mem_range.mp hi)
  rw [List.length_map, List.length_range] at le
  exact le
def spNm (K : PySem.W.Frag) : Sp := fun vs H Q _ => ∃ (cell more : Int) (b : Addr) (zs : List Str), vs = [.int cell, .int more, .ref b] ∧ 0 ≤ cell ∧ cell < 1000 ∧ 0 ≤ more ∧ more < 1000 ∧ SqL K H b (zs.map V.str) ∧ zs.length ≤ 7 ∧ ∀ z : Str, nameS z = true → z ∉ zs → Q (.str z) H
theorem ok_law_name {f : Addr} {fd : FuncData} (D : Df K mg "_law_name" s_law_name ["_law_cell", "_law_more", "_law_names"] f fd) (T : BtC mg) : FnOk P w K mg base CX0 1 f fd ["_law_cell", "_law_more", "_law_names"] (spNm K) := by
  refine D.F.ok sc_law_name (fun vs H Q E h => ?_) (fun cdv A outer s H vs Q E hr h => ?_)
  · obtain ⟨_, _, _, _, rfl, _⟩ := h
    rfl
  · obtain ⟨cell, more, b, zs, rfl, c0, c1, m0, m1, hS, hl, q⟩ := h
    have hu := hu_of hr
    refine ⟨_, (pss_cons (ps_set (i := 3) sc_law_name.nd rfl (Or.inl rfl) pe_str)
      (pss_cons (ps_set (i := 4) sc_law_name.nd rfl (Or.inl rfl) pe_str)
      (pss_cons (ps_for PassesOwn.never rfl (pi_range1 rfl T.b_range (pa_cons (pe_op op_add pe_int (pe_op op_mod (pv 0) pe_int)) pa_nil)) (pg_name (i := 5) sc_law_name.nd rfl (Or.inl rfl)) (pss_cons (ps_set (i := 6) sc_law_name.nd rfl (Or.inl rfl) (pe_op op_add (pe_op op_add (pe_op op_fdiv (pv 0) pe_int) (pe_op op_mul (pv 5) (pe_op op_mod (pv 1) pe_int))) (pe_op op_mul (pe_op op_mul (pv 5) (pv 5)) (pe_op op_fdiv (pv 1) pe_int))))
      (pss_one (ps_set (i := 4) sc_law_name.nd rfl (Or.inl rfl) (pe_op op_add_str (pv 4) (pe_ix ix_str (pv 3) (pe_op op_mod (pv 6) pe_int) (fun _ _ => rfl)))))))
      (pss_cons (ps_for PassesOwn.never rfl (pi_range1 rfl T.b_range (pa_cons pe_int pa_nil)) (pg_name (i := 5) sc_law_name.nd rfl (Or.inl rfl)) (pss_one (ps_if (pt_cmpR op_in_seq (pv 4) (pv 2) (by rfl)) (pss_one (ps_set (i := 4) sc_law_name.nd rfl (Or.inl rfl) (pe_ix ix_str (pv 3) (pe_op op_mod (pe_op op_add (pv 0) (pv 5)) pe_int) (fun _ _ => rfl)))) pss_nil)))
      (pss_one (ps_ret (pv 4))))))), ?_⟩
    try simp only [tSeq, tIfS, tTest, tOp, tUn, tCB, tCons, tNil, tVar, tC, rI0, rI, rU, rEq, rNe, tRet, tRetN, tAsg, gName, gSub, tBM, tBM0, tNext, tB, tNot, tAnd, tOr, tIf, tCall, tDrop, tBreak, tCont, L2.start, tDGet, sDPut, tTup, tLst, tDNewK, tRevL, rCat, rAppend, rPop, rSetL, tAndV, tOrV, tNotV, tSl, tPart, tNoPart, tM1, gTup, gCons, gNil, cxK, cxnK, List.map_cons, List.map_nil, List.length_cons, List.length_nil, List.replicate, List.cons_append, List.nil_append, List.append_nil, List.set_cons_zero, List.set_cons_succ, List.getElem?_cons_zero, List.getElem?_cons_succ, Option.some.injEq, V.ref.injEq, V.int.injEq, V.str.injEq, V.bl.injEq, V.ty.injEq, exists_eq_left', exists_eq_left, exists_and_left, List.cons.injEq, and_true, true_and, sc_ii, sc_ss, sc_bb, sc_ni, sc_in, sc_is, sc_si, sc_nn, decide_true, decide_false, reduceCtorEq, Bool.false_eq_true, if_true, if_false, ite_true, ite_false, exists_const, eq_self, false_and, and_false, or_false, false_or, exists_false, Evl.rLenS, rSum, wipe, tYes, exists_eq, exists_eq', rIxL, rIxT, rIxS, exists_and_right, gt_iff_lt, not_true_eq_false, not_false_eq_true, Bool.not_true, Bool.not_false, decide_eq_true_eq, Nat.reduceSub, Nat.reduceAdd, List.append_assoc, tChain, tDIn, tDNotIn, sDDel, tAug, ipI]
    refine forRg (1 + cell % 8) (fun j σ H' => ∃ (t : Str) (c5 c6 : Option V), σ = [some (.int cell), some (.int more), some (.ref b), some (.str lets), some (.str t), c5, c6] ∧ Low t ∧ t.length = j ∧ H' = H) ?_ (by omega) (by omega) ⟨Str.empty, none, none, rfl, (fun c hc => nomatch hc), rfl, rfl⟩ ?_ ?_
    · intro R hR
      try simp only [tSeq, tIfS, tTest, tOp, tUn, tCB, tCons, tNil, tVar, tC, rI0, rI, rU, rEq, rNe, tRet, tRetN, tAsg, gName, gSub, tBM, tBM0, tNext, tB, tNot, tAnd, tOr, tIf, tCall, tDrop, tBreak, tCont, L2.start, tDGet, sDPut, tTup, tLst, tDNewK, tRevL, rCat, rAppend, rPop, rSetL, tAndV, tOrV, tNotV, tSl, tPart, tNoPart, tM1, gTup, gCons, gNil, cxK, cxnK, List.map_cons, List.map_nil, List.length_cons, List.length_nil, List.replicate, List.cons_append, List.nil_append, List.append_nil, List.set_cons_zero, List.set_cons_succ, List.getElem?_cons_zero, List.getElem?_cons_succ, Option.some.injEq, V.ref.injEq, V.int.injEq, V.str.injEq, V.bl.injEq, V.ty.injEq, exists_eq_left', exists_eq_left, exists_and_left, List.cons.injEq, and_true, true_and, sc_ii, sc_ss, sc_bb, sc_ni, sc_in, sc_is, sc_si, sc_nn, decide_true, decide_false, reduceCtorEq, Bool.false_eq_true, if_true, if_false, ite_true, ite_false, exists_const, eq_self, false_and, and_false, or_false, false_or, exists_false, Evl.rLenS, rSum, wipe, tYes, exists_eq, exists_eq', rIxL, rIxT, rIxS, exists_and_right, gt_iff_lt, not_true_eq_false, not_false_eq_true, Bool.not_true, Bool.not_false, decide_eq_true_eq, Nat.reduceSub, Nat.reduceAdd, List.append_assoc, tChain, tDIn, tDNotIn, sDDel, tAug, ipI]
      exact ⟨by decide, hR⟩
    · rintro j σ H' hj ⟨t, c5, c6, rfl, lo, tl, rfl⟩
      try simp only [tSeq, tIfS, tTest, tOp, tUn, tCB, tCons, tNil, tVar, tC, rI0, rI, rU, rEq, rNe, tRet, tRetN, tAsg, gName, gSub, tBM, tBM0, tNext, tB, tNot, tAnd, tOr, tIf, tCall, tDrop, tBreak, tCont, L2.start, tDGet, sDPut, tTup, tLst, tDNewK, tRevL, rCat, rAppend, rPop, rSetL, tAndV, tOrV, tNotV, tSl, tPart, tNoPart, tM1, gTup, gCons, gNil, cxK, cxnK, List.map_cons, List.map_nil, List.length_cons, List.length_nil, List.replicate, List.cons_append, List.nil_append, List.append_nil, List.set_cons_zero, List.set_cons_succ, List.getElem?_cons_zero, List.getElem?_cons_succ, Option.some.injEq, V.ref.injEq, V.int.injEq, V.str.injEq, V.bl.injEq, V.ty.injEq, exists_eq_left', exists_eq_left, exists_and_left, List.cons.injEq, and_true, true_and, sc_ii, sc_ss, sc_bb, sc_ni, sc_in, sc_is, sc_si, sc_nn, decide_true, decide_false, reduceCtorEq, Bool.false_eq_true, if_true, if_false, ite_true, ite_false, exists_const, eq_self, false_and, and_false, or_false, false_or, exists_false, Evl.rLenS, rSum, wipe, tYes, exists_eq, exists_eq', rIxL, rIxT, rIxS, exists_and_right, gt_iff_lt, not_true_eq_false, not_false_eq_true, Bool.not_true, Bool.not_false, decide_eq_true_eq, Nat.reduceSub, Nat.reduceAdd, List.append_assoc, tChain, tDIn, tDNotIn, sDDel, tAug, ipI]
      have g0 : (0 : Int) ≤ more % 26 := Int.emod_nonneg _ (by decide)
      have g1 : more % 26 < 26 := Int.emod_lt_of_pos _ (by decide)
      have p0 : 0 ≤ cell / 8 + (0 + (j : Int)) * (more % 26) + (0 + (j : Int)) * (0 + (j : Int)) * (more / 26) := by
        have a1 : 0 ≤ (0 + (j : Int)) * (more % 26) := Int.mul_nonneg (by omega) g0
        have a2 : 0 ≤ (0 + (j : Int)) * (0 + (j : Int)) * (more / 26) := Int.mul_nonneg (Int.mul_nonneg (by omega) (by omega)) (by omega)
        omega
      generalize cell / 8 + (0 + (j : Int)) * (more % 26) + (0 + (j : Int)) * (0 + (j : Int)) * (more / 26) = pl at p0 ⊢
      have b0 : 0 ≤ pl % 26 := Int.emod_nonneg _ (by decide)
      have b1 : pl % 26 < 26 := Int.emod_lt_of_pos _ (by decide)
      have hj8 : j < 8 := by omega
      refine ⟨⟨by decide, by decide⟩, by decide, .inl ⟨by omega, by omega⟩, .inl ⟨by omega, by omega⟩, ⟨by decide, by decide⟩, .inr ⟨by omega, by omega⟩, by decide, by decide +kernel, 97 + (pl % 26).toNat, atI_of b0 (lets_at _ (by omega)), ?_, low_app lo (low1 (by omega)), ?_⟩
      · show t.length + 1 ≤ sizeLine
        exact small (by omega)
      · rw [len_app, tl]; rfl
    · rintro σ H' ⟨t, c5, c6, rfl, lo, tl, rfl⟩
      try simp only [tSeq, tIfS, tTest, tOp, tUn, tCB, tCons, tNil, tVar, tC, rI0, rI, rU, rEq, rNe, tRet, tRetN, tAsg, gName, gSub, tBM, tBM0, tNext, tB, tNot, tAnd, tOr, tIf, tCall, tDrop, tBreak, tCont, L2.start, tDGet, sDPut, tTup, tLst, tDNewK, tRevL, rCat, rAppend, rPop, rSetL, tAndV, tOrV, tNotV, tSl, tPart, tNoPart, tM1, gTup, gCons, gNil, cxK, cxnK, List.map_cons, List.map_nil, List.length_cons, List.length_nil, List.replicate, List.cons_append, List.nil_append, List.append_nil, List.set_cons_zero, List.set_cons_succ, List.getElem?_cons_zero, List.getElem?_cons_succ, Option.some.injEq, V.ref.injEq, V.int.injEq, V.str.injEq, V.bl.injEq, V.ty.injEq, exists_eq_left', exists_eq_left, exists_and_left, List.cons.injEq, and_true, true_and, sc_ii, sc_ss, sc_bb, sc_ni, sc_in, sc_is, sc_si, sc_nn, decide_true, decide_false, reduceCtorEq, Bool.false_eq_true, if_true, if_false, ite_true, ite_false, exists_const, eq_self, false_and, and_false, or_false, false_or, exists_false, Evl.rLenS, rSum, wipe, tYes, exists_eq, exists_eq', rIxL, rIxT, rIxS, exists_and_right, gt_iff_lt, not_true_eq_false, not_false_eq_true, Bool.not_true, Bool.not_false, decide_eq_true_eq, Nat.reduceSub, Nat.reduceAdd, List.append_assoc, tChain, tDIn, tDNotIn, sDDel, tAug, ipI]
      refine forRg 10 (fun j σ H2 => ∃ (t : Str) (c5 c6 : Option V), σ = [some (.int cell), some (.int more), some (.ref b), some (.str lets), some (.str t), c5, c6] ∧ nameS t = true ∧ (t ∈ zs → ∀ i, i + 1 < j → letN (cell.toNat + i) ∈ zs) ∧ (0 < j → t ∈ zs → t = letN (cell.toNat + (j - 1))) ∧ H2 = H') ?_ (by decide) (by decide) ⟨t, c5, c6, rfl, nameS_of lo (by omega) (by omega), (fun _ i hi => absurd hi (by omega)), (fun h => absurd h (Nat.lt_irrefl 0)), rfl⟩ ?_ ?_
      · intro R hR
        try simp only [tSeq, tIfS, tTest, tOp, tUn, tCB, tCons, tNil, tVar, tC, rI0, rI, rU, rEq, rNe, tRet, tRetN, tAsg, gName, gSub, tBM, tBM0, tNext, tB, tNot, tAnd, tOr, tIf, tCall, tDrop, tBreak, tCont, L2.start, tDGet, sDPut, tTup, tLst, tDNewK, tRevL, rCat, rAppend, rPop, rSetL, tAndV, tOrV, tNotV, tSl, tPart, tNoPart, tM1, gTup, gCons, gNil, cxK, cxnK, List.map_cons, List.map_nil, List.length_cons, List.length_nil, List.replicate, List.cons_append, List.nil_append, List.append_nil, List.set_cons_zero, List.set_cons_succ, List.getElem?_cons_zero, List.getElem?_cons_succ, Option.some.injEq, V.ref.injEq, V.int.injEq, V.str.injEq, V.bl.injEq, V.ty.injEq, exists_eq_left', exists_eq_left, exists_and_left, List.cons.injEq, and_true, true_and, sc_ii, sc_ss, sc_bb, sc_ni, sc_in, sc_is, sc_si, sc_nn, decide_true, decide_false, reduceCtorEq, Bool.false_eq_true, if_true, if_false, ite_true, ite_false, exists_const, eq_self, false_and, and_false, or_false, false_or, exists_false, Evl.rLenS, rSum, wipe, tYes, exists_eq, exists_eq', rIxL, rIxT, rIxS, exists_and_right, gt_iff_lt, not_true_eq_false, not_false_eq_true, Bool.not_true, Bool.not_false, decide_eq_true_eq, Nat.reduceSub, Nat.reduceAdd, List.append_assoc, tChain, tDIn, tDNotIn, sDDel, tAug, ipI]
        exact hR
      · rintro j σ H' hj ⟨t, c5, c6, rfl, nt, ha, hb, rfl⟩
        try simp only [tSeq, tIfS, tTest, tOp, tUn, tCB, tCons, tNil, tVar, tC, rI0, rI, rU, rEq, rNe, tRet, tRetN, tAsg, gName, gSub, tBM, tBM0, tNext, tB, tNot, tAnd, tOr, tIf, tCall, tDrop, tBreak, tCont, L2.start, tDGet, sDPut, tTup, tLst, tDNewK, tRevL, rCat, rAppend, rPop, rSetL, tAndV, tOrV, tNotV, tSl, tPart, tNoPart, tM1, gTup, gCons, gNil, cxK, cxnK, List.map_cons, List.map_nil, List.length_cons, List.length_nil, List.replicate, List.cons_append, List.nil_append, List.append_nil, List.set_cons_zero, List.set_cons_succ, List.getElem?_cons_zero, List.getElem?_cons_succ, Option.some.injEq, V.ref.injEq, V.int.injEq, V.str.injEq, V.bl.injEq, V.ty.injEq, exists_eq_left', exists_eq_left, exists_and_left, List.cons.injEq, and_true, true_and, sc_ii, sc_ss, sc_bb, sc_ni, sc_in, sc_is, sc_si, sc_nn, decide_true, decide_false, reduceCtorEq, Bool.false_eq_true, if_true, if_false, ite_true, ite_false, exists_const, eq_self, false_and, and_false, or_false, false_or, exists_false, Evl.rLenS, rSum, wipe, tYes, exists_eq, exists_eq', rIxL, rIxT, rIxS, exists_and_right, gt_iff_lt, not_true_eq_false, not_false_eq_true, Bool.not_true, Bool.not_false, decide_eq_true_eq, Nat.reduceSub, Nat.reduceAdd, List.append_assoc, tChain, tDIn, tDNotIn, sDDel, tAug, ipI]
        refine ⟨b, _, rfl, .inl hS, rfl, flat_strs zs, _, rfl, ?_⟩
        rw [inV_str]
        by_cases hm : t ∈ zs
        · rw [decide_eq_true hm]
          try simp only [tSeq, tIfS, tTest, tOp, tUn, tCB, tCons, tNil, tVar, tC, rI0, rI, rU, rEq, rNe, tRet, tRetN, tAsg, gName, gSub, tBM, tBM0, tNext, tB, tNot, tAnd, tOr, tIf, tCall, tDrop, tBreak, tCont, L2.start, tDGet, sDPut, tTup, tLst, tDNewK, tRevL, rCat, rAppend, rPop, rSetL, tAndV, tOrV, tNotV, tSl, tPart, tNoPart, tM1, gTup, gCons, gNil, cxK, cxnK, List.map_cons, List.map_nil, List.length_cons, List.length_nil, List.replicate, List.cons_append, List.nil_append, List.append_nil, List.set_cons_zero, List.set_cons_succ, List.getElem?_cons_zero, List.getElem?_cons_succ, Option.some.injEq, V.ref.injEq, V.int.injEq, V.str.injEq, V.bl.injEq, V.ty.injEq, exists_eq_left', exists_eq_left, exists_and_left, List.cons.injEq, and_true, true_and, sc_ii, sc_ss, sc_bb, sc_ni, sc_in, sc_is, sc_si, sc_nn, decide_true, decide_false, reduceCtorEq, Bool.false_eq_true, if_true, if_false, ite_true, ite_false, exists_const, eq_self, false_and, and_false, or_false, false_or, exists_false, Evl.rLenS, rSum, wipe, tYes, exists_eq, exists_eq', rIxL, rIxT, rIxS, exists_and_right, gt_iff_lt, not_true_eq_false, not_false_eq_true, Bool.not_true, Bool.not_false, decide_eq_true_eq, Nat.reduceSub, Nat.reduceAdd, List.append_assoc, tChain, tDIn, tDNotIn, sDDel, tAug, ipI]
          have en : (cell + (0 + (j : Int))) % 26 = (((cell.toNat + j) % 26 : Nat) : Int) := by omega
          refine ⟨by decide, by decide +kernel, 97 + (cell.toNat + j) % 26, ?_, letN_name (cell.toNat + j), fun _ i hi => ?_, fun _ _ => rfl⟩
          · rw [en]
            exact atI_nat (lets_at _ (Nat.mod_lt _ (by decide)))
          · by_cases h2 : i + 1 < j
            · exact ha hm i h2
            · have e1 : j - 1 = i := by omega
              have e2 := hb (by omega) hm
              rw [e1] at e2
              rw [← e2]; exact hm
        · rw [decide_eq_false hm]
          try simp only [tSeq, tIfS, tTest, tOp, tUn, tCB, tCons, tNil, tVar, tC, rI0, rI, rU, rEq, rNe, tRet, tRetN, tAsg, gName, gSub, tBM, tBM0, tNext, tB, tNot, tAnd, tOr, tIf, tCall, tDrop, tBreak, tCont, L2.start, tDGet, sDPut, tTup, tLst, tDNewK, tRevL, rCat, rAppend, rPop, rSetL, tAndV, tOrV, tNotV, tSl, tPart, tNoPart, tM1, gTup, gCons, gNil, cxK, cxnK, List.map_cons, List.map_nil, List.length_cons, List.length_nil, List.replicate, List.cons_append, List.nil_append, List.append_nil, List.set_cons_zero, List.set_cons_succ, List.getElem?_cons_zero, List.getElem?_cons_succ, Option.some.injEq, V.ref.injEq, V.int.injEq, V.str.injEq, V.bl.injEq, V.ty.injEq, exists_eq_left', exists_eq_left, exists_and_left, List.cons.injEq, and_true, true_and, sc_ii, sc_ss, sc_bb, sc_ni, sc_in, sc_is, sc_si, sc_nn, decide_true, decide_false, reduceCtorEq, Bool.false_eq_true, if_true, if_false, ite_true, ite_false, exists_const, eq_self, false_and, and_false, or_false, false_or, exists_false, Evl.rLenS, rSum, wipe, tYes, exists_eq, exists_eq', rIxL, rIxT, rIxS, exists_and_right, gt_iff_lt, not_true_eq_false, not_false_eq_true, Bool.not_true, Bool.not_false, decide_eq_true_eq, Nat.reduceSub, Nat.reduceAdd, List.append_assoc, tChain, tDIn, tDNotIn, sDDel, tAug, ipI]
          exact ⟨nt, (fun z => absurd z hm), (fun _ z => absurd z hm)⟩
      · rintro σ H' ⟨t, c5, c6, rfl, nt, ha, hb, rfl⟩
        try simp only [tSeq, tIfS, tTest, tOp, tUn, tCB, tCons, tNil, tVar, tC, rI0, rI, rU, rEq, rNe, tRet, tRetN, tAsg, gName, gSub, tBM, tBM0, tNext, tB, tNot, tAnd, tOr, tIf, tCall, tDrop, tBreak, tCont, L2.start, tDGet, sDPut, tTup, tLst, tDNewK, tRevL, rCat, rAppend, rPop, rSetL, tAndV, tOrV, tNotV, tSl, tPart, tNoPart, tM1, gTup, gCons, gNil, cxK, cxnK, List.map_cons, List.map_nil, List.length_cons, List.length_nil, List.replicate, List.cons_append, List.nil_append, List.append_nil, List.set_cons_zero, List.set_cons_succ, List.getElem?_cons_zero, List.getElem?_cons_succ, Option.some.injEq, V.ref.injEq, V.int.injEq, V.str.injEq, V.bl.injEq, V.ty.injEq, exists_eq_left', exists_eq_left, exists_and_left, List.cons.injEq, and_true, true_and, sc_ii, sc_ss, sc_bb, sc_ni, sc_in, sc_is, sc_si, sc_nn, decide_true, decide_false, reduceCtorEq, Bool.false_eq_true, if_true, if_false, ite_true, ite_false, exists_const, eq_self, false_and, and_false, or_false, false_or, exists_false, Evl.rLenS, rSum, wipe, tYes, exists_eq, exists_eq', rIxL, rIxT, rIxS, exists_and_right, gt_iff_lt, not_true_eq_false, not_false_eq_true, Bool.not_true, Bool.not_false, decide_eq_true_eq, Nat.reduceSub, Nat.reduceAdd, List.append_assoc, tChain, tDIn, tDNotIn, sDDel, tAug, ipI]
        refine q t nt fun hm => ?_
        have := nine (n := cell.toNat) fun i hi => ha hm i (by show i + 1 < 10; omega)
        omega
end
end My

set_option Elab.async false
set_option linter.all false
set_option maxRecDepth 100000
set_option maxHeartbeats 4000000
namespace My
open PySem L2 NdefX
abbrev s_law_once : Stmt := top 20
theorem sc_law_once : FnScope ["_law_row"] ["_law_row"] (defScope s_law_once) := ⟨rfl, rfl, rfl, by decide +kernel, rfl, by decide +kernel, by decide +kernel⟩
abbrev s_law_always : Stmt := top 21
theorem sc_law_always : FnScope ["_law_row"] ["_law_row"] (defScope s_law_always) := ⟨rfl, rfl, rfl, by decide +kernel, rfl, by decide +kernel, by decide +kernel⟩
def spOn (K : PySem.W.Frag) : Sp := fun vs H Q _ => ∃ (a : Addr) (xs : List Str), vs = [.ref a] ∧ SqL K H a (xs.map V.str) ∧ xs.length ≤ 7 ∧
  ∀ (p m : Addr) (us : List V) (H' : Hp), H' p = some (.tup [.ref m, .bl false]) → H' m = some (.tup us) → Singles K H' us xs → Kp [] H H' → Q (.ref p) H'
def spAl (K : PySem.W.Frag) : Sp := fun vs H Q _ => ∃ (a : Addr) (xs : List Str), vs = [.ref a] ∧ SqL K H a (xs.map V.str) ∧ xs.length ≤ 7 ∧
  ∀ (p m t : Addr) (H' : Hp), H' p = some (.tup [.ref m, .bl true]) → H' m = some (.tup [.ref t]) → H' t = some (.tup (xs.map V.str)) → Kp [] H H' → Q (.ref p) H'
section
variable {P : Program} {w : World} {K : PySem.W.Frag} {mg : Str → Option Value} {base : Heap}
theorem on_end {xs : List Str} {H : Hp} {Q : VK} {E : XK} (hl : xs.length ≤ 7) (q : ∀ (p m : Addr) (us : List V) (H' : Hp), H' p = some (.tup [.ref m, .bl false]) → H' m = some (.tup us) → Singles K H' us xs → Kp [] H H' → Q (.ref p) H') :
    ∃ ws rest, xs.map V.str = ws ++ rest ∧ ws.length = ([] : List Str).length ∧ rest.length ≤ sizeLine ∧ ∀ p, H p = Option.none → spOnce K (ws ++ [V.ref p]) (upd H p (.tup rest)) Q E :=
  ⟨[], xs.map V.str, rfl, rfl, by rw [List.length_map]; exact small (by omega), fun p np => ⟨p, xs, rfl, sq_t upd_same, by omega, fun p' m us H' _ h1 h2 h3 k => q p' m us H' h1 h2 h3 ((Kp.new np).trans k)⟩⟩
theorem al_end {xs : List Str} {H : Hp} {Q : VK} {E : XK} (hl : xs.length ≤ 7) (q : ∀ (p m t : Addr) (H' : Hp), H' p = some (.tup [.ref m, .bl true]) → H' m = some (.tup [.ref t]) → H' t = some (.tup (xs.map V.str)) → Kp [] H H' → Q (.ref p) H') :
    ∃ ws rest, xs.map V.str = ws ++ rest ∧ ws.length = ([] : List Str).length ∧ rest.length ≤ sizeLine ∧ ∀ p, H p = Option.none → spAlways K (ws ++ [V.ref p]) (upd H p (.tup rest)) Q E :=
  ⟨[], xs.map V.str, rfl, rfl, by rw [List.length_map]; exact small (by omega), fun p np => ⟨p, xs, rfl, sq_t upd_same, by omega, fun p' m H' _ h1 h2 k => q p' m p H' h1 h2 (k _ _ not0 upd_same) ((Kp.new np).trans k)⟩⟩
theorem ok_law_once {f : Addr} {fd : FuncData} (D : Df K mg "_law_once" s_law_once ["_law_row"] f fd) (T : BtC mg) {fo : Addr} (g_once : mg "once" = some (.ref fo)) (kp_once : PySem.W.keepIn K (.ref fo) = true)
    (G_once : FnR P w K mg base CX0 1 fo (fun vs H Q E => ∃ ws rest, vs = ws ++ rest ∧ ws.length = ([] : List Str).length ∧ rest.length ≤ sizeLine ∧ ∀ p, H p = Option.none → spOnce K (ws ++ [V.ref p]) (upd H p (.tup rest)) Q E)) :
    FnOk P w K mg base CX0 2 f fd ["_law_row"] (spOn K) := by
  refine D.F.ok sc_law_once (fun vs H Q E h => ?_) (fun cdv A outer s H vs Q E hr h => ?_)
  · obtain ⟨_, _, rfl, _⟩ := h
    rfl
  · obtain ⟨a, xs, rfl, hS, hl, q⟩ := h
    refine ⟨_, (pss_cons (ps_if (pt_cmpR op_eq (pe_callB (id := "len") (r := Evl.rLenS K) call_len_seq (by rfl) T.b_len PySem.boot_len (pa_cons (pv 0) pa_nil)) pe_int (nomark _)) (pss_one (ps_ret (pe_callN0 G_once (hr.mono (by decide)) rfl g_once kp_once pass0))) pss_nil)
      (pss_cons (ps_if (pt_cmpR op_eq (pe_callB (id := "len") (r := Evl.rLenS K) call_len_seq (by rfl) T.b_len PySem.boot_len (pa_cons (pv 0) pa_nil)) pe_int (nomark _)) (pss_one (ps_ret (pe_callN G_once (hr.mono (by decide)) rfl g_once kp_once pass0 (pa_cons (pe_ix (r := rIxL K) ix_list (pv 0) pe_int (fun _ _ => rfl)) pa_nil)))) pss_nil)
      (pss_cons (ps_if (pt_cmpR op_eq (pe_callB (id := "len") (r := Evl.rLenS K) call_len_seq (by rfl) T.b_len PySem.boot_len (pa_cons (pv 0) pa_nil)) pe_int (nomark _)) (pss_one (ps_ret (pe_callN G_once (hr.mono (by decide)) rfl g_once kp_once pass0 (pa_cons (pe_ix (r := rIxL K) ix_list (pv 0) pe_int (fun _ _ => rfl)) (pa_cons (pe_ix (r := rIxL K) ix_list (pv 0) pe_int (fun _ _ => rfl)) pa_nil))))) pss_nil)
      (pss_cons (ps_if (pt_cmpR op_eq (pe_callB (id := "len") (r := Evl.rLenS K) call_len_seq (by rfl) T.b_len PySem.boot_len (pa_cons (pv 0) pa_nil)) pe_int (nomark _)) (pss_one (ps_ret (pe_callN G_once (hr.mono (by decide)) rfl g_once kp_once pass0 (pa_cons (pe_ix (r := rIxL K) ix_list (pv 0) pe_int (fun _ _ => rfl)) (pa_cons (pe_ix (r := rIxL K) ix_list (pv 0) pe_int (fun _ _ => rfl)) (pa_cons (pe_ix (r := rIxL K) ix_list (pv 0) pe_int (fun _ _ => rfl)) pa_nil)))))) pss_nil)
      (pss_cons (ps_if (pt_cmpR op_eq (pe_callB (id := "len") (r := Evl.rLenS K) call_len_seq (by rfl) T.b_len PySem.boot_len (pa_cons (pv 0) pa_nil)) pe_int (nomark _)) (pss_one (ps_ret (pe_callN G_once (hr.mono (by decide)) rfl g_once kp_once pass0 (pa_cons (pe_ix (r := rIxL K) ix_list (pv 0) pe_int (fun _ _ => rfl)) (pa_cons (pe_ix (r := rIxL K) ix_list (pv 0) pe_int (fun _ _ => rfl)) (pa_cons (pe_ix (r := rIxL K) ix_list (pv 0) pe_int (fun _ _ => rfl)) (pa_cons (pe_ix (r := rIxL K) ix_list (pv 0) pe_int (fun _ _ => rfl)) pa_nil))))))) pss_nil)
      (pss_cons (ps_if (pt_cmpR op_eq (pe_callB (id := "len") (r := Evl.rLenS K) call_len_seq (by rfl) T.b_len PySem.boot_len (pa_cons (pv 0) pa_nil)) pe_int (nomark _)) (pss_one (ps_ret (pe_callN G_once (hr.mono (by decide)) rfl g_once kp_once pass0 (pa_cons (pe_ix (r := rIxL K) ix_list (pv 0) pe_int (fun _ _ => rfl)) (pa_cons (pe_ix (r := rIxL K) ix_list (pv 0) pe_int (fun _ _ => rfl)) (pa_cons (pe_ix (r := rIxL K) ix_list (pv 0) pe_int (fun _ _ => rfl)) (pa_cons (pe_ix (r := rIxL K) ix_list (pv 0) pe_int (fun _ _ => rfl)) (pa_cons (pe_ix (r := rIxL K) ix_list (pv 0) pe_int (fun _ _ => rfl)) pa_nil)))))))) pss_nil)
      (pss_cons (ps_if (pt_cmpR op_eq (pe_callB (id := "len") (r := Evl.rLenS K) call_len_seq (by rfl) T.b_len PySem.boot_len (pa_cons (pv 0) pa_nil)) pe_int (nomark _)) (pss_one (ps_ret (pe_callN G_once (hr.mono (by decide)) rfl g_once kp_once pass0 (pa_cons (pe_ix (r := rIxL K) ix_list (pv 0) pe_int (fun _ _ => rfl)) (pa_cons (pe_ix (r := rIxL K) ix_list (pv 0) pe_int (fun _ _ => rfl)) (pa_cons (pe_ix (r := rIxL K) ix_list (pv 0) pe_int (fun _ _ => rfl)) (pa_cons (pe_ix (r := rIxL K) ix_list (pv 0) pe_int (fun _ _ => rfl)) (pa_cons (pe_ix (r := rIxL K) ix_list (pv 0) pe_int (fun _ _ => rfl)) (pa_cons (pe_ix (r := rIxL K) ix_list (pv 0) pe_int (fun _ _ => rfl)) pa_nil))))))))) pss_nil)
      (pss_one (ps_ret (pe_callN G_once (hr.mono (by decide)) rfl g_once kp_once pass0 (pa_cons (pe_ix (r := rIxL K) ix_list (pv 0) pe_int (fun _ _ => rfl)) (pa_cons (pe_ix (r := rIxL K) ix_list (pv 0) pe_int (fun _ _ => rfl)) (pa_cons (pe_ix (r := rIxL K) ix_list (pv 0) pe_int (fun _ _ => rfl)) (pa_cons (pe_ix (r := rIxL K) ix_list (pv 0) pe_int (fun _ _ => rfl)) (pa_cons (pe_ix (r := rIxL K) ix_list (pv 0) pe_int (fun _ _ => rfl)) (pa_cons (pe_ix (r := rIxL K) ix_list (pv 0) pe_int (fun _ _ => rfl)) (pa_cons (pe_ix (r := rIxL K) ix_list (pv 0) pe_int (fun _ _ => rfl)) pa_nil))))))))))))))))), ?_⟩
    try simp only [tSeq, tIfS, tTest, tOp, tUn, tCB, tCons, tNil, tVar, tC, rI0, rI, rU, rEq, rNe, tRet, tRetN, tAsg, gName, gSub, tBM, tBM0, tNext, tB, tNot, tAnd, tOr, tIf, tCall, tDrop, tBreak, tCont, L2.start, tDGet, sDPut, tTup, tLst, tDNewK, tRevL, rCat, rAppend, rPop, rSetL, tAndV, tOrV, tNotV, tSl, tPart, tNoPart, tM1, gTup, gCons, gNil, cxK, cxnK, List.map_cons, List.map_nil, List.length_cons, List.length_nil, List.replicate, List.cons_append, List.nil_append, List.append_nil, List.set_cons_zero, List.set_cons_succ, List.getElem?_cons_zero, List.getElem?_cons_succ, Option.some.injEq, V.ref.injEq, V.int.injEq, V.str.injEq, V.bl.injEq, V.ty.injEq, exists_eq_left', exists_eq_left, exists_and_left, List.cons.injEq, and_true, true_and, sc_ii, sc_ss, sc_bb, sc_ni, sc_in, sc_is, sc_si, sc_nn, decide_true, decide_false, reduceCtorEq, Bool.false_eq_true, if_true, if_false, ite_true, ite_false, exists_const, eq_self, false_and, and_false, or_false, false_or, exists_false, Evl.rLenS, rSum, wipe, tYes, exists_eq, exists_eq', rIxL, rIxT, rIxS, exists_and_right, gt_iff_lt, not_true_eq_false, not_false_eq_true, Bool.not_true, Bool.not_false, decide_eq_true_eq, Nat.reduceSub, Nat.reduceAdd, List.append_assoc, tChain, tDIn, tDNotIn, sDDel, tAug, ipI]
    refine ⟨_, .inl hS, ?_⟩
    rw [List.length_map]
    refine ite2 (fun h0 => ?_) (fun h0 => ?_)
    · have hk : xs.length = 0 := by omega
      have hx : xs = [] := List.eq_nil_of_length_eq_zero hk
      subst hx
      exact on_end (xs := []) (by simp) q
    refine ⟨_, .inl hS, ?_⟩
    rw [List.length_map]
    refine ite2 (fun h1 => ?_) (fun h1 => ?_)
    · have hk : xs.length = 1 := by omega
      obtain ⟨x0, hx⟩ : ∃ x0, xs = [x0] := by
        match xs, hk with
        | [x0], _ => exact ⟨x0, rfl⟩
      subst hx
      exact ⟨_, hS, _, atI_of (by decide) rfl, on_end (xs := [x0]) (by simp) q⟩
    refine ⟨_, .inl hS, ?_⟩
    rw [List.length_map]
    refine ite2 (fun h2 => ?_) (fun h2 => ?_)
    · have hk : xs.length = 2 := by omega
      obtain ⟨x0, x1, hx⟩ : ∃ x0 x1, xs = [x0, x1] := by
        match xs, hk with
        | [x0, x1], _ => exact ⟨x0, x1, rfl⟩
      subst hx
      exact ⟨_, hS, _, atI_of (by decide) rfl, _, hS, _, atI_of (by decide) rfl, on_end (xs := [x0, x1]) (by simp) q⟩
    refine ⟨_, .inl hS, ?_⟩
    rw [List.length_map]
    refine ite2 (fun h3 => ?_) (fun h3 => ?_)
    · have hk : xs.length = 3 := by omega
      obtain ⟨x0, x1, x2, hx⟩ : ∃ x0 x1 x2, xs = [x0, x1, x2] := by
        match xs, hk with
        | [x0, x1, x2], _ => exact ⟨x0, x1, x2, rfl⟩
      subst hx
      exact ⟨_, hS, _, atI_of (by decide) rfl, _, hS, _, atI_of (by decide) rfl, _, hS, _, atI_of (by decide) rfl, on_end (xs := [x0, x1, x2]) (by simp) q⟩
    refine ⟨_, .inl hS, ?_⟩
    rw [List.length_map]
    refine ite2 (fun h4 => ?_) (fun h4 => ?_)
    · have hk : xs.length = 4 := by omega
      obtain ⟨x0, x1, x2, x3, hx⟩ : ∃ x0 x1 x2 x3, xs = [x0, x1, x2, x3] := by
        match xs, hk with
        | [x0, x1, x2, x3], _ => exact ⟨x0, x1, x2, x3, rfl⟩
      subst hx
      exact ⟨_, hS, _, atI_of (by decide) rfl, _, hS, _, atI_of (by decide) rfl, _, hS, _, atI_of (by decide) rfl, _, hS, _, atI_of (by decide) rfl, on_end (xs := [x0, x1, x2, x3]) (by simp) q⟩
    refine ⟨_, .inl hS, ?_⟩
    rw [List.length_map]
    refine ite2 (fun h5 => ?_) (fun h5 => ?_)
    · have hk : xs.length = 5 := by omega
      obtain ⟨x0, x1, x2, x3, x4, hx⟩ : ∃ x0 x1 x2 x3 x4, xs = [x0, x1, x2, x3, x4] := by
        match xs, hk with
        | [x0, x1, x2, x3, x4], _ => exact ⟨x0, x1, x2, x3, x4, rfl⟩
      subst hx
      exact ⟨_, hS, _, atI_of (by decide) rfl, _, hS, _, atI_of (by decide) rfl, _, hS, _, atI_of (by decide) rfl, _, hS, _, atI_of (by decide) rfl, _, hS, _, atI_of (by decide) rfl, on_end (xs := [x0, x1, x2, x3, x4]) (by simp) q⟩
    refine ⟨_, .inl hS, ?_⟩
    rw [List.length_map]
    refine ite2 (fun h6 => ?_) (fun h6 => ?_)
    · have hk : xs.length = 6 := by omega
      obtain ⟨x0, x1, x2, x3, x4, x5, hx⟩ : ∃ x0 x1 x2 x3 x4 x5, xs = [x0, x1, x2, x3, x4, x5] := by
        match xs, hk with
        | [x0, x1, x2, x3, x4, x5], _ => exact ⟨x0, x1, x2, x3, x4, x5, rfl⟩
      subst hx
      exact ⟨_, hS, _, atI_of (by decide) rfl, _, hS, _, atI_of (by decide) rfl, _, hS, _, atI_of (by decide) rfl, _, hS, _, atI_of (by decide) rfl, _, hS, _, atI_of (by decide) rfl, _, hS, _, atI_of (by decide) rfl, on_end (xs := [x0, x1, x2, x3, x4, x5]) (by simp) q⟩
    have hk : xs.length = 7 := by omega
    obtain ⟨x0, x1, x2, x3, x4, x5, x6, hx⟩ : ∃ x0 x1 x2 x3 x4 x5 x6, xs = [x0, x1, x2, x3, x4, x5, x6] := by
      match xs, hk with
      | [x0, x1, x2, x3, x4, x5, x6], _ => exact ⟨x0, x1, x2, x3, x4, x5, x6, rfl⟩
    subst hx
    exact ⟨_, hS, _, atI_of (by decide) rfl, _, hS, _, atI_of (by decide) rfl, _, hS, _, atI_of (by decide) rfl, _, hS, _, atI_of (by decide) rfl, _, hS, _, atI_of (by decide) rfl, _, hS, _, atI_of (by decide) rfl, _, hS, _, atI_of (by decide) rfl, on_end (xs := [x0, x1, x2, x3, x4, x5, x6]) (by simp) q⟩
theorem ok_law_always {f : Addr} {fd : FuncData} (D : Df K mg "_law_always" s_law_always ["_law_row"] f fd) (T : BtC mg) {fo : Addr} (g_always : mg "always" = some (.ref fo)) (kp_always : PySem.W.keepIn K (.ref fo) = true)
    (G_always : FnR P w K mg base CX0 1 fo (fun vs H Q E => ∃ ws rest, vs = ws ++ rest ∧ ws.length = ([] : List Str).length ∧ rest.length ≤ sizeLine ∧ ∀ p, H p = Option.none → spAlways K (ws ++ [V.ref p]) (upd H p (.tup rest)) Q E)) :
    FnOk P w K mg base CX0 2 f fd ["_law_row"] (spAl K) := by
  refine D.F.ok sc_law_always (fun vs H Q E h => ?_) (fun cdv A outer s H vs Q E hr h => ?_)
  · obtain ⟨_, _, rfl, _⟩ := h
    rfl
  · obtain ⟨a, xs, rfl, hS, hl, q⟩ := h
    refine ⟨_, (pss_cons (ps_if (pt_cmpR op_eq (pe_callB (id := "len") (r := Evl.rLenS K) call_len_seq (by rfl) T.b_len PySem.boot_len (pa_cons (pv 0) pa_nil)) pe_int (nomark _)) (pss_one (ps_ret (pe_callN0 G_always (hr.mono (by decide)) rfl g_always kp_always pass0))) pss_nil)
      (pss_cons (ps_if (pt_cmpR op_eq (pe_callB (id := "len") (r := Evl.rLenS K) call_len_seq (by rfl) T.b_len PySem.boot_len (pa_cons (pv 0) pa_nil)) pe_int (nomark _)) (pss_one (ps_ret (pe_callN G_always (hr.mono (by decide)) rfl g_always kp_always pass0 (pa_cons (pe_ix (r := rIxL K) ix_list (pv 0) pe_int (fun _ _ => rfl)) pa_nil)))) pss_nil)
      (pss_cons (ps_if (pt_cmpR op_eq (pe_callB (id := "len") (r := Evl.rLenS K) call_len_seq (by rfl) T.b_len PySem.boot_len (pa_cons (pv 0) pa_nil)) pe_int (nomark _)) (pss_one (ps_ret (pe_callN G_always (hr.mono (by decide)) rfl g_always kp_always pass0 (pa_cons (pe_ix (r := rIxL K) ix_list (pv 0) pe_int (fun _ _ => rfl)) (pa_cons (pe_ix (r := rIxL K) ix_list (pv 0) pe_int (fun _ _ => rfl)) pa_nil))))) pss_nil)
      (pss_cons (ps_if (pt_cmpR op_eq (pe_callB (id := "len") (r := Evl.rLenS K) call_len_seq (by rfl) T.b_len PySem.boot_len (pa_cons (pv 0) pa_nil)) pe_int (nomark _)) (pss_one (ps_ret (pe_callN G_always (hr.mono (by decide)) rfl g_always kp_always pass0 (pa_cons (pe_ix (r := rIxL K) ix_list (pv 0) pe_int (fun _ _ => rfl)) (pa_cons (pe_ix (r := rIxL K) ix_list (pv 0) pe_int (fun _ _ => rfl)) (pa_cons (pe_ix (r := rIxL K) ix_list (pv 0) pe_int (fun _ _ => rfl)) pa_nil)))))) pss_nil)
      (pss_cons (ps_if (pt_cmpR op_eq (pe_callB (id := "len") (r := Evl.rLenS K) call_len_seq (by rfl) T.b_len PySem.boot_len (pa_cons (pv 0) pa_nil)) pe_int (nomark _)) (pss_one (ps_ret (pe_callN G_always (hr.mono (by decide)) rfl g_always kp_always pass0 (pa_cons (pe_ix (r := rIxL K) ix_list (pv 0) pe_int (fun _ _ => rfl)) (pa_cons (pe_ix (r := rIxL K) ix_list (pv 0) pe_int (fun _ _ => rfl)) (pa_cons (pe_ix (r := rIxL K) ix_list (pv 0) pe_int (fun _ _ => rfl)) (pa_cons (pe_ix (r := rIxL K) ix_list (pv 0) pe_int (fun _ _ => rfl)) pa_nil))))))) pss_nil)
      (pss_cons (ps_if (pt_cmpR op_eq (pe_callB (id := "len") (r := Evl.rLenS K) call_len_seq (by rfl) T.b_len PySem.boot_len (pa_cons (pv 0) pa_nil)) pe_int (nomark _)) (pss_one (ps_ret (pe_callN G_always (hr.mono (by decide)) rfl g_always kp_always pass0 (pa_cons (pe_ix (r := rIxL K) ix_list (pv 0) pe_int (fun _ _ => rfl)) (pa_cons (pe_ix (r := rIxL K) ix_list (pv 0) pe_int (fun _ _ => rfl)) (pa_cons (pe_ix (r := rIxL K) ix_list (pv 0) pe_int (fun _ _ => rfl)) (pa_cons (pe_ix (r := rIxL K) ix_list (pv 0) pe_int (fun _ _ => rfl)) (pa_cons (pe_ix (r := rIxL K) ix_list (pv 0) pe_int (fun _ _ => rfl)) pa_nil)))))))) pss_nil)
      (pss_cons (ps_if (pt_cmpR op_eq (pe_callB (id := "len") (r := Evl.rLenS K) call_len_seq (by rfl) T.b_len PySem.boot_len (pa_cons (pv 0) pa_nil)) pe_int (nomark _)) (pss_one (ps_ret (pe_callN G_always (hr.mono (by decide)) rfl g_always kp_always pass0 (pa_cons (pe_ix (r := rIxL K) ix_list (pv 0) pe_int (fun _ _ => rfl)) (pa_cons (pe_ix (r := rIxL K) ix_list (pv 0) pe_int (fun _ _ => rfl)) (pa_cons (pe_ix (r := rIxL K) ix_list (pv 0) pe_int (fun _ _ => rfl)) (pa_cons (pe_ix (r := rIxL K) ix_list (pv 0) pe_int (fun _ _ => rfl)) (pa_cons (pe_ix (r := rIxL K) ix_list (pv 0) pe_int (fun _ _ => rfl)) (pa_cons (pe_ix (r := rIxL K) ix_list (pv 0) pe_int (fun _ _ => rfl)) pa_nil))))))))) pss_nil)
      (pss_one (ps_ret (pe_callN G_always (hr.mono (by decide)) rfl g_always kp_always pass0 (pa_cons (pe_ix (r := rIxL K) ix_list (pv 0) pe_int (fun _ _ => rfl)) (pa_cons (pe_ix (r := rIxL K) ix_list (pv 0) pe_int (fun _ _ => rfl)) (pa_cons (pe_ix (r := rIxL K) ix_list (pv 0) pe_int (fun _ _ => rfl)) (pa_cons (pe_ix (r := rIxL K) ix_list (pv 0) pe_int (fun _ _ => rfl)) (pa_cons (pe_ix (r := rIxL K) ix_list (pv 0) pe_int (fun _ _ => rfl)) (pa_cons (pe_ix (r := rIxL K) ix_list (pv 0) pe_int (fun _ _ => rfl)) (pa_cons (pe_ix (r := rIxL K) ix_list (pv 0) pe_int (fun _ _ => rfl)) pa_nil))))))))))))))))), ?_⟩
    try simp only [tSeq, tIfS, tTest, tOp, tUn, tCB, tCons, tNil, tVar, tC, rI0, rI, rU, rEq, rNe, tRet, tRetN, tAsg, gName, gSub, tBM, tBM0, tNext, tB, tNot, tAnd, tOr, tIf, tCall, tDrop, tBreak, tCont, L2.start, tDGet, sDPut, tTup, tLst, tDNewK, tRevL, rCat, rAppend, rPop, rSetL, tAndV, tOrV, tNotV, tSl, tPart, tNoPart, tM1, gTup, gCons, gNil, cxK, cxnK, List.map_cons, List.map_nil, List.length_cons, List.length_nil, List.replicate, List.cons_append, List.nil_append, List.append_nil, List.set_cons_zero, List.set_cons_succ, List.getElem?_cons_zero, List.getElem?_cons_succ, Option.some.injEq, V.ref.injEq, V.int.injEq, V.str.injEq, V.bl.injEq, V.ty.injEq, exists_eq_left', exists_eq_left, exists_and_left, List.cons.injEq, and_true, true_and, sc_ii, sc_ss, sc_bb, sc_ni, sc_in, sc_is, sc_si, sc_nn, decide_true, decide_false, reduceCtorEq, Bool.false_eq_true, if_true, if_false, ite_true, ite_false, exists_const, eq_self, false_and, and_false, or_false, false_or, exists_false, Evl.rLenS, rSum, wipe, tYes, exists_eq, exists_eq', rIxL, rIxT, rIxS, exists_and_right, gt_iff_lt, not_true_eq_false, not_false_eq_true, Bool.not_true, Bool.not_false, decide_eq_true_eq, Nat.reduceSub, Nat.reduceAdd, List.append_assoc, tChain, tDIn, tDNotIn, sDDel, tAug, ipI]
    refine ⟨_, .inl hS, ?_⟩
    rw [List.length_map]
    refine ite2 (fun h0 => ?_) (fun h0 => ?_)
    · have hk : xs.length = 0 := by omega
      have hx : xs = [] := List.eq_nil_of_length_eq_zero hk
      subst hx
      exact al_end (xs := []) (by simp) q
    refine ⟨_, .inl hS, ?_⟩
    rw [List.length_map]
    refine ite2 (fun h1 => ?_) (fun h1 => ?_)
    · have hk : xs.length = 1 := by omega
      obtain ⟨x0, hx⟩ : ∃ x0, xs = [x0] := by
        match xs, hk with
        | [x0], _ => exact ⟨x0, rfl⟩
      subst hx
      exact ⟨_, hS, _, atI_of (by decide) rfl, al_end (xs := [x0]) (by simp) q⟩
    refine ⟨_, .inl hS, ?_⟩
    rw [List.length_map]
    refine ite2 (fun h2 => ?_) (fun h2 => ?_)
    · have hk : xs.length = 2 := by omega
      obtain ⟨x0, x1, hx⟩ : ∃ x0 x1, xs = [x0, x1] := by
        match xs, hk with
        | [x0, x1], _ => exact ⟨x0, x1, rfl⟩
      subst hx
      exact ⟨_, hS, _, atI_of (by decide) rfl, _, hS, _, atI_of (by decide) rfl, al_end (xs := [x0, x1]) (by simp) q⟩
    refine ⟨_, .inl hS, ?_⟩
    rw [List.length_map]
    refine ite2 (fun h3 => ?_) (fun h3 => ?_)
    · have hk : xs.length = 3 := by omega
      obtain ⟨x0, x1, x2, hx⟩ : ∃ x0 x1 x2, xs = [x0, x1, x2] := by
        match xs, hk with
        | [x0, x1, x2], _ => exact ⟨x0, x1, x2, rfl⟩
      subst hx
      exact ⟨_, hS, _, atI_of (by decide) rfl, _, hS, _, atI_of (by decide) rfl, _, hS, _, atI_of (by decide) rfl, al_end (xs := [x0, x1, x2]) (by simp) q⟩
    refine ⟨_, .inl hS, ?_⟩
    rw [List.length_map]
    refine ite2 (fun h4 => ?_) (fun h4 => ?_)
    · have hk : xs.length = 4 := by omega
      obtain ⟨x0, x1, x2, x3, hx⟩ : ∃ x0 x1 x2 x3, xs = [x0, x1, x2, x3] := by
        match xs, hk with
        | [x0, x1, x2, x3], _ => exact ⟨x0, x1, x2, x3, rfl⟩
      subst hx
      exact ⟨_, hS, _, atI_of (by decide) rfl, _, hS, _, atI_of (by decide) rfl, _, hS, _, atI_of (by decide) rfl, _, hS, _, atI_of (by decide) rfl, al_end (xs := [x0, x1, x2, x3]) (by simp) q⟩
    refine ⟨_, .inl hS, ?_⟩
    rw [List.length_map]
    refine ite2 (fun h5 => ?_) (fun h5 => ?_)
    · have hk : xs.length = 5 := by omega
      obtain ⟨x0, x1, x2, x3, x4, hx⟩ : ∃ x0 x1 x2 x3 x4, xs = [x0, x1, x2, x3, x4] := by
        match xs, hk with
        | [x0, x1, x2, x3, x4], _ => exact ⟨x0, x1, x2, x3, x4, rfl⟩
      subst hx
      exact ⟨_, hS, _, atI_of (by decide) rfl, _, hS, _, atI_of (by decide) rfl, _, hS, _, atI_of (by decide) rfl, _, hS, _, atI_of (by decide) rfl, _, hS, _, atI_of (by decide) rfl, al_end (xs := [x0, x1, x2, x3, x4]) (by simp) q⟩
    refine ⟨_, .inl hS, ?_⟩
    rw [List.length_map]
    refine ite2 (fun h6 => ?_) (fun h6 => ?_)
    · have hk : xs.length = 6 := by omega
      obtain ⟨x0, x1, x2, x3, x4, x5, hx⟩ : ∃ x0 x1 x2 x3 x4 x5, xs = [x0, x1, x2, x3, x4, x5] := by
        match xs, hk with
        | [x0, x1, x2, x3, x4, x5], _ => exact ⟨x0, x1, x2, x3, x4, x5, rfl⟩
      subst hx
      exact ⟨_, hS, _, atI_of (by decide) rfl, _, hS, _, atI_of (by decide) rfl, _, hS, _, atI_of (by decide) rfl, _, hS, _, atI_of (by decide) rfl, _, hS, _, atI_of (by decide) rfl, _, hS, _, atI_of (by decide) rfl, al_end (xs := [x0, x1, x2, x3, x4, x5]) (by simp) q⟩
    have hk : xs.length = 7 := by omega
    obtain ⟨x0, x1, x2, x3, x4, x5, x6, hx⟩ : ∃ x0 x1 x2 x3 x4 x5 x6, xs = [x0, x1, x2, x3, x4, x5, x6] := by
      match xs, hk with
      | [x0, x1, x2, x3, x4, x5, x6], _ => exact ⟨x0, x1, x2, x3, x4, x5, x6, rfl⟩
    subst hx
    exact ⟨_, hS, _, atI_of (by decide) rfl, _, hS, _, atI_of (by decide) rfl, _, hS, _, atI_of (by decide) rfl, _, hS, _, atI_of (by decide) rfl, _, hS, _, atI_of (by decide) rfl, _, hS, _, atI_of (by decide) rfl, _, hS, _, atI_of (by decide) rfl, al_end (xs := [x0, x1, x2, x3, x4, x5, x6]) (by simp) q⟩
end
end My

set_option Elab.async false
set_option linter.all false
set_option maxRecDepth 100000
set_option maxHeartbeats 4000000
namespace My
open PySem L2 NdefX
abbrev s_law_is_caller : Stmt := top 22
theorem sc_law_is_caller : FnScope ["_law_actual", "_law_menus", "_law_again", "_law_k"] ["_law_actual", "_law_menus", "_law_again"] (defScope s_law_is_caller) := ⟨rfl, rfl, rfl, by decide +kernel, rfl, by decide +kernel, by decide +kernel⟩
abbrev s_law_some : Stmt := top 26
theorem sc_law_some : FnScope ["_law_names", "_law_bits", "_law_place", "_law_chosen", "_law_k"] ["_law_names", "_law_bits", "_law_place"] (defScope s_law_some) := ⟨rfl, rfl, rfl, by decide +kernel, rfl, by decide +kernel, by decide +kernel⟩
abbrev s_law_due : Stmt := top 29
theorem sc_law_due : FnScope ["_law_client", "_law_spoilt_here", "_law_known", "_law_at", "_law_menus", "_law_again", "_law_menu", "_law_name_here"] ["_law_client", "_law_spoilt_here", "_law_known"] (defScope s_law_due) := ⟨rfl, rfl, rfl, by decide +kernel, rfl, by decide +kernel, by decide +kernel⟩
/-! ### what may be compared -/
def Fit (d : PyData) : Prop := SeqAt.shaped d = true ∧ d.depth ≤ 60
theorem fit_str {z : Str} (h : PyData.canLay0 (.str z) = true) : Fit (.str z) := by
  refine ⟨?_, by show PyData.depth (.str z) ≤ 60; simp [PyData.depth]⟩
  unfold SeqAt.shaped
  rw [h]
  simp [PyData.depth]
theorem fitL {ds : List PyData} (h : ∀ d ∈ ds, Fit d) : SeqAt.shaped (.list ds) = true ∧ SeqAt.shaped (.tuple ds) = true := by
  have a1 : PyData.canLayAll0 ds = true := by
    induction ds with
    | nil => rfl
    | cons d r ih =>
      have h1 := h d List.mem_cons_self
      show (PyData.canLay0 d && PyData.canLayAll0 r) = true
      rw [SeqAt.canLay_of_shaped h1.1, ih fun x hx => h x (List.mem_cons_of_mem _ hx)]; rfl
  have a2 : PyData.depthAll ds ≤ 60 := by
    clear a1
    induction ds with
    | nil => exact Nat.zero_le _
    | cons d r ih =>
      have h1 := h d List.mem_cons_self
      have h2 := ih fun x hx => h x (List.mem_cons_of_mem _ hx)
      show max d.depth (PyData.depthAll r) ≤ 60
      have hd := h1.2
      omega
  have b1 : decide (PyData.depthAll ds + 1 ≤ 64) = true := decide_eq_true (by omega)
  constructor <;> (show (PyData.canLayAll0 ds && decide (PyData.depthAll ds + 1 ≤ 64)) = true; rw [a1, b1]; rfl)
/-- texts that are told of -/
def OkT (z : Str) : Prop := PyData.canLay0 (.str z) = true ∧ z.length ≤ 1000
def spIC (K : PySem.W.Frag) : Sp := fun vs H Q _ => ∃ (p m ml : Addr) (us ls : List V) (zss : List (List Str)) (b : Bool), vs = [.ref p, .ref ml, .bl b] ∧ H p = some (.tup [.ref m, .bl b]) ∧ H m = some (.tup us) ∧ SqL K H ml ls ∧ us.length = zss.length ∧ ls.length = zss.length ∧ zss.length ≤ 1000 ∧
  (∀ (i : Nat) (zs : List Str), zss[i]? = some zs → ∃ t l : Addr, us[i]? = some (.ref t) ∧ ls[i]? = some (.ref l) ∧ H t = some (.tup (zs.map V.str)) ∧ SqL K H l (zs.map V.str) ∧ ∀ z ∈ zs, OkT z) ∧ ∀ H', Kp [] H H' → Q (.bl true) H'
structure BtE (mg : Str → Option Value) : Prop extends BtC mg where
  b_isinstance : mg "isinstance" = none
  b_tuple : mg "tuple" = none
  b_bool : mg "bool" = none
  b_list : mg "list" = none
section
variable {P : Program} {w : World} {K : PySem.W.Frag} {mg : Str → Option Value} {base : Heap}
theorem ok_law_is_caller {f : Addr} {fd : FuncData} (D : Df K mg "_law_is_caller" s_law_is_caller ["_law_actual", "_law_menus", "_law_again"] f fd) (T : BtE mg) : FnOk P w K mg base CX0 1 f fd ["_law_actual", "_law_menus", "_law_again"] (spIC K) := by
  refine D.F.ok sc_law_is_caller (fun vs H Q E h => ?_) (fun cdv A outer s H vs Q E hr h => ?_)
  · obtain ⟨_, _, _, _, _, _, _, rfl, _⟩ := h
    rfl
  · obtain ⟨p, m, ml, us, ls, zss, b, rfl, hp, hm, hml, e1, e2, hl, hz, q⟩ := h
    have hu := hu_of hr
    refine ⟨_, (pss_cons (ps_if (PW.pt (pw_or (pt_not (pt_val (pe_callB (id := "isinstance") (r := rIsi K) call_isi (by rfl) T.b_isinstance (by decide +kernel) (pa_cons (pv 0) (pa_cons (pe_bltn (v := .ty "tuple") (by rfl) T.b_tuple (by decide +kernel) rfl) pa_nil))))) (pw_or (pt_cmpR op_ne (pe_callB (id := "len") (r := Evl.rLenS K) call_len_seq (by rfl) T.b_len PySem.boot_len (pa_cons (pv 0) pa_nil)) pe_int (nomark _)) (pw_or (pt_not (pt_val (pe_callB (id := "isinstance") (r := rIsi K) call_isi (by rfl) T.b_isinstance (by decide +kernel) (pa_cons (pe_ix (r := rIxT K) ix_tup (pv 0) pe_int (fun _ _ => rfl)) (pa_cons (pe_bltn (v := .ty "bool") (by rfl) T.b_bool (by decide +kernel) rfl) pa_nil))))) (pw_or1 (pt_cmpR op_ne (pe_ix (r := rIxT K) ix_tup (pv 0) pe_int (fun _ _ => rfl)) (pv 2) (nomark _))))))) (pss_one (ps_ret pe_bl)) pss_nil)
      (pss_cons (ps_if (PW.pt (pw_or (pt_not (pt_val (pe_callB (id := "isinstance") (r := rIsi K) call_isi (by rfl) T.b_isinstance (by decide +kernel) (pa_cons (pe_ix (r := rIxT K) ix_tup (pv 0) pe_int (fun _ _ => rfl)) (pa_cons (pe_bltn (v := .ty "tuple") (by rfl) T.b_tuple (by decide +kernel) rfl) pa_nil))))) (pw_or1 (pt_cmpR op_ne (pe_callB (id := "len") (r := Evl.rLenS K) call_len_seq (by rfl) T.b_len PySem.boot_len (pa_cons (pe_ix (r := rIxT K) ix_tup (pv 0) pe_int (fun _ _ => rfl)) pa_nil)) (pe_callB (id := "len") (r := Evl.rLenS K) call_len_seq (by rfl) T.b_len PySem.boot_len (pa_cons (pv 1) pa_nil)) (nomark _))))) (pss_one (ps_ret pe_bl)) pss_nil)
      (pss_cons (ps_for PassesOwn.never rfl (pi_range1 rfl T.b_range (pa_cons (pe_callB (id := "len") (r := Evl.rLenS K) call_len_seq (by rfl) T.b_len PySem.boot_len (pa_cons (pv 1) pa_nil)) pa_nil)) (pg_name (i := 3) sc_law_is_caller.nd rfl (Or.inl rfl)) (pss_one (ps_if (PW.pt (pw_or (pt_not (pt_val (pe_callB (id := "isinstance") (r := rIsi K) call_isi (by rfl) T.b_isinstance (by decide +kernel) (pa_cons (pe_ix (r := rIxT K) ix_tup (pe_ix (r := rIxT K) ix_tup (pv 0) pe_int (fun _ _ => rfl)) (pv 3) (fun _ _ => rfl)) (pa_cons (pe_bltn (v := .ty "tuple") (by rfl) T.b_tuple (by decide +kernel) rfl) pa_nil))))) (pw_or1 (pt_cmpR (op_neD hr.units) (pe_callTy call_list_of (by rfl) T.b_list (by decide +kernel) (pa_cons (pe_ix (r := rIxT K) ix_tup (pe_ix (r := rIxT K) ix_tup (pv 0) pe_int (fun _ _ => rfl)) (pv 3) (fun _ _ => rfl)) pa_nil)) (pe_ix (r := rIxL K) ix_list (pv 1) (pv 3) (fun _ _ => rfl)) (nomark _))))) (pss_one (ps_ret pe_bl)) pss_nil)))
      (pss_one (ps_ret pe_bl))))), ?_⟩
    try simp only [tSeq, tIfS, tTest, tOp, tUn, tCB, tCons, tNil, tVar, tC, rI0, rI, rU, rEq, rNe, tRet, tRetN, tAsg, gName, gSub, tBM, tBM0, tNext, tB, tNot, tAnd, tOr, tIf, tCall, tDrop, tBreak, tCont, L2.start, tDGet, sDPut, tTup, tLst, tDNewK, tRevL, rCat, rAppend, rPop, rSetL, tAndV, tOrV, tNotV, tSl, tPart, tNoPart, tM1, gTup, gCons, gNil, cxK, cxnK, List.map_cons, List.map_nil, List.length_cons, List.length_nil, List.replicate, List.cons_append, List.nil_append, List.append_nil, List.set_cons_zero, List.set_cons_succ, List.getElem?_cons_zero, List.getElem?_cons_succ, Option.some.injEq, V.ref.injEq, V.int.injEq, V.str.injEq, V.bl.injEq, V.ty.injEq, exists_eq_left', exists_eq_left, exists_and_left, List.cons.injEq, and_true, true_and, sc_ii, sc_ss, sc_bb, sc_ni, sc_in, sc_is, sc_si, sc_nn, decide_true, decide_false, reduceCtorEq, Bool.false_eq_true, if_true, if_false, ite_true, ite_false, exists_const, eq_self, false_and, and_false, or_false, false_or, exists_false, Evl.rLenS, rSum, wipe, tYes, exists_eq, exists_eq', rIxL, rIxT, rIxS, exists_and_right, gt_iff_lt, not_true_eq_false, not_false_eq_true, Bool.not_true, Bool.not_false, decide_eq_true_eq, Nat.reduceSub, Nat.reduceAdd, List.append_assoc, tChain, tDIn, tDNotIn, sDDel, tAug, ipI]
    have two : ∀ x y : V, (!decide (((([x, y] : List V).length : Nat) : Int) = 2)) = true ↔ False := fun x y => by simp
    refine isi_mk (.tup hp) (b := true) (by decide +kernel) ?_
    try simp only [tSeq, tIfS, tTest, tOp, tUn, tCB, tCons, tNil, tVar, tC, rI0, rI, rU, rEq, rNe, tRet, tRetN, tAsg, gName, gSub, tBM, tBM0, tNext, tB, tNot, tAnd, tOr, tIf, tCall, tDrop, tBreak, tCont, L2.start, tDGet, sDPut, tTup, tLst, tDNewK, tRevL, rCat, rAppend, rPop, rSetL, tAndV, tOrV, tNotV, tSl, tPart, tNoPart, tM1, gTup, gCons, gNil, cxK, cxnK, List.map_cons, List.map_nil, List.length_cons, List.length_nil, List.replicate, List.cons_append, List.nil_append, List.append_nil, List.set_cons_zero, List.set_cons_succ, List.getElem?_cons_zero, List.getElem?_cons_succ, Option.some.injEq, V.ref.injEq, V.int.injEq, V.str.injEq, V.bl.injEq, V.ty.injEq, exists_eq_left', exists_eq_left, exists_and_left, List.cons.injEq, and_true, true_and, sc_ii, sc_ss, sc_bb, sc_ni, sc_in, sc_is, sc_si, sc_nn, decide_true, decide_false, reduceCtorEq, Bool.false_eq_true, if_true, if_false, ite_true, ite_false, exists_const, eq_self, false_and, and_false, or_false, false_or, exists_false, Evl.rLenS, rSum, wipe, tYes, exists_eq, exists_eq', rIxL, rIxT, rIxS, exists_and_right, gt_iff_lt, not_true_eq_false, not_false_eq_true, Bool.not_true, Bool.not_false, decide_eq_true_eq, Nat.reduceSub, Nat.reduceAdd, List.append_assoc, tChain, tDIn, tDNotIn, sDDel, tAug, ipI]
    refine ⟨_, .inr (sq_t hp), ?_⟩
    rw [if_neg (fun z => (two _ _).mp z)]
    refine ⟨_, sq_t hp, .bl b, atI_of (by decide) rfl, isi_bl_bool ?_⟩
    try simp only [tSeq, tIfS, tTest, tOp, tUn, tCB, tCons, tNil, tVar, tC, rI0, rI, rU, rEq, rNe, tRet, tRetN, tAsg, gName, gSub, tBM, tBM0, tNext, tB, tNot, tAnd, tOr, tIf, tCall, tDrop, tBreak, tCont, L2.start, tDGet, sDPut, tTup, tLst, tDNewK, tRevL, rCat, rAppend, rPop, rSetL, tAndV, tOrV, tNotV, tSl, tPart, tNoPart, tM1, gTup, gCons, gNil, cxK, cxnK, List.map_cons, List.map_nil, List.length_cons, List.length_nil, List.replicate, List.cons_append, List.nil_append, List.append_nil, List.set_cons_zero, List.set_cons_succ, List.getElem?_cons_zero, List.getElem?_cons_succ, Option.some.injEq, V.ref.injEq, V.int.injEq, V.str.injEq, V.bl.injEq, V.ty.injEq, exists_eq_left', exists_eq_left, exists_and_left, List.cons.injEq, and_true, true_and, sc_ii, sc_ss, sc_bb, sc_ni, sc_in, sc_is, sc_si, sc_nn, decide_true, decide_false, reduceCtorEq, Bool.false_eq_true, if_true, if_false, ite_true, ite_false, exists_const, eq_self, false_and, and_false, or_false, false_or, exists_false, Evl.rLenS, rSum, wipe, tYes, exists_eq, exists_eq', rIxL, rIxT, rIxS, exists_and_right, gt_iff_lt, not_true_eq_false, not_false_eq_true, Bool.not_true, Bool.not_false, decide_eq_true_eq, Nat.reduceSub, Nat.reduceAdd, List.append_assoc, tChain, tDIn, tDNotIn, sDDel, tAug, ipI]
    refine ⟨_, sq_t hp, .bl b, atI_of (by decide) rfl, rfl, ?_⟩
    rw [decide_eq_true rfl]
    try simp only [tSeq, tIfS, tTest, tOp, tUn, tCB, tCons, tNil, tVar, tC, rI0, rI, rU, rEq, rNe, tRet, tRetN, tAsg, gName, gSub, tBM, tBM0, tNext, tB, tNot, tAnd, tOr, tIf, tCall, tDrop, tBreak, tCont, L2.start, tDGet, sDPut, tTup, tLst, tDNewK, tRevL, rCat, rAppend, rPop, rSetL, tAndV, tOrV, tNotV, tSl, tPart, tNoPart, tM1, gTup, gCons, gNil, cxK, cxnK, List.map_cons, List.map_nil, List.length_cons, List.length_nil, List.replicate, List.cons_append, List.nil_append, List.append_nil, List.set_cons_zero, List.set_cons_succ, List.getElem?_cons_zero, List.getElem?_cons_succ, Option.some.injEq, V.ref.injEq, V.int.injEq, V.str.injEq, V.bl.injEq, V.ty.injEq, exists_eq_left', exists_eq_left, exists_and_left, List.cons.injEq, and_true, true_and, sc_ii, sc_ss, sc_bb, sc_ni, sc_in, sc_is, sc_si, sc_nn, decide_true, decide_false, reduceCtorEq, Bool.false_eq_true, if_true, if_false, ite_true, ite_false, exists_const, eq_self, false_and, and_false, or_false, false_or, exists_false, Evl.rLenS, rSum, wipe, tYes, exists_eq, exists_eq', rIxL, rIxT, rIxS, exists_and_right, gt_iff_lt, not_true_eq_false, not_false_eq_true, Bool.not_true, Bool.not_false, decide_eq_true_eq, Nat.reduceSub, Nat.reduceAdd, List.append_assoc, tChain, tDIn, tDNotIn, sDDel, tAug, ipI]
    refine ⟨_, sq_t hp, .ref m, atI_of (by decide) rfl, isi_mk (.tup hm) (b := true) (by decide +kernel) ?_⟩
    try simp only [tSeq, tIfS, tTest, tOp, tUn, tCB, tCons, tNil, tVar, tC, rI0, rI, rU, rEq, rNe, tRet, tRetN, tAsg, gName, gSub, tBM, tBM0, tNext, tB, tNot, tAnd, tOr, tIf, tCall, tDrop, tBreak, tCont, L2.start, tDGet, sDPut, tTup, tLst, tDNewK, tRevL, rCat, rAppend, rPop, rSetL, tAndV, tOrV, tNotV, tSl, tPart, tNoPart, tM1, gTup, gCons, gNil, cxK, cxnK, List.map_cons, List.map_nil, List.length_cons, List.length_nil, List.replicate, List.cons_append, List.nil_append, List.append_nil, List.set_cons_zero, List.set_cons_succ, List.getElem?_cons_zero, List.getElem?_cons_succ, Option.some.injEq, V.ref.injEq, V.int.injEq, V.str.injEq, V.bl.injEq, V.ty.injEq, exists_eq_left', exists_eq_left, exists_and_left, List.cons.injEq, and_true, true_and, sc_ii, sc_ss, sc_bb, sc_ni, sc_in, sc_is, sc_si, sc_nn, decide_true, decide_false, reduceCtorEq, Bool.false_eq_true, if_true, if_false, ite_true, ite_false, exists_const, eq_self, false_and, and_false, or_false, false_or, exists_false, Evl.rLenS, rSum, wipe, tYes, exists_eq, exists_eq', rIxL, rIxT, rIxS, exists_and_right, gt_iff_lt, not_true_eq_false, not_false_eq_true, Bool.not_true, Bool.not_false, decide_eq_true_eq, Nat.reduceSub, Nat.reduceAdd, List.append_assoc, tChain, tDIn, tDNotIn, sDDel, tAug, ipI]
    refine ⟨_, sq_t hp, .ref m, atI_of (by decide) rfl, _, rfl, _, .inr (sq_t hm), ls, .inl hml, ?_⟩
    rw [e1, e2, decide_eq_true rfl]
    try simp only [tSeq, tIfS, tTest, tOp, tUn, tCB, tCons, tNil, tVar, tC, rI0, rI, rU, rEq, rNe, tRet, tRetN, tAsg, gName, gSub, tBM, tBM0, tNext, tB, tNot, tAnd, tOr, tIf, tCall, tDrop, tBreak, tCont, L2.start, tDGet, sDPut, tTup, tLst, tDNewK, tRevL, rCat, rAppend, rPop, rSetL, tAndV, tOrV, tNotV, tSl, tPart, tNoPart, tM1, gTup, gCons, gNil, cxK, cxnK, List.map_cons, List.map_nil, List.length_cons, List.length_nil, List.replicate, List.cons_append, List.nil_append, List.append_nil, List.set_cons_zero, List.set_cons_succ, List.getElem?_cons_zero, List.getElem?_cons_succ, Option.some.injEq, V.ref.injEq, V.int.injEq, V.str.injEq, V.bl.injEq, V.ty.injEq, exists_eq_left', exists_eq_left, exists_and_left, List.cons.injEq, and_true, true_and, sc_ii, sc_ss, sc_bb, sc_ni, sc_in, sc_is, sc_si, sc_nn, decide_true, decide_false, reduceCtorEq, Bool.false_eq_true, if_true, if_false, ite_true, ite_false, exists_const, eq_self, false_and, and_false, or_false, false_or, exists_false, Evl.rLenS, rSum, wipe, tYes, exists_eq, exists_eq', rIxL, rIxT, rIxS, exists_and_right, gt_iff_lt, not_true_eq_false, not_false_eq_true, Bool.not_true, Bool.not_false, decide_eq_true_eq, Nat.reduceSub, Nat.reduceAdd, List.append_assoc, tChain, tDIn, tDNotIn, sDDel, tAug, ipI]
    refine forRg ((zss.length : Nat) : Int) (fun j σ H' => ∃ c : Option V, σ = [some (.ref p), some (.ref ml), some (.bl b), c] ∧ Kp [] H H') ?_ (by omega) (by omega) ⟨none, rfl, Kp.refl _ _⟩ ?_ ?_
    · intro R hR
      try simp only [tSeq, tIfS, tTest, tOp, tUn, tCB, tCons, tNil, tVar, tC, rI0, rI, rU, rEq, rNe, tRet, tRetN, tAsg, gName, gSub, tBM, tBM0, tNext, tB, tNot, tAnd, tOr, tIf, tCall, tDrop, tBreak, tCont, L2.start, tDGet, sDPut, tTup, tLst, tDNewK, tRevL, rCat, rAppend, rPop, rSetL, tAndV, tOrV, tNotV, tSl, tPart, tNoPart, tM1, gTup, gCons, gNil, cxK, cxnK, List.map_cons, List.map_nil, List.length_cons, List.length_nil, List.replicate, List.cons_append, List.nil_append, List.append_nil, List.set_cons_zero, List.set_cons_succ, List.getElem?_cons_zero, List.getElem?_cons_succ, Option.some.injEq, V.ref.injEq, V.int.injEq, V.str.injEq, V.bl.injEq, V.ty.injEq, exists_eq_left', exists_eq_left, exists_and_left, List.cons.injEq, and_true, true_and, sc_ii, sc_ss, sc_bb, sc_ni, sc_in, sc_is, sc_si, sc_nn, decide_true, decide_false, reduceCtorEq, Bool.false_eq_true, if_true, if_false, ite_true, ite_false, exists_const, eq_self, false_and, and_false, or_false, false_or, exists_false, Evl.rLenS, rSum, wipe, tYes, exists_eq, exists_eq', rIxL, rIxT, rIxS, exists_and_right, gt_iff_lt, not_true_eq_false, not_false_eq_true, Bool.not_true, Bool.not_false, decide_eq_true_eq, Nat.reduceSub, Nat.reduceAdd, List.append_assoc, tChain, tDIn, tDNotIn, sDDel, tAug, ipI]
      refine ⟨ls, .inl hml, ?_⟩
      rw [e2]
      exact hR
    · rintro j σ H' hj ⟨c, rfl, k⟩
      have hj' : j < zss.length := by omega
      obtain ⟨t, l, ht, hl2, h1, h2, hok⟩ := hz j _ (List.getElem?_eq_getElem hj')
      generalize zss[j] = zs at *
      try simp only [tSeq, tIfS, tTest, tOp, tUn, tCB, tCons, tNil, tVar, tC, rI0, rI, rU, rEq, rNe, tRet, tRetN, tAsg, gName, gSub, tBM, tBM0, tNext, tB, tNot, tAnd, tOr, tIf, tCall, tDrop, tBreak, tCont, L2.start, tDGet, sDPut, tTup, tLst, tDNewK, tRevL, rCat, rAppend, rPop, rSetL, tAndV, tOrV, tNotV, tSl, tPart, tNoPart, tM1, gTup, gCons, gNil, cxK, cxnK, List.map_cons, List.map_nil, List.length_cons, List.length_nil, List.replicate, List.cons_append, List.nil_append, List.append_nil, List.set_cons_zero, List.set_cons_succ, List.getElem?_cons_zero, List.getElem?_cons_succ, Option.some.injEq, V.ref.injEq, V.int.injEq, V.str.injEq, V.bl.injEq, V.ty.injEq, exists_eq_left', exists_eq_left, exists_and_left, List.cons.injEq, and_true, true_and, sc_ii, sc_ss, sc_bb, sc_ni, sc_in, sc_is, sc_si, sc_nn, decide_true, decide_false, reduceCtorEq, Bool.false_eq_true, if_true, if_false, ite_true, ite_false, exists_const, eq_self, false_and, and_false, or_false, false_or, exists_false, Evl.rLenS, rSum, wipe, tYes, exists_eq, exists_eq', rIxL, rIxT, rIxS, exists_and_right, gt_iff_lt, not_true_eq_false, not_false_eq_true, Bool.not_true, Bool.not_false, decide_eq_true_eq, Nat.reduceSub, Nat.reduceAdd, List.append_assoc, tChain, tDIn, tDNotIn, sDDel, tAug, ipI]
      have ix : (0 + (j : Int)) = ((j : Nat) : Int) := Int.zero_add _
      rw [ix]
      refine ⟨_, k.tp not0 (sq_t hp), .ref m, atI_of (by decide) rfl, _, rfl, _, k.tp not0 (sq_t hm), .ref t, atI_nat ht, isi_mk (.tup (k _ _ not0 h1)) (b := true) (by decide +kernel) ?_⟩
      try simp only [tSeq, tIfS, tTest, tOp, tUn, tCB, tCons, tNil, tVar, tC, rI0, rI, rU, rEq, rNe, tRet, tRetN, tAsg, gName, gSub, tBM, tBM0, tNext, tB, tNot, tAnd, tOr, tIf, tCall, tDrop, tBreak, tCont, L2.start, tDGet, sDPut, tTup, tLst, tDNewK, tRevL, rCat, rAppend, rPop, rSetL, tAndV, tOrV, tNotV, tSl, tPart, tNoPart, tM1, gTup, gCons, gNil, cxK, cxnK, List.map_cons, List.map_nil, List.length_cons, List.length_nil, List.replicate, List.cons_append, List.nil_append, List.append_nil, List.set_cons_zero, List.set_cons_succ, List.getElem?_cons_zero, List.getElem?_cons_succ, Option.some.injEq, V.ref.injEq, V.int.injEq, V.str.injEq, V.bl.injEq, V.ty.injEq, exists_eq_left', exists_eq_left, exists_and_left, List.cons.injEq, and_true, true_and, sc_ii, sc_ss, sc_bb, sc_ni, sc_in, sc_is, sc_si, sc_nn, decide_true, decide_false, reduceCtorEq, Bool.false_eq_true, if_true, if_false, ite_true, ite_false, exists_const, eq_self, false_and, and_false, or_false, false_or, exists_false, Evl.rLenS, rSum, wipe, tYes, exists_eq, exists_eq', rIxL, rIxT, rIxS, exists_and_right, gt_iff_lt, not_true_eq_false, not_false_eq_true, Bool.not_true, Bool.not_false, decide_eq_true_eq, Nat.reduceSub, Nat.reduceAdd, List.append_assoc, tChain, tDIn, tDNotIn, sDDel, tAug, ipI]
      refine ⟨_, k.tp not0 (sq_t hp), .ref m, atI_of (by decide) rfl, _, rfl, _, k.tp not0 (sq_t hm), .ref t, atI_nat ht, _, rfl, zs.map V.str, .inr (k.tp not0 (sq_t h1)), fun o no => ?_⟩
      have k1 : Kp [] H' (upd H' o (.lst (zs.map V.str))) := Kp.new no
      have kk := k.trans k1
      have sh : SeqAt.shaped (.list (zs.map PyData.str)) = true := (fitL fun d hd => by
        obtain ⟨z, hz, rfl⟩ := List.mem_map.mp hd
        exact fit_str (hok z hz).1).1
      refine ⟨_, kk.ls not0 hml, .ref l, atI_nat hl2, .list (zs.map PyData.str), .list (zs.map PyData.str), .lst (sq_l upd_same) (dpStrs zs), .lst (kk.ls not0 h2) (dpStrs zs), sh, sh, ?_⟩
      rw [SeqAt.eqv_refl _ (SeqAt.canLay_of_shaped sh)]
      try simp only [tSeq, tIfS, tTest, tOp, tUn, tCB, tCons, tNil, tVar, tC, rI0, rI, rU, rEq, rNe, tRet, tRetN, tAsg, gName, gSub, tBM, tBM0, tNext, tB, tNot, tAnd, tOr, tIf, tCall, tDrop, tBreak, tCont, L2.start, tDGet, sDPut, tTup, tLst, tDNewK, tRevL, rCat, rAppend, rPop, rSetL, tAndV, tOrV, tNotV, tSl, tPart, tNoPart, tM1, gTup, gCons, gNil, cxK, cxnK, List.map_cons, List.map_nil, List.length_cons, List.length_nil, List.replicate, List.cons_append, List.nil_append, List.append_nil, List.set_cons_zero, List.set_cons_succ, List.getElem?_cons_zero, List.getElem?_cons_succ, Option.some.injEq, V.ref.injEq, V.int.injEq, V.str.injEq, V.bl.injEq, V.ty.injEq, exists_eq_left', exists_eq_left, exists_and_left, List.cons.injEq, and_true, true_and, sc_ii, sc_ss, sc_bb, sc_ni, sc_in, sc_is, sc_si, sc_nn, decide_true, decide_false, reduceCtorEq, Bool.false_eq_true, if_true, if_false, ite_true, ite_false, exists_const, eq_self, false_and, and_false, or_false, false_or, exists_false, Evl.rLenS, rSum, wipe, tYes, exists_eq, exists_eq', rIxL, rIxT, rIxS, exists_and_right, gt_iff_lt, not_true_eq_false, not_false_eq_true, Bool.not_true, Bool.not_false, decide_eq_true_eq, Nat.reduceSub, Nat.reduceAdd, List.append_assoc, tChain, tDIn, tDNotIn, sDDel, tAug, ipI]
      exact kk
    · rintro σ H' ⟨c, rfl, k⟩
      try simp only [tSeq, tIfS, tTest, tOp, tUn, tCB, tCons, tNil, tVar, tC, rI0, rI, rU, rEq, rNe, tRet, tRetN, tAsg, gName, gSub, tBM, tBM0, tNext, tB, tNot, tAnd, tOr, tIf, tCall, tDrop, tBreak, tCont, L2.start, tDGet, sDPut, tTup, tLst, tDNewK, tRevL, rCat, rAppend, rPop, rSetL, tAndV, tOrV, tNotV, tSl, tPart, tNoPart, tM1, gTup, gCons, gNil, cxK, cxnK, List.map_cons, List.map_nil, List.length_cons, List.length_nil, List.replicate, List.cons_append, List.nil_append, List.append_nil, List.set_cons_zero, List.set_cons_succ, List.getElem?_cons_zero, List.getElem?_cons_succ, Option.some.injEq, V.ref.injEq, V.int.injEq, V.str.injEq, V.bl.injEq, V.ty.injEq, exists_eq_left', exists_eq_left, exists_and_left, List.cons.injEq, and_true, true_and, sc_ii, sc_ss, sc_bb, sc_ni, sc_in, sc_is, sc_si, sc_nn, decide_true, decide_false, reduceCtorEq, Bool.false_eq_true, if_true, if_false, ite_true, ite_false, exists_const, eq_self, false_and, and_false, or_false, false_or, exists_false, Evl.rLenS, rSum, wipe, tYes, exists_eq, exists_eq', rIxL, rIxT, rIxS, exists_and_right, gt_iff_lt, not_true_eq_false, not_false_eq_true, Bool.not_true, Bool.not_false, decide_eq_true_eq, Nat.reduceSub, Nat.reduceAdd, List.append_assoc, tChain, tDIn, tDNotIn, sDDel, tAug, ipI]
      exact q _ k
/-! ### some of the names -/
def spSome (K : PySem.W.Frag) : Sp := fun vs H Q _ => ∃ (a : Addr) (bits pl : Int) (zs : List Str), vs = [.ref a, .int bits, .int pl] ∧ SqL K H a (zs.map V.str) ∧ zs.length = 8 ∧
  ∀ (o : Addr) (ks : List Str) (H' : Hp), H o = none → H' o = some (.lst (ks.map V.str)) → ks.length ≤ 8 → (∀ k ∈ ks, k ∈ zs) → Kp [] H H' → Q (.ref o) H'
theorem ok_law_some {f : Addr} {fd : FuncData} (D : Df K mg "_law_some" s_law_some ["_law_names", "_law_bits", "_law_place"] f fd) (T : BtE mg) : FnOk P w K mg base CX0 1 f fd ["_law_names", "_law_bits", "_law_place"] (spSome K) := by
  refine D.F.ok sc_law_some (fun vs H Q E h => ?_) (fun cdv A outer s H vs Q E hr h => ?_)
  · obtain ⟨_, _, _, _, rfl, _⟩ := h
    rfl
  · obtain ⟨a, bits, pl, zs, rfl, hS, hl, q⟩ := h
    refine ⟨_, (pss_cons (ps_set (i := 3) sc_law_some.nd rfl (Or.inl rfl) (pe_lst pa_nil))
      (pss_cons (ps_for PassesOwn.never rfl (pi_range1 rfl T.b_range (pa_cons pe_int pa_nil)) (pg_name (i := 4) sc_law_some.nd rfl (Or.inl rfl)) (pss_cons (ps_if (PW.pt (pw_or (pt_cmpR op_eq (pe_op op_mod (pv 1) pe_int) pe_int (nomark _)) (pw_or1 (pt_cmpR op_eq (pv 4) (pv 2) (nomark _))))) (pss_one (ps_expr (pe_bm PySem.F.plainAttrs_list PySem.F.slot_list_append PySem.F.type_list_append mt_append (pv 3) (pa_cons (pe_ix (r := rIxL K) ix_list (pv 0) (pv 4) (fun _ _ => rfl)) pa_nil)))) pss_nil)
      (pss_one (ps_set (i := 1) sc_law_some.nd rfl (Or.inl rfl) (pe_op op_fdiv (pv 1) pe_int)))))
      (pss_one (ps_ret (pv 3))))), ?_⟩
    try simp only [tSeq, tIfS, tTest, tOp, tUn, tCB, tCons, tNil, tVar, tC, rI0, rI, rU, rEq, rNe, tRet, tRetN, tAsg, gName, gSub, tBM, tBM0, tNext, tB, tNot, tAnd, tOr, tIf, tCall, tDrop, tBreak, tCont, L2.start, tDGet, sDPut, tTup, tLst, tDNewK, tRevL, rCat, rAppend, rPop, rSetL, tAndV, tOrV, tNotV, tSl, tPart, tNoPart, tM1, gTup, gCons, gNil, cxK, cxnK, List.map_cons, List.map_nil, List.length_cons, List.length_nil, List.replicate, List.cons_append, List.nil_append, List.append_nil, List.set_cons_zero, List.set_cons_succ, List.getElem?_cons_zero, List.getElem?_cons_succ, Option.some.injEq, V.ref.injEq, V.int.injEq, V.str.injEq, V.bl.injEq, V.ty.injEq, exists_eq_left', exists_eq_left, exists_and_left, List.cons.injEq, and_true, true_and, sc_ii, sc_ss, sc_bb, sc_ni, sc_in, sc_is, sc_si, sc_nn, decide_true, decide_false, reduceCtorEq, Bool.false_eq_true, if_true, if_false, ite_true, ite_false, exists_const, eq_self, false_and, and_false, or_false, false_or, exists_false, Evl.rLenS, rSum, wipe, tYes, exists_eq, exists_eq', rIxL, rIxT, rIxS, exists_and_right, gt_iff_lt, not_true_eq_false, not_false_eq_true, Bool.not_true, Bool.not_false, decide_eq_true_eq, Nat.reduceSub, Nat.reduceAdd, List.append_assoc, tChain, tDIn, tDNotIn, sDDel, tAug, ipI]
    refine ⟨small (by decide), fun o no => ?_⟩
    refine forRg 8 (fun j σ H' => ∃ (bi : Int) (c : Option V) (ks : List Str), σ = [some (.ref a), some (.int bi), some (.int pl), some (.ref o), c] ∧ H' o = some (.lst (ks.map V.str)) ∧ ks.length ≤ j ∧ (∀ k ∈ ks, k ∈ zs) ∧ Kp [] H H') ?_ (by decide) (by decide) ⟨bits, none, [], rfl, upd_same, Nat.le_refl _, (fun k hk => nomatch hk), Kp.new no⟩ ?_ ?_
    · intro R hR
      try simp only [tSeq, tIfS, tTest, tOp, tUn, tCB, tCons, tNil, tVar, tC, rI0, rI, rU, rEq, rNe, tRet, tRetN, tAsg, gName, gSub, tBM, tBM0, tNext, tB, tNot, tAnd, tOr, tIf, tCall, tDrop, tBreak, tCont, L2.start, tDGet, sDPut, tTup, tLst, tDNewK, tRevL, rCat, rAppend, rPop, rSetL, tAndV, tOrV, tNotV, tSl, tPart, tNoPart, tM1, gTup, gCons, gNil, cxK, cxnK, List.map_cons, List.map_nil, List.length_cons, List.length_nil, List.replicate, List.cons_append, List.nil_append, List.append_nil, List.set_cons_zero, List.set_cons_succ, List.getElem?_cons_zero, List.getElem?_cons_succ, Option.some.injEq, V.ref.injEq, V.int.injEq, V.str.injEq, V.bl.injEq, V.ty.injEq, exists_eq_left', exists_eq_left, exists_and_left, List.cons.injEq, and_true, true_and, sc_ii, sc_ss, sc_bb, sc_ni, sc_in, sc_is, sc_si, sc_nn, decide_true, decide_false, reduceCtorEq, Bool.false_eq_true, if_true, if_false, ite_true, ite_false, exists_const, eq_self, false_and, and_false, or_false, false_or, exists_false, Evl.rLenS, rSum, wipe, tYes, exists_eq, exists_eq', rIxL, rIxT, rIxS, exists_and_right, gt_iff_lt, not_true_eq_false, not_false_eq_true, Bool.not_true, Bool.not_false, decide_eq_true_eq, Nat.reduceSub, Nat.reduceAdd, List.append_assoc, tChain, tDIn, tDNotIn, sDDel, tAug, ipI]
      exact hR
    · rintro j σ H' hj ⟨bi, c, ks, rfl, ho, hk, sub, k⟩
      try simp only [tSeq, tIfS, tTest, tOp, tUn, tCB, tCons, tNil, tVar, tC, rI0, rI, rU, rEq, rNe, tRet, tRetN, tAsg, gName, gSub, tBM, tBM0, tNext, tB, tNot, tAnd, tOr, tIf, tCall, tDrop, tBreak, tCont, L2.start, tDGet, sDPut, tTup, tLst, tDNewK, tRevL, rCat, rAppend, rPop, rSetL, tAndV, tOrV, tNotV, tSl, tPart, tNoPart, tM1, gTup, gCons, gNil, cxK, cxnK, List.map_cons, List.map_nil, List.length_cons, List.length_nil, List.replicate, List.cons_append, List.nil_append, List.append_nil, List.set_cons_zero, List.set_cons_succ, List.getElem?_cons_zero, List.getElem?_cons_succ, Option.some.injEq, V.ref.injEq, V.int.injEq, V.str.injEq, V.bl.injEq, V.ty.injEq, exists_eq_left', exists_eq_left, exists_and_left, List.cons.injEq, and_true, true_and, sc_ii, sc_ss, sc_bb, sc_ni, sc_in, sc_is, sc_si, sc_nn, decide_true, decide_false, reduceCtorEq, Bool.false_eq_true, if_true, if_false, ite_true, ite_false, exists_const, eq_self, false_and, and_false, or_false, false_or, exists_false, Evl.rLenS, rSum, wipe, tYes, exists_eq, exists_eq', rIxL, rIxT, rIxS, exists_and_right, gt_iff_lt, not_true_eq_false, not_false_eq_true, Bool.not_true, Bool.not_false, decide_eq_true_eq, Nat.reduceSub, Nat.reduceAdd, List.append_assoc, tChain, tDIn, tDNotIn, sDDel, tAug, ipI]
      have hj8 : j < 8 := hj
      have ix : (0 + (j : Int)) = ((j : Nat) : Int) := Int.zero_add _
      rw [ix]
      have hz : zs[j]? = some (zs[j]'(by omega)) := List.getElem?_eq_getElem _
      generalize zs[j]'(by omega) = z at hz
      have put : tyV K "list" (.ref o) H' ∧ ∃ x, SqL K H' a x ∧ ∃ y, atI x ((j : Nat) : Int) = some y ∧ ∃ x, H' o = some (.lst x) ∧ x.length < sizeLine ∧ CDiv bi 2 ∧ ∃ l : List Str, upd H' o (.lst (x ++ [y])) o = some (.lst (l.map V.str)) ∧ l.length ≤ j + 1 ∧ (∀ k : Str, k ∈ l → k ∈ zs) ∧ Kp [] H (upd H' o (.lst (x ++ [y]))) := by
        refine ⟨.inl ⟨rfl, _, sq_l ho⟩, _, k.ls not0 hS, .str z, atI_nat (by rw [List.getElem?_map, hz]; rfl), _, ho, ?_, ⟨by decide, by decide⟩, ks ++ [z], ?_, ?_, ?_, k.wr no⟩
        · rw [List.length_map]; exact smallL (by omega)
        · rw [upd_same, List.map_append]; rfl
        · rw [List.length_append, List.length_singleton]; omega
        · intro u hu
          rcases List.mem_append.mp hu with hu | hu
          · exact sub u hu
          · rw [List.mem_singleton.mp hu]; exact List.mem_of_getElem? hz
      exact ⟨by decide, ite2 (fun _ => put) fun _ => ite2 (fun _ => put) fun _ => ⟨⟨by decide, by decide⟩, ks, ho, by omega, sub, k⟩⟩
    · rintro σ H' ⟨bi, c, ks, rfl, ho, hk, sub, k⟩
      try simp only [tSeq, tIfS, tTest, tOp, tUn, tCB, tCons, tNil, tVar, tC, rI0, rI, rU, rEq, rNe, tRet, tRetN, tAsg, gName, gSub, tBM, tBM0, tNext, tB, tNot, tAnd, tOr, tIf, tCall, tDrop, tBreak, tCont, L2.start, tDGet, sDPut, tTup, tLst, tDNewK, tRevL, rCat, rAppend, rPop, rSetL, tAndV, tOrV, tNotV, tSl, tPart, tNoPart, tM1, gTup, gCons, gNil, cxK, cxnK, List.map_cons, List.map_nil, List.length_cons, List.length_nil, List.replicate, List.cons_append, List.nil_append, List.append_nil, List.set_cons_zero, List.set_cons_succ, List.getElem?_cons_zero, List.getElem?_cons_succ, Option.some.injEq, V.ref.injEq, V.int.injEq, V.str.injEq, V.bl.injEq, V.ty.injEq, exists_eq_left', exists_eq_left, exists_and_left, List.cons.injEq, and_true, true_and, sc_ii, sc_ss, sc_bb, sc_ni, sc_in, sc_is, sc_si, sc_nn, decide_true, decide_false, reduceCtorEq, Bool.false_eq_true, if_true, if_false, ite_true, ite_false, exists_const, eq_self, false_and, and_false, or_false, false_or, exists_false, Evl.rLenS, rSum, wipe, tYes, exists_eq, exists_eq', rIxL, rIxT, rIxS, exists_and_right, gt_iff_lt, not_true_eq_false, not_false_eq_true, Bool.not_true, Bool.not_false, decide_eq_true_eq, Nat.reduceSub, Nat.reduceAdd, List.append_assoc, tChain, tDIn, tDNotIn, sDDel, tAug, ipI]
      exact q o ks H' no ho hk sub k
/-! ### what is due -/
def outT : Out → List V
  | .cl i => [.str "client", .int i, .bl true]
  | .nm z => [.str "name", .str z, .bl true]
  | .ok => [.str "let", .non]
theorem inV_int {z : Int} : ∀ {ks : List Int}, inV (.int z) (ks.map V.int) = decide (z ∈ ks)
  | [] => rfl
  | k :: ks => by
    have e : inV (.int z) ((k :: ks).map V.int) = ((k == z) || inV (.int z) (ks.map V.int)) := rfl
    rw [e, inV_int (ks := ks)]
    by_cases h : k = z
    · rw [h, beq_self_eq_true, Bool.true_or, decide_eq_true List.mem_cons_self]
    · rw [beq_eq_false_iff_ne.mpr h, Bool.false_or]
      refine decide_eq_decide.mpr ⟨fun q => List.mem_cons_of_mem _ q, fun q => ?_⟩
      rcases List.mem_cons.mp q with q | q
      · exact absurd q.symm h
      · exact q
theorem flat_ints (ys : List Int) : (ys.map V.int).all flatV = true := by
  rw [List.all_map]
  exact List.all_eq_true.mpr fun _ _ => rfl
def spDue (K : PySem.W.Frag) : Sp := fun vs H Q _ => ∃ (a b c : Addr) (xs : List V) (ds : List PyData) (is : List Int) (ks : List Str), vs = [.ref a, .ref b, .ref c] ∧ SqL K H a xs ∧ DqAll H xs ds ∧ ds.length ≤ 1000 ∧ SqL K H b (is.map V.int) ∧ SqL K H c (ks.map V.str) ∧
  (∀ (i : Nat) (d : PyData), ds[i]? = some d → i < 3 → ((i : Int) ∈ is ↔ callerD d = false)) ∧ ∀ (o : Addr) (H' : Hp), H' o = some (.tup (outT (due ds ks))) → Kp [] H H' → Q (.ref o) H'
def Du1 (a b c : Addr) (H : Hp) (ds : List PyData) (i : Nat) (σ : L2.St) (H' : Hp) : Prop := ∃ c1, σ = [some (.ref a), some (.ref b), some (.ref c), c1, none, none, none, none] ∧ Kp [] H H' ∧ ∀ j e, j < i → ds[j]? = some e → badAt j e = false
def Du2 (a b c : Addr) (H : Hp) (ds : List PyData) (ks : List Str) (i : Nat) (σ : L2.St) (H' : Hp) : Prop := ∃ c1 c3 c4 c5 c6, σ = [some (.ref a), some (.ref b), some (.ref c), c1, c3, c4, c5, c6] ∧ Kp [] H H' ∧ ∀ z ∈ (ds.take i).flatMap namesC, z ∈ ks
def Du3 (a b c m : Addr) (v : V) (H : Hp) (ms : List PyData) (ks : List Str) (i : Nat) (σ : L2.St) (H' : Hp) : Prop := ∃ c1 c5 c6, σ = [some (.ref a), some (.ref b), some (.ref c), c1, some (.ref m), some v, c5, c6] ∧ Kp [] H H' ∧ ∀ z ∈ (ms.take i).flatMap namesM, z ∈ ks
def Du4 (a b c m n : Addr) (v : V) (H : Hp) (zs : List Str) (ks : List Str) (i : Nat) (σ : L2.St) (H' : Hp) : Prop := ∃ c1 c6, σ = [some (.ref a), some (.ref b), some (.ref c), c1, some (.ref m), some v, some (.ref n), c6] ∧ Kp [] H H' ∧ ∀ z ∈ zs.take i, z ∈ ks
theorem ok_law_due {f : Addr} {fd : FuncData} (D : Df K mg "_law_due" s_law_due ["_law_client", "_law_spoilt_here", "_law_known"] f fd) (T : BtE mg) : FnOk P w K mg base CX0 1 f fd ["_law_client", "_law_spoilt_here", "_law_known"] (spDue K) := by
  refine D.F.ok sc_law_due (fun vs H Q E h => ?_) (fun cdv A outer s H vs Q E hr h => ?_)
  · obtain ⟨_, _, _, _, _, _, _, rfl, _⟩ := h
    rfl
  · obtain ⟨a, b, c, xs, ds, is, ks, rfl, hS, hD, hl, hB, hK, hsp, q⟩ := h
    have hxl := hD.len
    have out : ∀ {o : Out} {H1 : Hp}, due ds ks = o → Kp [] H H1 → ∀ p, H1 p = none → Q (.ref p) (upd H1 p (.tup (outT o))) := by
      intro o H1 e k p np
      rw [← e]
      exact q p _ upd_same (k.trans (Kp.new np))
    refine ⟨_, (pss_cons (ps_for PassesOwn.never rfl (pi_range1 rfl T.b_range (pa_cons (pe_callB (id := "len") (r := Evl.rLenS K) call_len_seq (by rfl) T.b_len PySem.boot_len (pa_cons (pv 0) pa_nil)) pa_nil)) (pg_name (i := 3) sc_law_due.nd rfl (Or.inl rfl)) (pss_one (ps_if (PW.pt (pw_or (pt_cmpR op_eq (pv 3) pe_int (nomark _)) (pw_or1 (pt_cmpR op_in_seq (pv 3) (pv 1) (by rfl))))) (pss_one (ps_ret (pe_tup (pa_cons pe_str (pa_cons (pv 3) (pa_cons pe_bl pa_nil)))))) pss_nil)))
      (pss_cons (ps_if (pt_cmpR op_eq (pe_callB (id := "len") (r := Evl.rLenS K) call_len_seq (by rfl) T.b_len PySem.boot_len (pa_cons (pv 0) pa_nil)) pe_int (nomark _)) (pss_one (ps_ret (pe_tup (pa_cons pe_str (pa_cons pe_int (pa_cons pe_bl pa_nil)))))) pss_nil)
      (pss_cons (ps_for PassesOwn.never rfl (pi_list (pv 0)) (pg_tup (n := 2) (by rfl) (pgs_cons (pg_name (i := 4) sc_law_due.nd rfl (Or.inl rfl)) (pgs_cons (pg_name (i := 5) sc_law_due.nd rfl (Or.inl rfl)) pgs_nil))) (pss_one (ps_for PassesOwn.never rfl (pi_tup (pv 4)) (pg_name (i := 6) sc_law_due.nd rfl (Or.inl rfl)) (pss_one (ps_for PassesOwn.never rfl (pi_tup (pv 6)) (pg_name (i := 7) sc_law_due.nd rfl (Or.inl rfl)) (pss_one (ps_if (pt_cmpR op_notIn_seq (pv 7) (pv 2) (by rfl)) (pss_one (ps_ret (pe_tup (pa_cons pe_str (pa_cons (pv 7) (pa_cons pe_bl pa_nil)))))) pss_nil)))))))
      (pss_one (ps_ret (pe_tup (pa_cons pe_str (pa_cons pe_non pa_nil)))))))), ?_⟩
    try simp only [tSeq, tIfS, tTest, tOp, tUn, tCB, tCons, tNil, tVar, tC, rI0, rI, rU, rEq, rNe, tRet, tRetN, tAsg, gName, gSub, tBM, tBM0, tNext, tB, tNot, tAnd, tOr, tIf, tCall, tDrop, tBreak, tCont, L2.start, tDGet, sDPut, tTup, tLst, tDNewK, tRevL, rCat, rAppend, rPop, rSetL, tAndV, tOrV, tNotV, tSl, tPart, tNoPart, tM1, gTup, gCons, gNil, cxK, cxnK, List.map_cons, List.map_nil, List.length_cons, List.length_nil, List.replicate, List.cons_append, List.nil_append, List.append_nil, List.set_cons_zero, List.set_cons_succ, List.getElem?_cons_zero, List.getElem?_cons_succ, Option.some.injEq, V.ref.injEq, V.int.injEq, V.str.injEq, V.bl.injEq, V.ty.injEq, exists_eq_left', exists_eq_left, exists_and_left, List.cons.injEq, and_true, true_and, sc_ii, sc_ss, sc_bb, sc_ni, sc_in, sc_is, sc_si, sc_nn, decide_true, decide_false, reduceCtorEq, Bool.false_eq_true, if_true, if_false, ite_true, ite_false, exists_const, eq_self, false_and, and_false, or_false, false_or, exists_false, Evl.rLenS, rSum, wipe, tYes, exists_eq, exists_eq', rIxL, rIxT, rIxS, exists_and_right, gt_iff_lt, not_true_eq_false, not_false_eq_true, Bool.not_true, Bool.not_false, decide_eq_true_eq, Nat.reduceSub, Nat.reduceAdd, List.append_assoc, tChain, tDIn, tDNotIn, sDDel, tAug, ipI]
    refine forRg ((xs.length : Nat) : Int) (Du1 a b c H ds) ?_ (by omega) (by omega) ⟨none, rfl, Kp.refl _ _, fun j e hj => absurd hj (Nat.not_lt_zero j)⟩ ?_ ?_
    · intro R hR
      try simp only [tSeq, tIfS, tTest, tOp, tUn, tCB, tCons, tNil, tVar, tC, rI0, rI, rU, rEq, rNe, tRet, tRetN, tAsg, gName, gSub, tBM, tBM0, tNext, tB, tNot, tAnd, tOr, tIf, tCall, tDrop, tBreak, tCont, L2.start, tDGet, sDPut, tTup, tLst, tDNewK, tRevL, rCat, rAppend, rPop, rSetL, tAndV, tOrV, tNotV, tSl, tPart, tNoPart, tM1, gTup, gCons, gNil, cxK, cxnK, List.map_cons, List.map_nil, List.length_cons, List.length_nil, List.replicate, List.cons_append, List.nil_append, List.append_nil, List.set_cons_zero, List.set_cons_succ, List.getElem?_cons_zero, List.getElem?_cons_succ, Option.some.injEq, V.ref.injEq, V.int.injEq, V.str.injEq, V.bl.injEq, V.ty.injEq, exists_eq_left', exists_eq_left, exists_and_left, List.cons.injEq, and_true, true_and, sc_ii, sc_ss, sc_bb, sc_ni, sc_in, sc_is, sc_si, sc_nn, decide_true, decide_false, reduceCtorEq, Bool.false_eq_true, if_true, if_false, ite_true, ite_false, exists_const, eq_self, false_and, and_false, or_false, false_or, exists_false, Evl.rLenS, rSum, wipe, tYes, exists_eq, exists_eq', rIxL, rIxT, rIxS, exists_and_right, gt_iff_lt, not_true_eq_false, not_false_eq_true, Bool.not_true, Bool.not_false, decide_eq_true_eq, Nat.reduceSub, Nat.reduceAdd, List.append_assoc, tChain, tDIn, tDNotIn, sDDel, tAug, ipI]
      exact ⟨xs, .inl hS, hR⟩
    · rintro i σ H2 hi ⟨c1, rfl, k2, hg⟩
      have hi' : i < ds.length := by omega
      have ed : ds[i]? = some ds[i] := List.getElem?_eq_getElem hi'
      generalize ds[i] = d at ed
      try simp only [tSeq, tIfS, tTest, tOp, tUn, tCB, tCons, tNil, tVar, tC, rI0, rI, rU, rEq, rNe, tRet, tRetN, tAsg, gName, gSub, tBM, tBM0, tNext, tB, tNot, tAnd, tOr, tIf, tCall, tDrop, tBreak, tCont, L2.start, tDGet, sDPut, tTup, tLst, tDNewK, tRevL, rCat, rAppend, rPop, rSetL, tAndV, tOrV, tNotV, tSl, tPart, tNoPart, tM1, gTup, gCons, gNil, cxK, cxnK, List.map_cons, List.map_nil, List.length_cons, List.length_nil, List.replicate, List.cons_append, List.nil_append, List.append_nil, List.set_cons_zero, List.set_cons_succ, List.getElem?_cons_zero, List.getElem?_cons_succ, Option.some.injEq, V.ref.injEq, V.int.injEq, V.str.injEq, V.bl.injEq, V.ty.injEq, exists_eq_left', exists_eq_left, exists_and_left, List.cons.injEq, and_true, true_and, sc_ii, sc_ss, sc_bb, sc_ni, sc_in, sc_is, sc_si, sc_nn, decide_true, decide_false, reduceCtorEq, Bool.false_eq_true, if_true, if_false, ite_true, ite_false, exists_const, eq_self, false_and, and_false, or_false, false_or, exists_false, Evl.rLenS, rSum, wipe, tYes, exists_eq, exists_eq', rIxL, rIxT, rIxS, exists_and_right, gt_iff_lt, not_true_eq_false, not_false_eq_true, Bool.not_true, Bool.not_false, decide_eq_true_eq, Nat.reduceSub, Nat.reduceAdd, List.append_assoc, tChain, tDIn, tDNotIn, sDDel, tAug, ipI]
      have ix : (0 + (i : Int)) = ((i : Nat) : Int) := Int.zero_add _
      rw [ix]
      refine ite2 (fun h3 => ?_) (fun h3 => ?_)
      · have e3 : i = 3 := by omega
        exact ⟨small (by decide), out (o := .cl i) (due_cl ed hg (by unfold badAt; rw [e3]; rfl)) k2⟩
      · have e3 : (i == 3) = false := beq_eq_false_iff_ne.mpr fun z => h3 (by rw [z]; rfl)
        refine ⟨b, _, rfl, .inl (k2.ls not0 hB), rfl, flat_ints is, _, rfl, ?_⟩
        rw [inV_int]
        have g4 : ∀ j, j < i → j ≠ 3 := fun j hj z => by
          obtain ⟨e, he⟩ : ∃ e, ds[j]? = some e := ⟨_, List.getElem?_eq_getElem (show j < ds.length by omega)⟩
          have z0 := hg j e hj he
          unfold badAt at z0
          rw [z] at z0
          cases z0
        have i3 : i < 3 := by
          by_cases h : i < 3
          · exact h
          · exact absurd rfl (g4 3 (by
              have : i ≠ 3 := fun z => h3 (by rw [z]; rfl)
              omega))
        have key := hsp i d ed i3
        by_cases hm : (i : Int) ∈ is
        · rw [decide_eq_true hm]
          try simp only [tSeq, tIfS, tTest, tOp, tUn, tCB, tCons, tNil, tVar, tC, rI0, rI, rU, rEq, rNe, tRet, tRetN, tAsg, gName, gSub, tBM, tBM0, tNext, tB, tNot, tAnd, tOr, tIf, tCall, tDrop, tBreak, tCont, L2.start, tDGet, sDPut, tTup, tLst, tDNewK, tRevL, rCat, rAppend, rPop, rSetL, tAndV, tOrV, tNotV, tSl, tPart, tNoPart, tM1, gTup, gCons, gNil, cxK, cxnK, List.map_cons, List.map_nil, List.length_cons, List.length_nil, List.replicate, List.cons_append, List.nil_append, List.append_nil, List.set_cons_zero, List.set_cons_succ, List.getElem?_cons_zero, List.getElem?_cons_succ, Option.some.injEq, V.ref.injEq, V.int.injEq, V.str.injEq, V.bl.injEq, V.ty.injEq, exists_eq_left', exists_eq_left, exists_and_left, List.cons.injEq, and_true, true_and, sc_ii, sc_ss, sc_bb, sc_ni, sc_in, sc_is, sc_si, sc_nn, decide_true, decide_false, reduceCtorEq, Bool.false_eq_true, if_true, if_false, ite_true, ite_false, exists_const, eq_self, false_and, and_false, or_false, false_or, exists_false, Evl.rLenS, rSum, wipe, tYes, exists_eq, exists_eq', rIxL, rIxT, rIxS, exists_and_right, gt_iff_lt, not_true_eq_false, not_false_eq_true, Bool.not_true, Bool.not_false, decide_eq_true_eq, Nat.reduceSub, Nat.reduceAdd, List.append_assoc, tChain, tDIn, tDNotIn, sDDel, tAug, ipI]
          exact ⟨small (by decide), out (o := .cl i) (due_cl ed hg (by unfold badAt; rw [key.mp hm, e3]; rfl)) k2⟩
        · rw [decide_eq_false hm]
          try simp only [tSeq, tIfS, tTest, tOp, tUn, tCB, tCons, tNil, tVar, tC, rI0, rI, rU, rEq, rNe, tRet, tRetN, tAsg, gName, gSub, tBM, tBM0, tNext, tB, tNot, tAnd, tOr, tIf, tCall, tDrop, tBreak, tCont, L2.start, tDGet, sDPut, tTup, tLst, tDNewK, tRevL, rCat, rAppend, rPop, rSetL, tAndV, tOrV, tNotV, tSl, tPart, tNoPart, tM1, gTup, gCons, gNil, cxK, cxnK, List.map_cons, List.map_nil, List.length_cons, List.length_nil, List.replicate, List.cons_append, List.nil_append, List.append_nil, List.set_cons_zero, List.set_cons_succ, List.getElem?_cons_zero, List.getElem?_cons_succ, Option.some.injEq, V.ref.injEq, V.int.injEq, V.str.injEq, V.bl.injEq, V.ty.injEq, exists_eq_left', exists_eq_left, exists_and_left, List.cons.injEq, and_true, true_and, sc_ii, sc_ss, sc_bb, sc_ni, sc_in, sc_is, sc_si, sc_nn, decide_true, decide_false, reduceCtorEq, Bool.false_eq_true, if_true, if_false, ite_true, ite_false, exists_const, eq_self, false_and, and_false, or_false, false_or, exists_false, Evl.rLenS, rSum, wipe, tYes, exists_eq, exists_eq', rIxL, rIxT, rIxS, exists_and_right, gt_iff_lt, not_true_eq_false, not_false_eq_true, Bool.not_true, Bool.not_false, decide_eq_true_eq, Nat.reduceSub, Nat.reduceAdd, List.append_assoc, tChain, tDIn, tDNotIn, sDDel, tAug, ipI]
          have hc : callerD d = true := by
            cases z : callerD d with
            | true => rfl
            | false => exact absurd (key.mpr z) hm
          refine ⟨_, rfl, k2, fun j e hj he => ?_⟩
          by_cases ej : j = i
          · rw [ej] at he
            rw [ed] at he
            cases he
            unfold badAt
            rw [ej, hc, e3]; rfl
          · exact hg j e (by omega) he
    · rintro σ H2 ⟨c1, rfl, k2, hg⟩
      have hgA : ∀ j e, ds[j]? = some e → badAt j e = false := fun j e he => hg j e (by
        have := (List.getElem?_eq_some_iff.mp he).1
        omega) he
      try simp only [tSeq, tIfS, tTest, tOp, tUn, tCB, tCons, tNil, tVar, tC, rI0, rI, rU, rEq, rNe, tRet, tRetN, tAsg, gName, gSub, tBM, tBM0, tNext, tB, tNot, tAnd, tOr, tIf, tCall, tDrop, tBreak, tCont, L2.start, tDGet, sDPut, tTup, tLst, tDNewK, tRevL, rCat, rAppend, rPop, rSetL, tAndV, tOrV, tNotV, tSl, tPart, tNoPart, tM1, gTup, gCons, gNil, cxK, cxnK, List.map_cons, List.map_nil, List.length_cons, List.length_nil, List.replicate, List.cons_append, List.nil_append, List.append_nil, List.set_cons_zero, List.set_cons_succ, List.getElem?_cons_zero, List.getElem?_cons_succ, Option.some.injEq, V.ref.injEq, V.int.injEq, V.str.injEq, V.bl.injEq, V.ty.injEq, exists_eq_left', exists_eq_left, exists_and_left, List.cons.injEq, and_true, true_and, sc_ii, sc_ss, sc_bb, sc_ni, sc_in, sc_is, sc_si, sc_nn, decide_true, decide_false, reduceCtorEq, Bool.false_eq_true, if_true, if_false, ite_true, ite_false, exists_const, eq_self, false_and, and_false, or_false, false_or, exists_false, Evl.rLenS, rSum, wipe, tYes, exists_eq, exists_eq', rIxL, rIxT, rIxS, exists_and_right, gt_iff_lt, not_true_eq_false, not_false_eq_true, Bool.not_true, Bool.not_false, decide_eq_true_eq, Nat.reduceSub, Nat.reduceAdd, List.append_assoc, tChain, tDIn, tDNotIn, sDDel, tAug, ipI]
      refine ⟨xs, .inl (k2.ls not0 hS), ?_⟩
      refine ite2 (fun h0 => ?_) (fun h0 => ?_)
      · have e0 : ds = [] := List.eq_nil_of_length_eq_zero (by omega)
        exact ⟨small (by decide), out (o := .cl 0) (by unfold due; rw [if_pos e0]) k2⟩
      have ne : ds ≠ [] := fun z => by
        rw [z] at hxl
        rw [hxl] at h0
        exact h0 rfl
      refine forL (K := K) (a := a) (xs := xs) (Du2 a b c H ds ks) rfl (k2.ls not0 hS) ⟨_, _, _, _, _, rfl, k2, fun z hz => nomatch hz⟩ (fun i σ H3 _ h => by
        obtain ⟨_, _, _, _, _, _, k, _⟩ := h
        exact k.ls not0 hS) ?_ ?_
      · rintro i x σ H3 hx ⟨c1, c3, c4, c5, c6, rfl, k3, hn⟩
        obtain ⟨d, ed, hq⟩ := hD.get hx
        have g0 := hgA i d ed
        have hc : callerD d = true := by
          unfold badAt at g0
          cases z : callerD d with
          | true => rfl
          | false => rw [z] at g0; cases h : i == 3 <;> rw [h] at g0 <;> cases g0
        obtain ⟨ms, bb, rfl, m1, m4, hms⟩ := callerD_parts hc
        cases hq with
        | tup et ht =>
        cases ht with
        | cons h1 ht =>
        cases ht with
        | cons h2 ht =>
        cases ht
        cases h1 with
        | @tup m ys _ em hm =>
        cases h2
        try simp only [tSeq, tIfS, tTest, tOp, tUn, tCB, tCons, tNil, tVar, tC, rI0, rI, rU, rEq, rNe, tRet, tRetN, tAsg, gName, gSub, tBM, tBM0, tNext, tB, tNot, tAnd, tOr, tIf, tCall, tDrop, tBreak, tCont, L2.start, tDGet, sDPut, tTup, tLst, tDNewK, tRevL, rCat, rAppend, rPop, rSetL, tAndV, tOrV, tNotV, tSl, tPart, tNoPart, tM1, gTup, gCons, gNil, cxK, cxnK, List.map_cons, List.map_nil, List.length_cons, List.length_nil, List.replicate, List.cons_append, List.nil_append, List.append_nil, List.set_cons_zero, List.set_cons_succ, List.getElem?_cons_zero, List.getElem?_cons_succ, Option.some.injEq, V.ref.injEq, V.int.injEq, V.str.injEq, V.bl.injEq, V.ty.injEq, exists_eq_left', exists_eq_left, exists_and_left, List.cons.injEq, and_true, true_and, sc_ii, sc_ss, sc_bb, sc_ni, sc_in, sc_is, sc_si, sc_nn, decide_true, decide_false, reduceCtorEq, Bool.false_eq_true, if_true, if_false, ite_true, ite_false, exists_const, eq_self, false_and, and_false, or_false, false_or, exists_false, Evl.rLenS, rSum, wipe, tYes, exists_eq, exists_eq', rIxL, rIxT, rIxS, exists_and_right, gt_iff_lt, not_true_eq_false, not_false_eq_true, Bool.not_true, Bool.not_false, decide_eq_true_eq, Nat.reduceSub, Nat.reduceAdd, List.append_assoc, tChain, tDIn, tDNotIn, sDDel, tAug, ipI]
        refine ⟨_, sq_t (k3 _ _ not0 et), rfl, _, _, rfl, _, _, rfl, rfl, ?_⟩
        have eC : namesC (.tuple [.tuple ms, .bool bb]) = ms.flatMap namesM := rfl
        have hml := hm.len
        refine forT (K := K) (a := m) (xs := ys) (Du3 a b c m (.bl bb) H ms ks) rfl (k3.tp not0 (sq_t em)) ⟨_, _, _, rfl, k3, fun z hz => nomatch hz⟩ (fun j σ H4 _ h => by
          obtain ⟨_, _, _, _, k, _⟩ := h
          exact k.tp not0 (sq_t em)) ?_ ?_
        · rintro j y σ H4 hy ⟨c1, c5, c6, rfl, k4, hn2⟩
          obtain ⟨md, em2, hqm⟩ := hm.get hy
          obtain ⟨zs, rfl, z1, z6, znm, znd⟩ := menuD_parts (hms md (List.mem_of_getElem? em2))
          cases hqm with
          | @tup n ws _ en hw =>
          have ew := strs_of hw znm
          have eM : namesM (.tuple zs) = zs.map strD := rfl
          try simp only [tSeq, tIfS, tTest, tOp, tUn, tCB, tCons, tNil, tVar, tC, rI0, rI, rU, rEq, rNe, tRet, tRetN, tAsg, gName, gSub, tBM, tBM0, tNext, tB, tNot, tAnd, tOr, tIf, tCall, tDrop, tBreak, tCont, L2.start, tDGet, sDPut, tTup, tLst, tDNewK, tRevL, rCat, rAppend, rPop, rSetL, tAndV, tOrV, tNotV, tSl, tPart, tNoPart, tM1, gTup, gCons, gNil, cxK, cxnK, List.map_cons, List.map_nil, List.length_cons, List.length_nil, List.replicate, List.cons_append, List.nil_append, List.append_nil, List.set_cons_zero, List.set_cons_succ, List.getElem?_cons_zero, List.getElem?_cons_succ, Option.some.injEq, V.ref.injEq, V.int.injEq, V.str.injEq, V.bl.injEq, V.ty.injEq, exists_eq_left', exists_eq_left, exists_and_left, List.cons.injEq, and_true, true_and, sc_ii, sc_ss, sc_bb, sc_ni, sc_in, sc_is, sc_si, sc_nn, decide_true, decide_false, reduceCtorEq, Bool.false_eq_true, if_true, if_false, ite_true, ite_false, exists_const, eq_self, false_and, and_false, or_false, false_or, exists_false, Evl.rLenS, rSum, wipe, tYes, exists_eq, exists_eq', rIxL, rIxT, rIxS, exists_and_right, gt_iff_lt, not_true_eq_false, not_false_eq_true, Bool.not_true, Bool.not_false, decide_eq_true_eq, Nat.reduceSub, Nat.reduceAdd, List.append_assoc, tChain, tDIn, tDNotIn, sDDel, tAug, ipI]
          refine forT (K := K) (a := n) (xs := ws) (Du4 a b c m n (.bl bb) H (zs.map strD) ks) rfl (k4.tp not0 (sq_t en)) ⟨_, _, rfl, k4, fun z hz => nomatch hz⟩ (fun l σ H5 _ h => by
            obtain ⟨_, _, _, k, _⟩ := h
            exact k.tp not0 (sq_t en)) ?_ ?_
          · rintro l x σ H5 hx ⟨c1, c6, rfl, k5, hn3⟩
            rw [ew, List.getElem?_map] at hx
            obtain ⟨z, hz, rfl⟩ : ∃ z, (zs.map strD)[l]? = some z ∧ x = V.str z := by
              cases e : (zs.map strD)[l]? with
              | none => rw [e] at hx; cases hx
              | some z => rw [e] at hx; exact ⟨z, rfl, (Option.some.inj hx).symm⟩
            try simp only [tSeq, tIfS, tTest, tOp, tUn, tCB, tCons, tNil, tVar, tC, rI0, rI, rU, rEq, rNe, tRet, tRetN, tAsg, gName, gSub, tBM, tBM0, tNext, tB, tNot, tAnd, tOr, tIf, tCall, tDrop, tBreak, tCont, L2.start, tDGet, sDPut, tTup, tLst, tDNewK, tRevL, rCat, rAppend, rPop, rSetL, tAndV, tOrV, tNotV, tSl, tPart, tNoPart, tM1, gTup, gCons, gNil, cxK, cxnK, List.map_cons, List.map_nil, List.length_cons, List.length_nil, List.replicate, List.cons_append, List.nil_append, List.append_nil, List.set_cons_zero, List.set_cons_succ, List.getElem?_cons_zero, List.getElem?_cons_succ, Option.some.injEq, V.ref.injEq, V.int.injEq, V.str.injEq, V.bl.injEq, V.ty.injEq, exists_eq_left', exists_eq_left, exists_and_left, List.cons.injEq, and_true, true_and, sc_ii, sc_ss, sc_bb, sc_ni, sc_in, sc_is, sc_si, sc_nn, decide_true, decide_false, reduceCtorEq, Bool.false_eq_true, if_true, if_false, ite_true, ite_false, exists_const, eq_self, false_and, and_false, or_false, false_or, exists_false, Evl.rLenS, rSum, wipe, tYes, exists_eq, exists_eq', rIxL, rIxT, rIxS, exists_and_right, gt_iff_lt, not_true_eq_false, not_false_eq_true, Bool.not_true, Bool.not_false, decide_eq_true_eq, Nat.reduceSub, Nat.reduceAdd, List.append_assoc, tChain, tDIn, tDNotIn, sDDel, tAug, ipI]
            refine ⟨c, _, rfl, .inl (k5.ls not0 hK), rfl, flat_strs ks, _, rfl, ?_⟩
            rw [inV_str]
            by_cases hzk : z ∈ ks
            · rw [decide_eq_true hzk]
              try simp only [tSeq, tIfS, tTest, tOp, tUn, tCB, tCons, tNil, tVar, tC, rI0, rI, rU, rEq, rNe, tRet, tRetN, tAsg, gName, gSub, tBM, tBM0, tNext, tB, tNot, tAnd, tOr, tIf, tCall, tDrop, tBreak, tCont, L2.start, tDGet, sDPut, tTup, tLst, tDNewK, tRevL, rCat, rAppend, rPop, rSetL, tAndV, tOrV, tNotV, tSl, tPart, tNoPart, tM1, gTup, gCons, gNil, cxK, cxnK, List.map_cons, List.map_nil, List.length_cons, List.length_nil, List.replicate, List.cons_append, List.nil_append, List.append_nil, List.set_cons_zero, List.set_cons_succ, List.getElem?_cons_zero, List.getElem?_cons_succ, Option.some.injEq, V.ref.injEq, V.int.injEq, V.str.injEq, V.bl.injEq, V.ty.injEq, exists_eq_left', exists_eq_left, exists_and_left, List.cons.injEq, and_true, true_and, sc_ii, sc_ss, sc_bb, sc_ni, sc_in, sc_is, sc_si, sc_nn, decide_true, decide_false, reduceCtorEq, Bool.false_eq_true, if_true, if_false, ite_true, ite_false, exists_const, eq_self, false_and, and_false, or_false, false_or, exists_false, Evl.rLenS, rSum, wipe, tYes, exists_eq, exists_eq', rIxL, rIxT, rIxS, exists_and_right, gt_iff_lt, not_true_eq_false, not_false_eq_true, Bool.not_true, Bool.not_false, decide_eq_true_eq, Nat.reduceSub, Nat.reduceAdd, List.append_assoc, tChain, tDIn, tDNotIn, sDDel, tAug, ipI]
              refine ⟨_, _, rfl, k5, fun u hu => ?_⟩
              rw [take_snoc hz] at hu
              rcases List.mem_append.mp hu with hu | hu
              · exact hn3 u hu
              · rw [List.mem_singleton.mp hu]; exact hzk
            · rw [decide_eq_false hzk]
              try simp only [tSeq, tIfS, tTest, tOp, tUn, tCB, tCons, tNil, tVar, tC, rI0, rI, rU, rEq, rNe, tRet, tRetN, tAsg, gName, gSub, tBM, tBM0, tNext, tB, tNot, tAnd, tOr, tIf, tCall, tDrop, tBreak, tCont, L2.start, tDGet, sDPut, tTup, tLst, tDNewK, tRevL, rCat, rAppend, rPop, rSetL, tAndV, tOrV, tNotV, tSl, tPart, tNoPart, tM1, gTup, gCons, gNil, cxK, cxnK, List.map_cons, List.map_nil, List.length_cons, List.length_nil, List.replicate, List.cons_append, List.nil_append, List.append_nil, List.set_cons_zero, List.set_cons_succ, List.getElem?_cons_zero, List.getElem?_cons_succ, Option.some.injEq, V.ref.injEq, V.int.injEq, V.str.injEq, V.bl.injEq, V.ty.injEq, exists_eq_left', exists_eq_left, exists_and_left, List.cons.injEq, and_true, true_and, sc_ii, sc_ss, sc_bb, sc_ni, sc_in, sc_is, sc_si, sc_nn, decide_true, decide_false, reduceCtorEq, Bool.false_eq_true, if_true, if_false, ite_true, ite_false, exists_const, eq_self, false_and, and_false, or_false, false_or, exists_false, Evl.rLenS, rSum, wipe, tYes, exists_eq, exists_eq', rIxL, rIxT, rIxS, exists_and_right, gt_iff_lt, not_true_eq_false, not_false_eq_true, Bool.not_true, Bool.not_false, decide_eq_true_eq, Nat.reduceSub, Nat.reduceAdd, List.append_assoc, tChain, tDIn, tDNotIn, sDDel, tAug, ipI]
              have el : (zs.map strD) = (zs.map strD).take l ++ z :: (zs.map strD).drop (l + 1) := by
                have hi := (List.getElem?_eq_some_iff.mp hz).1
                rw [← (List.getElem?_eq_some_iff.mp hz).2, ← List.drop_eq_getElem_cons hi, List.take_append_drop]
              refine ⟨small (by decide), out (o := .nm z) (due_nm (pre := (ds.take i).flatMap namesC ++ ((ms.take j).flatMap namesM ++ (zs.map strD).take l)) (post := ((zs.map strD).drop (l + 1) ++ (ms.drop (j + 1)).flatMap namesM) ++ (ds.drop (i + 1)).flatMap namesC) ne hgA ?_ ?_ hzk) k5⟩
              · rw [flat_take ed, eC, flat_take em2, eM]
                conv => lhs; rw [el]
                simp only [List.append_assoc, List.cons_append]
              · intro u hu
                rcases List.mem_append.mp hu with hu | hu
                · exact hn u hu
                rcases List.mem_append.mp hu with hu | hu
                · exact hn2 u hu
                · exact hn3 u hu
          · rintro σ H5 ⟨c1, c6, rfl, k5, hn3⟩
            refine ⟨_, _, _, rfl, k5, fun z hz => ?_⟩
            rw [flat_snoc em2, eM, List.mem_append] at hz
            rcases hz with hz | hz
            · exact hn2 z hz
            · refine hn3 z ?_
              rw [ew, List.length_map, List.take_length]
              exact hz
        · rintro σ H4 ⟨c1, c5, c6, rfl, k4, hn2⟩
          refine ⟨_, _, _, _, _, rfl, k4, fun z hz => ?_⟩
          rw [flat_snoc ed, eC, List.mem_append] at hz
          rcases hz with hz | hz
          · exact hn z hz
          · refine hn2 z ?_
            rw [hml, List.take_length]
            exact hz
      · rintro σ H3 ⟨c1, c3, c4, c5, c6, rfl, k3, hn⟩
        try simp only [tSeq, tIfS, tTest, tOp, tUn, tCB, tCons, tNil, tVar, tC, rI0, rI, rU, rEq, rNe, tRet, tRetN, tAsg, gName, gSub, tBM, tBM0, tNext, tB, tNot, tAnd, tOr, tIf, tCall, tDrop, tBreak, tCont, L2.start, tDGet, sDPut, tTup, tLst, tDNewK, tRevL, rCat, rAppend, rPop, rSetL, tAndV, tOrV, tNotV, tSl, tPart, tNoPart, tM1, gTup, gCons, gNil, cxK, cxnK, List.map_cons, List.map_nil, List.length_cons, List.length_nil, List.replicate, List.cons_append, List.nil_append, List.append_nil, List.set_cons_zero, List.set_cons_succ, List.getElem?_cons_zero, List.getElem?_cons_succ, Option.some.injEq, V.ref.injEq, V.int.injEq, V.str.injEq, V.bl.injEq, V.ty.injEq, exists_eq_left', exists_eq_left, exists_and_left, List.cons.injEq, and_true, true_and, sc_ii, sc_ss, sc_bb, sc_ni, sc_in, sc_is, sc_si, sc_nn, decide_true, decide_false, reduceCtorEq, Bool.false_eq_true, if_true, if_false, ite_true, ite_false, exists_const, eq_self, false_and, and_false, or_false, false_or, exists_false, Evl.rLenS, rSum, wipe, tYes, exists_eq, exists_eq', rIxL, rIxT, rIxS, exists_and_right, gt_iff_lt, not_true_eq_false, not_false_eq_true, Bool.not_true, Bool.not_false, decide_eq_true_eq, Nat.reduceSub, Nat.reduceAdd, List.append_assoc, tChain, tDIn, tDNotIn, sDDel, tAug, ipI]
        refine ⟨small (by decide), out (o := .ok) (due_ok ne hgA fun z hz => hn z ?_) k3⟩
        rw [hxl, List.take_length]
        exact hz
end
end My

set_option Elab.async false
set_option linter.all false
set_option maxRecDepth 100000
set_option maxHeartbeats 4000000
namespace My
open PySem L2 NdefX
abbrev s_law_refused : Stmt := top 27
theorem sc_law_refused : FnScope ["_law_client", "_law_known", "e", "_law_fine"] ["_law_client", "_law_known"] (defScope s_law_refused) := ⟨rfl, rfl, rfl, by decide +kernel, rfl, by decide +kernel, by decide +kernel⟩
abbrev s_law_base : Stmt := top 28
theorem sc_law_base : FnScope ["_law_client", "_law_known"] ["_law_client", "_law_known"] (defScope s_law_base) := ⟨rfl, rfl, rfl, by decide +kernel, rfl, by decide +kernel, by decide +kernel⟩
structure BtF (K : PySem.W.Frag) (mg : Str → Option Value) (CE BC NO : Addr) : Prop where
  k_CoreError : mg "CoreError" = some (.ref CE)
  k_BadClient : mg "BadClient" = some (.ref BC)
  k_NoOperation : mg "NoOperation" = some (.ref NO)
  XF_BadClient : XfC K BC
  NO_caller : PySem.W.findIn K (.ref BC) "caller" = some none
  XF_NoOperation : XfC K NO
  NO_name : PySem.W.findIn K (.ref NO) "name" = some none
  E11 : PySem.W.exmOne K (.ref BC) (.ref BC) = some true
  E21 : PySem.W.exmOne K (.ref NO) (.ref BC) = some false
  E22 : PySem.W.exmOne K (.ref NO) (.ref NO) = some true
  E1C : PySem.W.exmOne K (.ref BC) (.ref CE) = some true
  E2C : PySem.W.exmOne K (.ref NO) (.ref CE) = some true
  KB : KitC K BC
  KN : KitC K NO
  i1 : PySem.W.kitOne K (.ref BC) (.ref CE) = some true
  i2 : PySem.W.kitOne K (.ref BC) (.type "ValueError") = some true
  i3 : PySem.W.kitOne K (.ref BC) (.ref NO) = some false
  j1 : PySem.W.kitOne K (.ref NO) (.ref CE) = some true
  j2 : PySem.W.kitOne K (.ref NO) (.type "ValueError") = some true
  b_isinstance : mg "isinstance" = none
  b_ValueError : mg "ValueError" = none
  b_int : mg "int" = none
  b_bool : mg "bool" = none
  b_str : mg "str" = none
def spRefd (K : PySem.W.Frag) : Sp := fun vs H Q _ => ∃ (a b : Addr) (xs : List V) (ds : List PyData) (ks : List Str), vs = [.ref a, .ref b] ∧ SqL K H a xs ∧ DqAll H xs ds ∧ szAll ds = true ∧ ds.length ≤ 1000 ∧ SqL K H b (ks.map V.str) ∧
  ∀ (o : Addr) (H' : Hp), H' o = some (.tup (outT (due ds ks))) → Kp [] H H' → Q (.ref o) H'
def isOk : Out → Bool
  | .ok => true
  | _ => false
def spBas (K : PySem.W.Frag) : Sp := fun vs H Q _ => ∃ (a b : Addr) (xs : List V) (ds : List PyData) (ks : List Str), vs = [.ref a, .ref b] ∧ SqL K H a xs ∧ DqAll H xs ds ∧ szAll ds = true ∧ ds.length ≤ 1000 ∧ SqL K H b (ks.map V.str) ∧
  ∀ H' : Hp, Kp [] H H' → Q (.bl (!isOk (due ds ks))) H'
section
variable {P : Program} {w : World} {K : PySem.W.Frag} {mg : Str → Option Value} {base : Heap}
theorem ok_law_refused {f : Addr} {fd : FuncData} (D : Df K mg "_law_refused" s_law_refused ["_law_client", "_law_known"] f fd) {CE BC NO : Addr} (T : BtF K mg CE BC NO) {fc : Addr} {fdc : FuncData} (D_check_client : Df K mg "check_client" s_check_client ["client", "names"] fc fdc) (G_check_client : FnOk P w K mg base (L2.CX P w) 5 fc fdc ["client", "names"] (spChk K BC NO)) :
    FnOk P w K mg base CX0 6 f fd ["_law_client", "_law_known"] (spRefd K) := by
  refine D.F.ok sc_law_refused (fun vs H Q E h => ?_) (fun cdv A outer s H vs Q E hr h => ?_)
  · obtain ⟨_, _, _, _, _, rfl, _⟩ := h
    rfl
  · obtain ⟨a, b, xs, ds, ks, rfl, hS, hD, sz, hl, hK, q⟩ := h
    have XF_BadClient := T.XF_BadClient
    have NO_caller := T.NO_caller
    have XF_NoOperation := T.XF_NoOperation
    have NO_name := T.NO_name
    refine ⟨_, (pss_one (ps_try_as2 (i1 := 2) (i2 := 2) rfl rfl sc_law_refused.nd rfl rfl rfl rfl ⟨rfl, by decide, .inl T.k_BadClient⟩ ⟨rfl, by decide, .inl T.k_NoOperation⟩ takes0 (fun W pn xe tk _ => (pss_one (ps_ret (pe_tup (pa_cons pe_str (pa_cons (pe_callS G_check_client (hr.mono (by decide)) rfl D_check_client.g D_check_client.F.kp D_check_client.b (fun σ => passAt tk σ) (pa_cons (pv 0) (pa_cons (pv 1) pa_nil))) pa_nil)))))) (fun a oe cls d pn hz hf => (pss_cons (ps_set (i := 3) sc_law_refused.nd rfl (Or.inl rfl) (pe_and (pe_callB (id := "isinstance") (r := rIsX K a cls d) (call_isX hz hf) (by rfl) T.b_isinstance (by decide +kernel) (pa_cons (pv 2) (pa_cons (pe_glob (v := .ref CE) rfl T.k_CoreError rfl) pa_nil))) (pe_and (pe_callB (id := "isinstance") (r := rIsX K a cls d) (call_isX hz hf) (by rfl) T.b_isinstance (by decide +kernel) (pa_cons (pv 2) (pa_cons (pe_bltn (v := .ty "ValueError") (by rfl) T.b_ValueError (by decide +kernel) rfl) pa_nil))) (pe_one (pe_not (pe_callB (id := "isinstance") (r := rIsX K a cls d) (call_isX hz hf) (by rfl) T.b_isinstance (by decide +kernel) (pa_cons (pv 2) (pa_cons (pe_glob (v := .ref NO) rfl T.k_NoOperation rfl) pa_nil))))))))
      (pss_one (ps_ret (pe_tup (pa_cons pe_str (pa_cons (pe_xf XF_BadClient NO_caller hz hf (pv 2)) (pa_cons (pe_and (pv 3) (pe_and (pe_callB (id := "isinstance") (r := rIsi K) call_isi (by rfl) T.b_isinstance (by decide +kernel) (pa_cons (pe_xf XF_BadClient NO_caller hz hf (pv 2)) (pa_cons (pe_bltn (v := .ty "int") (by rfl) T.b_int (by decide +kernel) rfl) pa_nil))) (pe_one (pe_not (pe_callB (id := "isinstance") (r := rIsi K) call_isi (by rfl) T.b_isinstance (by decide +kernel) (pa_cons (pe_xf XF_BadClient NO_caller hz hf (pv 2)) (pa_cons (pe_bltn (v := .ty "bool") (by rfl) T.b_bool (by decide +kernel) rfl) pa_nil))))))) pa_nil)))))))) (fun a oe cls d pn hz hf => (pss_one (ps_ret (pe_tup (pa_cons pe_str (pa_cons (pe_xf XF_NoOperation NO_name hz hf (pv 2)) (pa_cons (pe_and (pe_callB (id := "isinstance") (r := rIsX K a cls d) (call_isX hz hf) (by rfl) T.b_isinstance (by decide +kernel) (pa_cons (pv 2) (pa_cons (pe_glob (v := .ref CE) rfl T.k_CoreError rfl) pa_nil))) (pe_and (pe_callB (id := "isinstance") (r := rIsX K a cls d) (call_isX hz hf) (by rfl) T.b_isinstance (by decide +kernel) (pa_cons (pv 2) (pa_cons (pe_bltn (v := .ty "ValueError") (by rfl) T.b_ValueError (by decide +kernel) rfl) pa_nil))) (pe_one (pe_callB (id := "isinstance") (r := rIsi K) call_isi (by rfl) T.b_isinstance (by decide +kernel) (pa_cons (pe_xf XF_NoOperation NO_name hz hf (pv 2)) (pa_cons (pe_bltn (v := .ty "str") (by rfl) T.b_str (by decide +kernel) rfl) pa_nil)))))) pa_nil))))))))), ?_⟩
    try simp only [tSeq, tIfS, tTest, tOp, tUn, tCB, tCons, tNil, tVar, tC, rI0, rI, rU, rEq, rNe, tRet, tRetN, tAsg, gName, gSub, tBM, tBM0, tNext, tB, tNot, tAnd, tOr, tIf, tCall, tDrop, tBreak, tCont, L2.start, tDGet, sDPut, tTup, tLst, tDNewK, tRevL, rCat, rAppend, rPop, rSetL, tAndV, tOrV, tNotV, tSl, tPart, tNoPart, tM1, gTup, gCons, gNil, cxK, cxnK, List.map_cons, List.map_nil, List.length_cons, List.length_nil, List.replicate, List.cons_append, List.nil_append, List.append_nil, List.set_cons_zero, List.set_cons_succ, List.getElem?_cons_zero, List.getElem?_cons_succ, Option.some.injEq, V.ref.injEq, V.int.injEq, V.str.injEq, V.bl.injEq, V.ty.injEq, exists_eq_left', exists_eq_left, exists_and_left, List.cons.injEq, and_true, true_and, sc_ii, sc_ss, sc_bb, sc_ni, sc_in, sc_is, sc_si, sc_nn, decide_true, decide_false, reduceCtorEq, Bool.false_eq_true, if_true, if_false, ite_true, ite_false, exists_const, eq_self, false_and, and_false, or_false, false_or, exists_false, Evl.rLenS, rSum, wipe, tYes, exists_eq, exists_eq', rIxL, rIxT, rIxS, exists_and_right, gt_iff_lt, not_true_eq_false, not_false_eq_true, Bool.not_true, Bool.not_false, decide_eq_true_eq, Nat.reduceSub, Nat.reduceAdd, List.append_assoc, tChain, tDIn, tDNotIn, sDDel, tAug, ipI, tCallS]
    refine ⟨a, b, xs, ds, ks, rfl, hS, hD, sz, hl, hK, fun e H1 k1 => ?_, fun i e d H1 nd hd k1 => ?_, fun z e d H1 nd hd k1 => ?_⟩
    · refine ⟨small (by decide), fun p np => q p _ ?_ (k1.trans (Kp.new np))⟩
      rw [e]
      exact upd_same
    · refine ⟨true, T.E11, fun _ x nx => ?_, fun z => by cases z⟩
      try simp only [tSeq, tIfS, tTest, tOp, tUn, tCB, tCons, tNil, tVar, tC, rI0, rI, rU, rEq, rNe, tRet, tRetN, tAsg, gName, gSub, tBM, tBM0, tNext, tB, tNot, tAnd, tOr, tIf, tCall, tDrop, tBreak, tCont, L2.start, tDGet, sDPut, tTup, tLst, tDNewK, tRevL, rCat, rAppend, rPop, rSetL, tAndV, tOrV, tNotV, tSl, tPart, tNoPart, tM1, gTup, gCons, gNil, cxK, cxnK, List.map_cons, List.map_nil, List.length_cons, List.length_nil, List.replicate, List.cons_append, List.nil_append, List.append_nil, List.set_cons_zero, List.set_cons_succ, List.getElem?_cons_zero, List.getElem?_cons_succ, Option.some.injEq, V.ref.injEq, V.int.injEq, V.str.injEq, V.bl.injEq, V.ty.injEq, exists_eq_left', exists_eq_left, exists_and_left, List.cons.injEq, and_true, true_and, sc_ii, sc_ss, sc_bb, sc_ni, sc_in, sc_is, sc_si, sc_nn, decide_true, decide_false, reduceCtorEq, Bool.false_eq_true, if_true, if_false, ite_true, ite_false, exists_const, eq_self, false_and, and_false, or_false, false_or, exists_false, Evl.rLenS, rSum, wipe, tYes, exists_eq, exists_eq', rIxL, rIxT, rIxS, exists_and_right, gt_iff_lt, not_true_eq_false, not_false_eq_true, Bool.not_true, Bool.not_false, decide_eq_true_eq, Nat.reduceSub, Nat.reduceAdd, List.append_assoc, tChain, tDIn, tDNotIn, sDDel, tAug, ipI, tXf, Ends.off]
      refine ⟨.ref CE, .ref CE, true, BC, d, _, rfl, fun u h => h, rfl, rfl, hd, T.KB, T.i1, true, rfl, ?_⟩
      try simp only [tSeq, tIfS, tTest, tOp, tUn, tCB, tCons, tNil, tVar, tC, rI0, rI, rU, rEq, rNe, tRet, tRetN, tAsg, gName, gSub, tBM, tBM0, tNext, tB, tNot, tAnd, tOr, tIf, tCall, tDrop, tBreak, tCont, L2.start, tDGet, sDPut, tTup, tLst, tDNewK, tRevL, rCat, rAppend, rPop, rSetL, tAndV, tOrV, tNotV, tSl, tPart, tNoPart, tM1, gTup, gCons, gNil, cxK, cxnK, List.map_cons, List.map_nil, List.length_cons, List.length_nil, List.replicate, List.cons_append, List.nil_append, List.append_nil, List.set_cons_zero, List.set_cons_succ, List.getElem?_cons_zero, List.getElem?_cons_succ, Option.some.injEq, V.ref.injEq, V.int.injEq, V.str.injEq, V.bl.injEq, V.ty.injEq, exists_eq_left', exists_eq_left, exists_and_left, List.cons.injEq, and_true, true_and, sc_ii, sc_ss, sc_bb, sc_ni, sc_in, sc_is, sc_si, sc_nn, decide_true, decide_false, reduceCtorEq, Bool.false_eq_true, if_true, if_false, ite_true, ite_false, exists_const, eq_self, false_and, and_false, or_false, false_or, exists_false, Evl.rLenS, rSum, wipe, tYes, exists_eq, exists_eq', rIxL, rIxT, rIxS, exists_and_right, gt_iff_lt, not_true_eq_false, not_false_eq_true, Bool.not_true, Bool.not_false, decide_eq_true_eq, Nat.reduceSub, Nat.reduceAdd, List.append_assoc, tChain, tDIn, tDNotIn, sDDel, tAug, ipI]
      refine ⟨.ty "ValueError", .type "ValueError", true, BC, d, _, rfl, fun u h => h, rfl, rfl, hd, T.KB, T.i2, true, rfl, ?_⟩
      try simp only [tSeq, tIfS, tTest, tOp, tUn, tCB, tCons, tNil, tVar, tC, rI0, rI, rU, rEq, rNe, tRet, tRetN, tAsg, gName, gSub, tBM, tBM0, tNext, tB, tNot, tAnd, tOr, tIf, tCall, tDrop, tBreak, tCont, L2.start, tDGet, sDPut, tTup, tLst, tDNewK, tRevL, rCat, rAppend, rPop, rSetL, tAndV, tOrV, tNotV, tSl, tPart, tNoPart, tM1, gTup, gCons, gNil, cxK, cxnK, List.map_cons, List.map_nil, List.length_cons, List.length_nil, List.replicate, List.cons_append, List.nil_append, List.append_nil, List.set_cons_zero, List.set_cons_succ, List.getElem?_cons_zero, List.getElem?_cons_succ, Option.some.injEq, V.ref.injEq, V.int.injEq, V.str.injEq, V.bl.injEq, V.ty.injEq, exists_eq_left', exists_eq_left, exists_and_left, List.cons.injEq, and_true, true_and, sc_ii, sc_ss, sc_bb, sc_ni, sc_in, sc_is, sc_si, sc_nn, decide_true, decide_false, reduceCtorEq, Bool.false_eq_true, if_true, if_false, ite_true, ite_false, exists_const, eq_self, false_and, and_false, or_false, false_or, exists_false, Evl.rLenS, rSum, wipe, tYes, exists_eq, exists_eq', rIxL, rIxT, rIxS, exists_and_right, gt_iff_lt, not_true_eq_false, not_false_eq_true, Bool.not_true, Bool.not_false, decide_eq_true_eq, Nat.reduceSub, Nat.reduceAdd, List.append_assoc, tChain, tDIn, tDNotIn, sDDel, tAug, ipI]
      refine ⟨.ref NO, .ref NO, false, BC, d, _, rfl, fun u h => h, rfl, rfl, hd, T.KB, T.i3, false, rfl, ?_⟩
      try simp only [tSeq, tIfS, tTest, tOp, tUn, tCB, tCons, tNil, tVar, tC, rI0, rI, rU, rEq, rNe, tRet, tRetN, tAsg, gName, gSub, tBM, tBM0, tNext, tB, tNot, tAnd, tOr, tIf, tCall, tDrop, tBreak, tCont, L2.start, tDGet, sDPut, tTup, tLst, tDNewK, tRevL, rCat, rAppend, rPop, rSetL, tAndV, tOrV, tNotV, tSl, tPart, tNoPart, tM1, gTup, gCons, gNil, cxK, cxnK, List.map_cons, List.map_nil, List.length_cons, List.length_nil, List.replicate, List.cons_append, List.nil_append, List.append_nil, List.set_cons_zero, List.set_cons_succ, List.getElem?_cons_zero, List.getElem?_cons_succ, Option.some.injEq, V.ref.injEq, V.int.injEq, V.str.injEq, V.bl.injEq, V.ty.injEq, exists_eq_left', exists_eq_left, exists_and_left, List.cons.injEq, and_true, true_and, sc_ii, sc_ss, sc_bb, sc_ni, sc_in, sc_is, sc_si, sc_nn, decide_true, decide_false, reduceCtorEq, Bool.false_eq_true, if_true, if_false, ite_true, ite_false, exists_const, eq_self, false_and, and_false, or_false, false_or, exists_false, Evl.rLenS, rSum, wipe, tYes, exists_eq, exists_eq', rIxL, rIxT, rIxS, exists_and_right, gt_iff_lt, not_true_eq_false, not_false_eq_true, Bool.not_true, Bool.not_false, decide_eq_true_eq, Nat.reduceSub, Nat.reduceAdd, List.append_assoc, tChain, tDIn, tDNotIn, sDDel, tAug, ipI]
      refine ⟨_, hd, .int i, rfl, _, hd, .int i, rfl, isi_int_int ?_⟩
      try simp only [tSeq, tIfS, tTest, tOp, tUn, tCB, tCons, tNil, tVar, tC, rI0, rI, rU, rEq, rNe, tRet, tRetN, tAsg, gName, gSub, tBM, tBM0, tNext, tB, tNot, tAnd, tOr, tIf, tCall, tDrop, tBreak, tCont, L2.start, tDGet, sDPut, tTup, tLst, tDNewK, tRevL, rCat, rAppend, rPop, rSetL, tAndV, tOrV, tNotV, tSl, tPart, tNoPart, tM1, gTup, gCons, gNil, cxK, cxnK, List.map_cons, List.map_nil, List.length_cons, List.length_nil, List.replicate, List.cons_append, List.nil_append, List.append_nil, List.set_cons_zero, List.set_cons_succ, List.getElem?_cons_zero, List.getElem?_cons_succ, Option.some.injEq, V.ref.injEq, V.int.injEq, V.str.injEq, V.bl.injEq, V.ty.injEq, exists_eq_left', exists_eq_left, exists_and_left, List.cons.injEq, and_true, true_and, sc_ii, sc_ss, sc_bb, sc_ni, sc_in, sc_is, sc_si, sc_nn, decide_true, decide_false, reduceCtorEq, Bool.false_eq_true, if_true, if_false, ite_true, ite_false, exists_const, eq_self, false_and, and_false, or_false, false_or, exists_false, Evl.rLenS, rSum, wipe, tYes, exists_eq, exists_eq', rIxL, rIxT, rIxS, exists_and_right, gt_iff_lt, not_true_eq_false, not_false_eq_true, Bool.not_true, Bool.not_false, decide_eq_true_eq, Nat.reduceSub, Nat.reduceAdd, List.append_assoc, tChain, tDIn, tDNotIn, sDDel, tAug, ipI]
      refine ⟨_, hd, .int i, rfl, isi_int_bool ?_⟩
      try simp only [tSeq, tIfS, tTest, tOp, tUn, tCB, tCons, tNil, tVar, tC, rI0, rI, rU, rEq, rNe, tRet, tRetN, tAsg, gName, gSub, tBM, tBM0, tNext, tB, tNot, tAnd, tOr, tIf, tCall, tDrop, tBreak, tCont, L2.start, tDGet, sDPut, tTup, tLst, tDNewK, tRevL, rCat, rAppend, rPop, rSetL, tAndV, tOrV, tNotV, tSl, tPart, tNoPart, tM1, gTup, gCons, gNil, cxK, cxnK, List.map_cons, List.map_nil, List.length_cons, List.length_nil, List.replicate, List.cons_append, List.nil_append, List.append_nil, List.set_cons_zero, List.set_cons_succ, List.getElem?_cons_zero, List.getElem?_cons_succ, Option.some.injEq, V.ref.injEq, V.int.injEq, V.str.injEq, V.bl.injEq, V.ty.injEq, exists_eq_left', exists_eq_left, exists_and_left, List.cons.injEq, and_true, true_and, sc_ii, sc_ss, sc_bb, sc_ni, sc_in, sc_is, sc_si, sc_nn, decide_true, decide_false, reduceCtorEq, Bool.false_eq_true, if_true, if_false, ite_true, ite_false, exists_const, eq_self, false_and, and_false, or_false, false_or, exists_false, Evl.rLenS, rSum, wipe, tYes, exists_eq, exists_eq', rIxL, rIxT, rIxS, exists_and_right, gt_iff_lt, not_true_eq_false, not_false_eq_true, Bool.not_true, Bool.not_false, decide_eq_true_eq, Nat.reduceSub, Nat.reduceAdd, List.append_assoc, tChain, tDIn, tDNotIn, sDDel, tAug, ipI]
      refine ⟨small (by decide), fun p np => q p _ ?_ (k1.trans (Kp.new np))⟩
      rw [e]
      exact upd_same
    · refine ⟨false, T.E21, (fun z => by cases z), fun _ => ⟨true, T.E22, fun _ x nx => ?_, fun z => by cases z⟩⟩
      try simp only [tSeq, tIfS, tTest, tOp, tUn, tCB, tCons, tNil, tVar, tC, rI0, rI, rU, rEq, rNe, tRet, tRetN, tAsg, gName, gSub, tBM, tBM0, tNext, tB, tNot, tAnd, tOr, tIf, tCall, tDrop, tBreak, tCont, L2.start, tDGet, sDPut, tTup, tLst, tDNewK, tRevL, rCat, rAppend, rPop, rSetL, tAndV, tOrV, tNotV, tSl, tPart, tNoPart, tM1, gTup, gCons, gNil, cxK, cxnK, List.map_cons, List.map_nil, List.length_cons, List.length_nil, List.replicate, List.cons_append, List.nil_append, List.append_nil, List.set_cons_zero, List.set_cons_succ, List.getElem?_cons_zero, List.getElem?_cons_succ, Option.some.injEq, V.ref.injEq, V.int.injEq, V.str.injEq, V.bl.injEq, V.ty.injEq, exists_eq_left', exists_eq_left, exists_and_left, List.cons.injEq, and_true, true_and, sc_ii, sc_ss, sc_bb, sc_ni, sc_in, sc_is, sc_si, sc_nn, decide_true, decide_false, reduceCtorEq, Bool.false_eq_true, if_true, if_false, ite_true, ite_false, exists_const, eq_self, false_and, and_false, or_false, false_or, exists_false, Evl.rLenS, rSum, wipe, tYes, exists_eq, exists_eq', rIxL, rIxT, rIxS, exists_and_right, gt_iff_lt, not_true_eq_false, not_false_eq_true, Bool.not_true, Bool.not_false, decide_eq_true_eq, Nat.reduceSub, Nat.reduceAdd, List.append_assoc, tChain, tDIn, tDNotIn, sDDel, tAug, ipI, tXf, Ends.off]
      refine ⟨_, hd, .str z, rfl, ?_⟩
      refine ⟨.ref CE, .ref CE, true, NO, d, _, rfl, fun u h => h, rfl, rfl, hd, T.KN, T.j1, true, rfl, ?_⟩
      try simp only [tSeq, tIfS, tTest, tOp, tUn, tCB, tCons, tNil, tVar, tC, rI0, rI, rU, rEq, rNe, tRet, tRetN, tAsg, gName, gSub, tBM, tBM0, tNext, tB, tNot, tAnd, tOr, tIf, tCall, tDrop, tBreak, tCont, L2.start, tDGet, sDPut, tTup, tLst, tDNewK, tRevL, rCat, rAppend, rPop, rSetL, tAndV, tOrV, tNotV, tSl, tPart, tNoPart, tM1, gTup, gCons, gNil, cxK, cxnK, List.map_cons, List.map_nil, List.length_cons, List.length_nil, List.replicate, List.cons_append, List.nil_append, List.append_nil, List.set_cons_zero, List.set_cons_succ, List.getElem?_cons_zero, List.getElem?_cons_succ, Option.some.injEq, V.ref.injEq, V.int.injEq, V.str.injEq, V.bl.injEq, V.ty.injEq, exists_eq_left', exists_eq_left, exists_and_left, List.cons.injEq, and_true, true_and, sc_ii, sc_ss, sc_bb, sc_ni, sc_in, sc_is, sc_si, sc_nn, decide_true, decide_false, reduceCtorEq, Bool.false_eq_true, if_true, if_false, ite_true, ite_false, exists_const, eq_self, false_and, and_false, or_false, false_or, exists_false, Evl.rLenS, rSum, wipe, tYes, exists_eq, exists_eq', rIxL, rIxT, rIxS, exists_and_right, gt_iff_lt, not_true_eq_false, not_false_eq_true, Bool.not_true, Bool.not_false, decide_eq_true_eq, Nat.reduceSub, Nat.reduceAdd, List.append_assoc, tChain, tDIn, tDNotIn, sDDel, tAug, ipI]
      refine ⟨.ty "ValueError", .type "ValueError", true, NO, d, _, rfl, fun u h => h, rfl, rfl, hd, T.KN, T.j2, true, rfl, ?_⟩
      try simp only [tSeq, tIfS, tTest, tOp, tUn, tCB, tCons, tNil, tVar, tC, rI0, rI, rU, rEq, rNe, tRet, tRetN, tAsg, gName, gSub, tBM, tBM0, tNext, tB, tNot, tAnd, tOr, tIf, tCall, tDrop, tBreak, tCont, L2.start, tDGet, sDPut, tTup, tLst, tDNewK, tRevL, rCat, rAppend, rPop, rSetL, tAndV, tOrV, tNotV, tSl, tPart, tNoPart, tM1, gTup, gCons, gNil, cxK, cxnK, List.map_cons, List.map_nil, List.length_cons, List.length_nil, List.replicate, List.cons_append, List.nil_append, List.append_nil, List.set_cons_zero, List.set_cons_succ, List.getElem?_cons_zero, List.getElem?_cons_succ, Option.some.injEq, V.ref.injEq, V.int.injEq, V.str.injEq, V.bl.injEq, V.ty.injEq, exists_eq_left', exists_eq_left, exists_and_left, List.cons.injEq, and_true, true_and, sc_ii, sc_ss, sc_bb, sc_ni, sc_in, sc_is, sc_si, sc_nn, decide_true, decide_false, reduceCtorEq, Bool.false_eq_true, if_true, if_false, ite_true, ite_false, exists_const, eq_self, false_and, and_false, or_false, false_or, exists_false, Evl.rLenS, rSum, wipe, tYes, exists_eq, exists_eq', rIxL, rIxT, rIxS, exists_and_right, gt_iff_lt, not_true_eq_false, not_false_eq_true, Bool.not_true, Bool.not_false, decide_eq_true_eq, Nat.reduceSub, Nat.reduceAdd, List.append_assoc, tChain, tDIn, tDNotIn, sDDel, tAug, ipI]
      refine ⟨_, hd, .str z, rfl, isi_str_str ?_⟩
      try simp only [tSeq, tIfS, tTest, tOp, tUn, tCB, tCons, tNil, tVar, tC, rI0, rI, rU, rEq, rNe, tRet, tRetN, tAsg, gName, gSub, tBM, tBM0, tNext, tB, tNot, tAnd, tOr, tIf, tCall, tDrop, tBreak, tCont, L2.start, tDGet, sDPut, tTup, tLst, tDNewK, tRevL, rCat, rAppend, rPop, rSetL, tAndV, tOrV, tNotV, tSl, tPart, tNoPart, tM1, gTup, gCons, gNil, cxK, cxnK, List.map_cons, List.map_nil, List.length_cons, List.length_nil, List.replicate, List.cons_append, List.nil_append, List.append_nil, List.set_cons_zero, List.set_cons_succ, List.getElem?_cons_zero, List.getElem?_cons_succ, Option.some.injEq, V.ref.injEq, V.int.injEq, V.str.injEq, V.bl.injEq, V.ty.injEq, exists_eq_left', exists_eq_left, exists_and_left, List.cons.injEq, and_true, true_and, sc_ii, sc_ss, sc_bb, sc_ni, sc_in, sc_is, sc_si, sc_nn, decide_true, decide_false, reduceCtorEq, Bool.false_eq_true, if_true, if_false, ite_true, ite_false, exists_const, eq_self, false_and, and_false, or_false, false_or, exists_false, Evl.rLenS, rSum, wipe, tYes, exists_eq, exists_eq', rIxL, rIxT, rIxS, exists_and_right, gt_iff_lt, not_true_eq_false, not_false_eq_true, Bool.not_true, Bool.not_false, decide_eq_true_eq, Nat.reduceSub, Nat.reduceAdd, List.append_assoc, tChain, tDIn, tDNotIn, sDDel, tAug, ipI]
      refine ⟨small (by decide), fun p np => q p _ ?_ (k1.trans (Kp.new np))⟩
      rw [e]
      exact upd_same
theorem ok_law_base {f : Addr} {fd : FuncData} (D : Df K mg "_law_base" s_law_base ["_law_client", "_law_known"] f fd) {CE BC NO : Addr} (T : BtF K mg CE BC NO) {fc : Addr} {fdc : FuncData} (D_check_client : Df K mg "check_client" s_check_client ["client", "names"] fc fdc) (G_check_client : FnOk P w K mg base (L2.CX P w) 5 fc fdc ["client", "names"] (spChk K BC NO)) :
    FnOk P w K mg base CX0 6 f fd ["_law_client", "_law_known"] (spBas K) := by
  refine D.F.ok sc_law_base (fun vs H Q E h => ?_) (fun cdv A outer s H vs Q E hr h => ?_)
  · obtain ⟨_, _, _, _, _, rfl, _⟩ := h
    rfl
  · obtain ⟨a, b, xs, ds, ks, rfl, hS, hD, sz, hl, hK, q⟩ := h
    refine ⟨_, (pss_cons (ps_try_only rfl rfl ⟨rfl, by decide, .inl T.k_CoreError⟩ takes0 (fun W pn xe tk _ => (pss_one (ps_expr (pe_callS G_check_client (hr.mono (by decide)) rfl D_check_client.g D_check_client.F.kp D_check_client.b (fun σ => passAt tk σ) (pa_cons (pv 0) (pa_cons (pv 1) pa_nil)))))) (fun a oe cls d pn hz hf => (pss_one (ps_ret pe_bl))))
      (pss_one (ps_ret pe_bl))), ?_⟩
    try simp only [tSeq, tIfS, tTest, tOp, tUn, tCB, tCons, tNil, tVar, tC, rI0, rI, rU, rEq, rNe, tRet, tRetN, tAsg, gName, gSub, tBM, tBM0, tNext, tB, tNot, tAnd, tOr, tIf, tCall, tDrop, tBreak, tCont, L2.start, tDGet, sDPut, tTup, tLst, tDNewK, tRevL, rCat, rAppend, rPop, rSetL, tAndV, tOrV, tNotV, tSl, tPart, tNoPart, tM1, gTup, gCons, gNil, cxK, cxnK, List.map_cons, List.map_nil, List.length_cons, List.length_nil, List.replicate, List.cons_append, List.nil_append, List.append_nil, List.set_cons_zero, List.set_cons_succ, List.getElem?_cons_zero, List.getElem?_cons_succ, Option.some.injEq, V.ref.injEq, V.int.injEq, V.str.injEq, V.bl.injEq, V.ty.injEq, exists_eq_left', exists_eq_left, exists_and_left, List.cons.injEq, and_true, true_and, sc_ii, sc_ss, sc_bb, sc_ni, sc_in, sc_is, sc_si, sc_nn, decide_true, decide_false, reduceCtorEq, Bool.false_eq_true, if_true, if_false, ite_true, ite_false, exists_const, eq_self, false_and, and_false, or_false, false_or, exists_false, Evl.rLenS, rSum, wipe, tYes, exists_eq, exists_eq', rIxL, rIxT, rIxS, exists_and_right, gt_iff_lt, not_true_eq_false, not_false_eq_true, Bool.not_true, Bool.not_false, decide_eq_true_eq, Nat.reduceSub, Nat.reduceAdd, List.append_assoc, tChain, tDIn, tDNotIn, sDDel, tAug, ipI, tCallS]
    refine ⟨a, b, xs, ds, ks, rfl, hS, hD, sz, hl, hK, fun e H1 k1 => ?_, fun i e d H1 nd hd k1 => ?_, fun z e d H1 nd hd k1 => ?_⟩
    · have q1 := q H1 k1
      rw [e] at q1
      exact q1
    · refine ⟨true, T.E1C, fun _ x nx => ?_, fun z => by cases z⟩
      have q1 := q H1 k1
      rw [e] at q1
      exact q1
    · refine ⟨true, T.E2C, fun _ x nx => ?_, fun z => by cases z⟩
      have q1 := q H1 k1
      rw [e] at q1
      exact q1
end
end My

set_option Elab.async false
set_option linter.all false
set_option maxRecDepth 100000
set_option maxHeartbeats 4000000
namespace My
open PySem L2 NdefX
abbrev s_law_caller : Stmt := top 23
theorem sc_law_caller : FnScope ["_law_names", "_law_cell", "_law_more", "_law_menus", "_law_k", "_law_first", "_law_j"] ["_law_names", "_law_cell", "_law_more"] (defScope s_law_caller) := ⟨rfl, rfl, rfl, by decide +kernel, rfl, by decide +kernel, by decide +kernel⟩
abbrev s_law_with : Stmt := top 24
theorem sc_law_with : FnScope ["_law_menus", "_law_at", "_law_menu", "_law_k"] ["_law_menus", "_law_at", "_law_menu"] (defScope s_law_with) := ⟨rfl, rfl, rfl, by decide +kernel, rfl, by decide +kernel, by decide +kernel⟩
/-! ### data whose lists were made after the heap H0 -/
mutual
inductive Fd (H0 H : Hp) : V → PyData → Prop
  | non : Fd H0 H .non .none
  | bl (b : Bool) : Fd H0 H (.bl b) (.bool b)
  | int (i : Int) : Fd H0 H (.int i) (.int i)
  | str (x : Str) : Fd H0 H (.str x) (.str x)
  | lst {a : Addr} {xs : List V} {ds : List PyData} : H0 a = none → H a = some (.lst xs) → FdAll H0 H xs ds → Fd H0 H (.ref a) (.list ds)
  | tup {a : Addr} {xs : List V} {ds : List PyData} : H a = some (.tup xs) → FdAll H0 H xs ds → Fd H0 H (.ref a) (.tuple ds)
inductive FdAll (H0 H : Hp) : List V → List PyData → Prop
  | nil : FdAll H0 H [] []
  | cons {v : V} {vs : List V} {d : PyData} {ds : List PyData} : Fd H0 H v d → FdAll H0 H vs ds → FdAll H0 H (v :: vs) (d :: ds)
end
mutual
theorem Fd.kpS {H0 H H' : Hp} {S : List Addr} (k : Kp S H H') (hS : ∀ a ∈ S, (∃ o, H0 a = some o) ∧ ∃ xs, H a = some (.lst xs)) : ∀ {d : PyData} {v : V}, Fd H0 H v d → Fd H0 H' v d
  | _, _, .non => .non
  | _, _, .bl b => .bl b
  | _, _, .int i => .int i
  | _, _, .str x => .str x
  | _, _, .lst n e h => .lst n (k _ _ (fun m => by
      obtain ⟨⟨o, q⟩, _⟩ := hS _ m
      rw [n] at q; cases q) e) (FdAll.kpS k hS h)
  | _, _, .tup e h => .tup (k _ _ (fun m => by
      obtain ⟨_, xs, q⟩ := hS _ m
      rw [e] at q; cases q) e) (FdAll.kpS k hS h)
theorem FdAll.kpS {H0 H H' : Hp} {S : List Addr} (k : Kp S H H') (hS : ∀ a ∈ S, (∃ o, H0 a = some o) ∧ ∃ xs, H a = some (.lst xs)) : ∀ {ds : List PyData} {vs : List V}, FdAll H0 H vs ds → FdAll H0 H' vs ds
  | _, _, .nil => .nil
  | _, _, .cons h t => .cons (Fd.kpS k hS h) (FdAll.kpS k hS t)
end
theorem Fd.kp {H0 H H' : Hp} (k : Kp [] H H') {d : PyData} {v : V} (h : Fd H0 H v d) : Fd H0 H' v d := h.kpS k fun a m => nomatch m
theorem FdAll.kp {H0 H H' : Hp} (k : Kp [] H H') {ds : List PyData} {vs : List V} (h : FdAll H0 H vs ds) : FdAll H0 H' vs ds := h.kpS k fun a m => nomatch m
mutual
theorem Fd.mono {H0 H1 H : Hp} (m : ∀ a, H0 a = none → H1 a = none) : ∀ {d : PyData} {v : V}, Fd H0 H v d → Fd H1 H v d
  | _, _, .non => .non
  | _, _, .bl b => .bl b
  | _, _, .int i => .int i
  | _, _, .str x => .str x
  | _, _, .lst n e h => .lst (m _ n) e (FdAll.mono m h)
  | _, _, .tup e h => .tup e (FdAll.mono m h)
theorem FdAll.mono {H0 H1 H : Hp} (m : ∀ a, H0 a = none → H1 a = none) : ∀ {ds : List PyData} {vs : List V}, FdAll H0 H vs ds → FdAll H1 H vs ds
  | _, _, .nil => .nil
  | _, _, .cons h t => .cons (Fd.mono m h) (FdAll.mono m t)
end
mutual
theorem Fd.dq {H0 H : Hp} : ∀ {d : PyData} {v : V}, Fd H0 H v d → Dq H v d
  | _, _, .non => .non
  | _, _, .bl b => .bl b
  | _, _, .int i => .int i
  | _, _, .str x => .str x
  | _, _, .lst _ e h => .lst e (FdAll.dq h)
  | _, _, .tup e h => .tup e (FdAll.dq h)
theorem FdAll.dq {H0 H : Hp} : ∀ {ds : List PyData} {vs : List V}, FdAll H0 H vs ds → DqAll H vs ds
  | _, _, .nil => .nil
  | _, _, .cons h t => .cons (Fd.dq h) (FdAll.dq t)
end
theorem FdAll.len {H0 H : Hp} : ∀ {ds : List PyData} {vs : List V}, FdAll H0 H vs ds → vs.length = ds.length
  | _, _, .nil => rfl
  | _, _, .cons h t => by rw [List.length_cons, List.length_cons, t.len]
theorem FdAll.app {H0 H : Hp} : ∀ {ds es : List PyData} {vs us : List V}, FdAll H0 H vs ds → FdAll H0 H us es → FdAll H0 H (vs ++ us) (ds ++ es)
  | _, _, _, _, .nil, k => k
  | _, _, _, _, .cons h t, k => .cons h (t.app k)
theorem FdAll.take {H0 H : Hp} : ∀ {ds : List PyData} {vs : List V}, FdAll H0 H vs ds → ∀ i, FdAll H0 H (vs.take i) (ds.take i)
  | _, _, .nil, i => by rw [List.take_nil, List.take_nil]; exact .nil
  | _, _, .cons h t, 0 => .nil
  | _, _, .cons h t, i + 1 => .cons h (t.take i)
theorem FdAll.drop {H0 H : Hp} : ∀ {ds : List PyData} {vs : List V}, FdAll H0 H vs ds → ∀ i, FdAll H0 H (vs.drop i) (ds.drop i)
  | _, _, .nil, i => by rw [List.drop_nil, List.drop_nil]; exact .nil
  | _, _, .cons h t, 0 => .cons h t
  | _, _, .cons h t, i + 1 => t.drop i
theorem FdAll.set {H0 H : Hp} {v : V} {d : PyData} (q : Fd H0 H v d) : ∀ {ds : List PyData} {vs : List V}, FdAll H0 H vs ds → ∀ i, FdAll H0 H (vs.set i v) (ds.set i d)
  | _, _, .nil, i => .nil
  | _, _, .cons h t, 0 => .cons q t
  | _, _, .cons h t, i + 1 => .cons h (t.set q i)
theorem FdAll.get {H0 H : Hp} : ∀ {ds : List PyData} {vs : List V}, FdAll H0 H vs ds → ∀ {i : Nat} {v : V}, vs[i]? = some v → ∃ d, ds[i]? = some d ∧ Fd H0 H v d
  | _, _, .nil, _, _, e => nomatch e
  | _, _, .cons h t, 0, _, e => by cases e; exact ⟨_, rfl, h⟩
  | _, _, .cons h t, i + 1, _, e => t.get (i := i) e
theorem FdAll.strs {H0 H : Hp} : ∀ zs : List Str, FdAll H0 H (zs.map V.str) (zs.map PyData.str)
  | [] => .nil
  | z :: zs => .cons (.str z) (FdAll.strs zs)
/-- what may be laid, is not deep, its texts not long -/
def OkD (n : Nat) (d : PyData) : Prop := d.canLay0 = true ∧ d.depth ≤ n ∧ szD d = true
theorem OkD.mono {n m : Nat} {d : PyData} (h : OkD n d) (l : n ≤ m) : OkD m d := ⟨h.1, Nat.le_trans h.2.1 l, h.2.2⟩
theorem okD_all {n : Nat} : ∀ {ds : List PyData}, (∀ d ∈ ds, OkD n d) → PyData.canLayAll0 ds = true ∧ PyData.depthAll ds ≤ n ∧ szAll ds = true
  | [], _ => ⟨rfl, Nat.zero_le _, rfl⟩
  | d :: r, h => by
    have h1 := h d List.mem_cons_self
    have h2 := okD_all fun x hx => h x (List.mem_cons_of_mem _ hx)
    refine ⟨?_, ?_, ?_⟩
    · show (PyData.canLay0 d && PyData.canLayAll0 r) = true
      rw [h1.1, h2.1]; rfl
    · show max d.depth (PyData.depthAll r) ≤ n
      have a := h1.2.1
      have b := h2.2.1
      omega
    · show (szD d && szAll r) = true
      rw [h1.2.2, h2.2.2]; rfl
theorem OkD.tup {n : Nat} {ds : List PyData} (h : ∀ d ∈ ds, OkD n d) : OkD (n + 1) (.tuple ds) := by
  have z := okD_all h
  exact ⟨z.1, Nat.succ_le_succ z.2.1, z.2.2⟩
theorem OkD.lst {n : Nat} {ds : List PyData} (h : ∀ d ∈ ds, OkD n d) : OkD (n + 1) (.list ds) := by
  have z := okD_all h
  exact ⟨z.1, Nat.succ_le_succ z.2.1, z.2.2⟩
theorem OkD.fit {n : Nat} {d : PyData} (h : OkD n d) (l : n ≤ 60) : Fit d := by
  refine ⟨?_, Nat.le_trans h.2.1 l⟩
  unfold SeqAt.shaped
  rw [h.1, decide_eq_true (Nat.le_trans h.2.1 (Nat.le_trans l (by decide)))]; rfl
theorem okD_name {z : Str} (h : nameS z = true) : OkD 0 (.str z) := by
  unfold nameS at h
  rw [Bool.and_eq_true, Bool.and_eq_true, decide_eq_true_eq, decide_eq_true_eq, List.all_eq_true] at h
  refine ⟨?_, Nat.zero_le _, ?_⟩
  · show PySem.PyData.canLay0 (.str z) = true
    unfold PySem.PyData.canLay0 PySem.PyData.strOk
    rw [← Array.all_toList, List.all_eq_true]
    intro c hc
    have := h.2.2 c hc
    unfold lowC at this
    rw [Bool.and_eq_true, decide_eq_true_eq, decide_eq_true_eq] at this
    exact decide_eq_true (by omega)
  · show decide (z.length ≤ 1000) = true
    exact decide_eq_true (by omega)
/-! ### good callers -/
def mD (m : List Str) : PyData := .tuple (m.map PyData.str)
def cD (ms : List (List Str)) (b : Bool) : PyData := .tuple [.tuple (ms.map mD), .bool b]
structure GoodM (zs m : List Str) : Prop where
  l1 : 1 ≤ m.length
  l6 : m.length ≤ 6
  nd : m.Nodup
  sub : ∀ x ∈ m, x ∈ zs
structure GoodC (zs : List Str) (ms : List (List Str)) : Prop where
  l1 : 1 ≤ ms.length
  l4 : ms.length ≤ 4
  all : ∀ m ∈ ms, GoodM zs m
structure Names8 (zs : List Str) : Prop where
  len : zs.length = 8
  nm : ∀ z ∈ zs, nameS z = true
  nd : zs.Nodup
theorem strD_map (m : List Str) : (m.map PyData.str).map strD = m := by
  rw [List.map_map]
  exact List.map_id m
theorem menuD_good {zs m : List Str} (N : Names8 zs) (g : GoodM zs m) : menuD (mD m) = true := by
  have a : (m.map PyData.str).all nameD = true := by
    rw [List.all_map, List.all_eq_true]
    exact fun x hx => N.nm x (g.sub x hx)
  show (decide (1 ≤ (m.map PyData.str).length) && (decide ((m.map PyData.str).length ≤ 6) && ((m.map PyData.str).all nameD && decide (((m.map PyData.str).map strD).Nodup)))) = true
  rw [strD_map, a, List.length_map, decide_eq_true g.l1, decide_eq_true g.l6, decide_eq_true g.nd]; rfl
theorem callerD_good {zs : List Str} {ms : List (List Str)} {b : Bool} (N : Names8 zs) (g : GoodC zs ms) : callerD (cD ms b) = true := by
  have a : (ms.map mD).all menuD = true := by
    rw [List.all_map, List.all_eq_true]
    exact fun m hm => menuD_good N (g.all m hm)
  show (decide (1 ≤ (ms.map mD).length) && (decide ((ms.map mD).length ≤ 4) && (ms.map mD).all menuD)) = true
  rw [a, List.length_map, decide_eq_true g.l1, decide_eq_true g.l4]; rfl
theorem okD_menu {zs m : List Str} (N : Names8 zs) (g : ∀ x ∈ m, x ∈ zs) : OkD 1 (mD m) := OkD.tup fun d hd => by
  obtain ⟨x, hx, rfl⟩ := List.mem_map.mp hd
  exact okD_name (N.nm x (g x hx))
theorem okD_bool (b : Bool) : OkD 0 (.bool b) := ⟨rfl, Nat.zero_le _, rfl⟩
theorem okD_caller {zs : List Str} {ms : List (List Str)} {b : Bool} (N : Names8 zs) (g : GoodC zs ms) : OkD 3 (cD ms b) := OkD.tup fun d hd => by
  rcases List.mem_cons.mp hd with rfl | hd
  · exact OkD.tup fun d hd => by
      obtain ⟨m, hm, rfl⟩ := List.mem_map.mp hd
      exact okD_menu N (g.all m hm).sub
  · rw [List.mem_singleton.mp hd]
    exact (okD_bool b).mono (by decide)
/-- the tuples of a good caller -/
def CAt (H : Hp) (p : Addr) (ms : List (List Str)) (b : Bool) : Prop := ∃ (mt : Addr) (us : List V), H p = some (.tup [.ref mt, .bl b]) ∧ H mt = some (.tup us) ∧ us.length = ms.length ∧ ∀ (i : Nat) (m : List Str), ms[i]? = some m → ∃ t, us[i]? = some (.ref t) ∧ H t = some (.tup (m.map V.str))
theorem fdAll_menus {H0 H : Hp} : ∀ {ms : List (List Str)} {us : List V}, us.length = ms.length → (∀ (i : Nat) (m : List Str), ms[i]? = some m → ∃ t, us[i]? = some (.ref t) ∧ H t = some (.tup (m.map V.str))) → FdAll H0 H us (ms.map mD)
  | [], [], _, _ => .nil
  | m :: ms, [], e, _ => by cases e
  | [], u :: us, e, _ => by cases e
  | m :: ms, u :: us, e, h => by
    obtain ⟨t, e1, e2⟩ := h 0 m rfl
    cases e1
    exact .cons (.tup e2 (FdAll.strs m)) (fdAll_menus (by simpa using e) fun i m' q => h (i + 1) m' q)
theorem CAt.kp {H H' : Hp} {p : Addr} {ms : List (List Str)} {b : Bool} (h : CAt H p ms b) {S : List Addr} (k : Kp S H H') (hS : ∀ a ∈ S, ∃ xs, H a = some (.lst xs)) : CAt H' p ms b := by
  obtain ⟨mt, us, h1, h2, h3, h4⟩ := h
  have go : ∀ {a : Addr} {xs : List V}, H a = some (.tup xs) → H' a = some (.tup xs) := fun e => k _ _ (fun m => by
    obtain ⟨xs, q⟩ := hS _ m
    rw [e] at q; cases q) e
  refine ⟨mt, us, go h1, go h2, h3, fun i m q => ?_⟩
  obtain ⟨t, e1, e2⟩ := h4 i m q
  exact ⟨t, e1, go e2⟩
theorem CAt.fd {H0 H : Hp} {p : Addr} {ms : List (List Str)} {b : Bool} (h : CAt H p ms b) : Fd H0 H (.ref p) (cD ms b) := by
  obtain ⟨mt, us, h1, h2, h3, h4⟩ := h
  exact .tup h1 (.cons (.tup h2 (fdAll_menus h3 h4)) (.cons (.bl b) .nil))
/-- a comprehension over range(m), the bound being reckoned without a change -/
theorem lcRg {ta : TA} {g : TG} {tt : TT} {te : TE} {vs : List Nat} {σ : L2.St} {H : Hp} {Q : VK} (m : Int) (Pv : Addr → Nat → Hp → Prop) (ht : ∀ R : List V → Hp → Prop, R [.int m] H → ta σ H R) (h1 : -(2 ^ 62) ≤ m) (h2 : m < 2 ^ 62) (h0 : ∀ o, H o = none → Pv o 0 (upd H o (.lst [])))
    (step : ∀ o i H', H o = none → i < m.toNat → Pv o i H' → g (.int (0 + i)) (wipe σ vs) H' fun σ2 H2 => wipe σ2 vs = wipe σ vs ∧ tt σ2 H2 fun b H3 => if b = true then te σ2 H3 fun y H4 => ∃ acc, H4 o = some (.lst acc) ∧ acc.length < sizeLine ∧ Pv o (i + 1) (upd H4 o (.lst (acc ++ [y]))) else Pv o (i + 1) H3)
    (fin : ∀ o H', H o = none → Pv o m.toNat H' → Q (.ref o) H') : tLc (iRng1 ta) g tt te vs σ H Q :=
  ht _ ⟨m, rfl, h1, h2, fun o no => lc_range (Pv o) (h0 o no) (fun i H' hi p => step o i H' no hi p) fun H' p => fin o H' no p⟩
theorem nodup_ix {α : Type} {zs : List α} (nd : zs.Nodup) {i j : Nat} (hi : i < zs.length) (hj : j < zs.length) (e : zs[i] = zs[j]) : i = j := by
  have p := List.pairwise_iff_getElem.mp nd
  rcases Nat.lt_trichotomy i j with h | h | h
  · exact absurd e (p i j hi hj h)
  · exact h
  · exact absurd e.symm (p j i hj hi h)
/-- n names from the one with the number f on, round and round -/
def run8 (zs : List Str) (f n : Nat) : List Str := (List.range n).map fun i => zs.getD ((f + i) % 8) Str.empty
theorem run8_succ (zs : List Str) (f n : Nat) : run8 zs f (n + 1) = run8 zs f n ++ [zs.getD ((f + n) % 8) Str.empty] := by
  unfold run8
  rw [List.range_succ, List.map_append]; rfl
theorem getD8 {zs : List Str} (N : Names8 zs) (i : Nat) : zs[i % 8]? = some (zs.getD (i % 8) Str.empty) := by
  have h : i % 8 < zs.length := by rw [N.len]; exact Nat.mod_lt _ (by decide)
  rw [List.getD_eq_getElem?_getD, List.getElem?_eq_getElem h]; rfl
theorem run8_good {zs : List Str} (N : Names8 zs) {f n : Nat} (h1 : 1 ≤ n) (h6 : n ≤ 6) : GoodM zs (run8 zs f n) := by
  refine ⟨by unfold run8; rw [List.length_map, List.length_range]; exact h1, by unfold run8; rw [List.length_map, List.length_range]; exact h6, ?_, ?_⟩
  · unfold run8 List.Nodup
    rw [List.pairwise_map]
    refine List.Pairwise.imp_of_mem ?_ List.pairwise_lt_range
    intro x y hx hy hxy e
    have hx' := List.mem_range.mp hx
    have hy' := List.mem_range.mp hy
    have g1 := getD8 N (f + x)
    have g2 := getD8 N (f + y)
    rw [e, ← g2] at g1
    have l1 : (f + x) % 8 < zs.length := by rw [N.len]; exact Nat.mod_lt _ (by decide)
    have l2 : (f + y) % 8 < zs.length := by rw [N.len]; exact Nat.mod_lt _ (by decide)
    rw [List.getElem?_eq_getElem l1, List.getElem?_eq_getElem l2] at g1
    have := nodup_ix N.nd l1 l2 (Option.some.inj g1)
    omega
  · intro x hx
    obtain ⟨i, _, rfl⟩ := List.mem_map.mp hx
    exact List.mem_of_getElem? (getD8 N (f + i))
structure BtG (mg : Str → Option Value) : Prop extends BtE mg
def spCal (K : PySem.W.Frag) : Sp := fun vs H Q _ => ∃ (a : Addr) (cell more : Int) (zs : List Str), vs = [.ref a, .int cell, .int more] ∧ 0 ≤ cell ∧ cell < 1000 ∧ 0 ≤ more ∧ more < 1000 ∧ SqL K H a (zs.map V.str) ∧ Names8 zs ∧
  ∀ (p : Addr) (ms : List (List Str)) (b : Bool) (H' : Hp), H p = none → CAt H' p ms b → GoodC zs ms → Kp [] H H' → Q (.ref p) H'
def spWith (K : PySem.W.Frag) : Sp := fun vs H Q _ => ∃ (mt : Addr) (i : Nat) (v : V) (us : List V), vs = [.ref mt, .int i, v] ∧ H mt = some (.tup us) ∧ us.length ≤ 100 ∧ ∀ (p : Addr) (H' : Hp), H p = none → H' p = some (.tup (us.set i v)) → Kp [] H H' → Q (.ref p) H'
section
variable {P : Program} {w : World} {K : PySem.W.Frag} {mg : Str → Option Value} {base : Heap}
theorem ok_law_with {f : Addr} {fd : FuncData} (D : Df K mg "_law_with" s_law_with ["_law_menus", "_law_at", "_law_menu"] f fd) (T : BtG mg) : FnOk P w K mg base CX0 1 f fd ["_law_menus", "_law_at", "_law_menu"] (spWith K) := by
  refine D.F.ok sc_law_with (fun vs H Q E h => ?_) (fun cdv A outer s H vs Q E hr h => ?_)
  · obtain ⟨_, _, _, _, rfl, _⟩ := h
    rfl
  · obtain ⟨mt, i, v, us, rfl, hm, hl, q⟩ := h
    refine ⟨_, (pss_one (ps_ret (pe_callTy call_tuple_of (by rfl) T.b_tuple (by decide +kernel) (pa_cons (pe_lc (own := [("_law_k", 3)]) (g := (gName 3)) (tt := tYes) rfl sc_law_with.nd (pi_range1 rfl T.b_range (pa_cons (pe_callB (id := "len") (r := Evl.rLenS K) call_len_seq (by rfl) T.b_len PySem.boot_len (pa_cons (pv 0) pa_nil)) pa_nil)) (blkOk_by (N := ["_law_menus", "_law_at", "_law_menu", "_law_k"]) (sc := defScope s_law_with) (by decide +kernel)) (fun _ _ _ _ _ => (pg_name (i := 3) sc_law_with.nd rfl (Or.inl rfl))) (fun _ _ _ _ _ => pts_nil) (fun _ _ _ _ _ => (pe_ifExp (pt_cmpR op_eq (pv 3) (pv 1) (nomark _)) (pv 2) (pe_ix (r := rIxT K) ix_tup (pv 0) (pv 3) (fun _ _ => rfl))))) pa_nil)))), ?_⟩
    try simp only [tSeq, tIfS, tTest, tOp, tUn, tCB, tCons, tNil, tVar, tC, rI0, rI, rU, rEq, rNe, tRet, tRetN, tAsg, gName, gSub, tBM, tBM0, tNext, tB, tNot, tAnd, tOr, tIf, tCall, tDrop, tBreak, tCont, L2.start, tDGet, sDPut, tTup, tLst, tDNewK, tRevL, rCat, rAppend, rPop, rSetL, tAndV, tOrV, tNotV, tSl, tPart, tNoPart, tM1, gTup, gCons, gNil, cxK, cxnK, List.map_cons, List.map_nil, List.length_cons, List.length_nil, List.replicate, List.cons_append, List.nil_append, List.append_nil, List.set_cons_zero, List.set_cons_succ, List.getElem?_cons_zero, List.getElem?_cons_succ, Option.some.injEq, V.ref.injEq, V.int.injEq, V.str.injEq, V.bl.injEq, V.ty.injEq, exists_eq_left', exists_eq_left, exists_and_left, List.cons.injEq, and_true, true_and, sc_ii, sc_ss, sc_bb, sc_ni, sc_in, sc_is, sc_si, sc_nn, decide_true, decide_false, reduceCtorEq, Bool.false_eq_true, if_true, if_false, ite_true, ite_false, exists_const, eq_self, false_and, and_false, or_false, false_or, exists_false, Evl.rLenS, rSum, wipe, tYes, exists_eq, exists_eq', rIxL, rIxT, rIxS, exists_and_right, gt_iff_lt, not_true_eq_false, not_false_eq_true, Bool.not_true, Bool.not_false, decide_eq_true_eq, Nat.reduceSub, Nat.reduceAdd, List.append_assoc, tChain, tDIn, tDNotIn, sDDel, tAug, ipI]
    refine lcRg ((us.length : Nat) : Int) (fun o j H' => H' o = some (.lst ((us.set i v).take j)) ∧ Kp [] H H') ?_ (by omega) (by omega) (fun o no => ⟨upd_same, Kp.new no⟩) ?_ ?_
    · intro R hR
      try simp only [tSeq, tIfS, tTest, tOp, tUn, tCB, tCons, tNil, tVar, tC, rI0, rI, rU, rEq, rNe, tRet, tRetN, tAsg, gName, gSub, tBM, tBM0, tNext, tB, tNot, tAnd, tOr, tIf, tCall, tDrop, tBreak, tCont, L2.start, tDGet, sDPut, tTup, tLst, tDNewK, tRevL, rCat, rAppend, rPop, rSetL, tAndV, tOrV, tNotV, tSl, tPart, tNoPart, tM1, gTup, gCons, gNil, cxK, cxnK, List.map_cons, List.map_nil, List.length_cons, List.length_nil, List.replicate, List.cons_append, List.nil_append, List.append_nil, List.set_cons_zero, List.set_cons_succ, List.getElem?_cons_zero, List.getElem?_cons_succ, Option.some.injEq, V.ref.injEq, V.int.injEq, V.str.injEq, V.bl.injEq, V.ty.injEq, exists_eq_left', exists_eq_left, exists_and_left, List.cons.injEq, and_true, true_and, sc_ii, sc_ss, sc_bb, sc_ni, sc_in, sc_is, sc_si, sc_nn, decide_true, decide_false, reduceCtorEq, Bool.false_eq_true, if_true, if_false, ite_true, ite_false, exists_const, eq_self, false_and, and_false, or_false, false_or, exists_false, Evl.rLenS, rSum, wipe, tYes, exists_eq, exists_eq', rIxL, rIxT, rIxS, exists_and_right, gt_iff_lt, not_true_eq_false, not_false_eq_true, Bool.not_true, Bool.not_false, decide_eq_true_eq, Nat.reduceSub, Nat.reduceAdd, List.append_assoc, tChain, tDIn, tDNotIn, sDDel, tAug, ipI]
      exact ⟨us, .inr (sq_t hm), hR⟩
    · rintro o j H' no hj ⟨ho, k⟩
      have hj' : j < us.length := by omega
      try simp only [tSeq, tIfS, tTest, tOp, tUn, tCB, tCons, tNil, tVar, tC, rI0, rI, rU, rEq, rNe, tRet, tRetN, tAsg, gName, gSub, tBM, tBM0, tNext, tB, tNot, tAnd, tOr, tIf, tCall, tDrop, tBreak, tCont, L2.start, tDGet, sDPut, tTup, tLst, tDNewK, tRevL, rCat, rAppend, rPop, rSetL, tAndV, tOrV, tNotV, tSl, tPart, tNoPart, tM1, gTup, gCons, gNil, cxK, cxnK, List.map_cons, List.map_nil, List.length_cons, List.length_nil, List.replicate, List.cons_append, List.nil_append, List.append_nil, List.set_cons_zero, List.set_cons_succ, List.getElem?_cons_zero, List.getElem?_cons_succ, Option.some.injEq, V.ref.injEq, V.int.injEq, V.str.injEq, V.bl.injEq, V.ty.injEq, exists_eq_left', exists_eq_left, exists_and_left, List.cons.injEq, and_true, true_and, sc_ii, sc_ss, sc_bb, sc_ni, sc_in, sc_is, sc_si, sc_nn, decide_true, decide_false, reduceCtorEq, Bool.false_eq_true, if_true, if_false, ite_true, ite_false, exists_const, eq_self, false_and, and_false, or_false, false_or, exists_false, Evl.rLenS, rSum, wipe, tYes, exists_eq, exists_eq', rIxL, rIxT, rIxS, exists_and_right, gt_iff_lt, not_true_eq_false, not_false_eq_true, Bool.not_true, Bool.not_false, decide_eq_true_eq, Nat.reduceSub, Nat.reduceAdd, List.append_assoc, tChain, tDIn, tDNotIn, sDDel, tAug, ipI]
      have ix : (0 + (j : Int)) = ((j : Nat) : Int) := Int.zero_add _
      rw [ix]
      have step : ∀ y : V, (us.set i v)[j]? = some y → ∃ acc, H' o = some (.lst acc) ∧ acc.length < sizeLine ∧ upd H' o (.lst (acc ++ [y])) o = some (.lst ((us.set i v).take (j + 1))) ∧ Kp [] H (upd H' o (.lst (acc ++ [y]))) := by
        intro y hy
        refine ⟨_, ho, ?_, ?_, k.wr no⟩
        · rw [List.length_take, List.length_set]; exact smallL (by omega)
        · rw [upd_same, take_snoc hy]
      refine ite2 (fun e => ?_) (fun e => ?_)
      · have e' : j = i := by omega
        exact step v (by rw [← e', List.getElem?_set_self hj'])
      · have e' : i ≠ j := fun z => e (by rw [z])
        refine ⟨_, k.tp not0 (sq_t hm), us[j], atI_nat (List.getElem?_eq_getElem hj'), step _ ?_⟩
        rw [List.getElem?_set_ne e', List.getElem?_eq_getElem hj']
    · rintro o H' no ⟨ho, k⟩
      try simp only [tSeq, tIfS, tTest, tOp, tUn, tCB, tCons, tNil, tVar, tC, rI0, rI, rU, rEq, rNe, tRet, tRetN, tAsg, gName, gSub, tBM, tBM0, tNext, tB, tNot, tAnd, tOr, tIf, tCall, tDrop, tBreak, tCont, L2.start, tDGet, sDPut, tTup, tLst, tDNewK, tRevL, rCat, rAppend, rPop, rSetL, tAndV, tOrV, tNotV, tSl, tPart, tNoPart, tM1, gTup, gCons, gNil, cxK, cxnK, List.map_cons, List.map_nil, List.length_cons, List.length_nil, List.replicate, List.cons_append, List.nil_append, List.append_nil, List.set_cons_zero, List.set_cons_succ, List.getElem?_cons_zero, List.getElem?_cons_succ, Option.some.injEq, V.ref.injEq, V.int.injEq, V.str.injEq, V.bl.injEq, V.ty.injEq, exists_eq_left', exists_eq_left, exists_and_left, List.cons.injEq, and_true, true_and, sc_ii, sc_ss, sc_bb, sc_ni, sc_in, sc_is, sc_si, sc_nn, decide_true, decide_false, reduceCtorEq, Bool.false_eq_true, if_true, if_false, ite_true, ite_false, exists_const, eq_self, false_and, and_false, or_false, false_or, exists_false, Evl.rLenS, rSum, wipe, tYes, exists_eq, exists_eq', rIxL, rIxT, rIxS, exists_and_right, gt_iff_lt, not_true_eq_false, not_false_eq_true, Bool.not_true, Bool.not_false, decide_eq_true_eq, Nat.reduceSub, Nat.reduceAdd, List.append_assoc, tChain, tDIn, tDNotIn, sDDel, tAug, ipI]
      refine ⟨_, .inl ⟨sq_l ho, fun p np => q p _ (k.free0 np) ?_ (k.trans (Kp.new np))⟩⟩
      have e : ((us.length : Nat) : Int).toNat = (us.set i v).length := by rw [List.length_set]; rfl
      rw [upd_same, e, List.take_length]
theorem ok_law_caller {f : Addr} {fd : FuncData} (D : Df K mg "_law_caller" s_law_caller ["_law_names", "_law_cell", "_law_more"] f fd) (T : BtG mg) : FnOk P w K mg base CX0 1 f fd ["_law_names", "_law_cell", "_law_more"] (spCal K) := by
  refine D.F.ok sc_law_caller (fun vs H Q E h => ?_) (fun cdv A outer s H vs Q E hr h => ?_)
  · obtain ⟨_, _, _, _, rfl, _⟩ := h
    rfl
  · obtain ⟨a, cell, more, zs, rfl, c0, c1, m0, m1, hS, N, q⟩ := h
    refine ⟨_, (pss_cons (ps_set (i := 3) sc_law_caller.nd rfl (Or.inl rfl) (pe_lst pa_nil))
      (pss_cons (ps_for PassesOwn.never rfl (pi_range1 rfl T.b_range (pa_cons (pe_op op_add pe_int (pe_op op_mod (pv 1) pe_int)) pa_nil)) (pg_name (i := 4) sc_law_caller.nd rfl (Or.inl rfl)) (pss_cons (ps_set (i := 5) sc_law_caller.nd rfl (Or.inr rfl) (pe_op op_add (pe_op op_fdiv (pv 1) pe_int) (pe_op op_mul pe_int (pv 4))))
      (pss_one (ps_expr (pe_bm PySem.F.plainAttrs_list PySem.F.slot_list_append PySem.F.type_list_append mt_append (pv 3) (pa_cons (pe_callTy call_tuple_of (by rfl) T.b_tuple (by decide +kernel) (pa_cons (pe_lc (own := [("_law_j", 6)]) (g := (gName 6)) (tt := tYes) rfl sc_law_caller.nd (pi_range1 rfl T.b_range (pa_cons (pe_op op_add pe_int (pe_op op_mod (pe_op op_add (pv 2) (pe_op op_mul pe_int (pv 4))) pe_int)) pa_nil)) (blkOk_by (N := ["_law_names", "_law_cell", "_law_more", "_law_menus", "_law_k", "_law_first", "_law_j"]) (sc := defScope s_law_caller) (by decide +kernel)) (fun _ _ _ _ _ => (pg_name (i := 6) sc_law_caller.nd rfl (Or.inl rfl))) (fun _ _ _ _ _ => pts_nil) (fun _ _ _ _ _ => (pe_ix (r := rIxL K) ix_list (pv 0) (pe_op op_mod (pe_op op_add (pv 5) (pv 6)) pe_int) (fun _ _ => rfl)))) pa_nil)) pa_nil))))))
      (pss_one (ps_ret (pe_tup (pa_cons (pe_callTy call_tuple_of (by rfl) T.b_tuple (by decide +kernel) (pa_cons (pv 3) pa_nil)) (pa_cons (pe_cmpR op_eq (pe_op op_mod (pe_op op_fdiv (pv 2) pe_int) pe_int) pe_int (nomark _)) pa_nil))))))), ?_⟩
    try simp only [tSeq, tIfS, tTest, tOp, tUn, tCB, tCons, tNil, tVar, tC, rI0, rI, rU, rEq, rNe, tRet, tRetN, tAsg, gName, gSub, tBM, tBM0, tNext, tB, tNot, tAnd, tOr, tIf, tCall, tDrop, tBreak, tCont, L2.start, tDGet, sDPut, tTup, tLst, tDNewK, tRevL, rCat, rAppend, rPop, rSetL, tAndV, tOrV, tNotV, tSl, tPart, tNoPart, tM1, gTup, gCons, gNil, cxK, cxnK, List.map_cons, List.map_nil, List.length_cons, List.length_nil, List.replicate, List.cons_append, List.nil_append, List.append_nil, List.set_cons_zero, List.set_cons_succ, List.getElem?_cons_zero, List.getElem?_cons_succ, Option.some.injEq, V.ref.injEq, V.int.injEq, V.str.injEq, V.bl.injEq, V.ty.injEq, exists_eq_left', exists_eq_left, exists_and_left, List.cons.injEq, and_true, true_and, sc_ii, sc_ss, sc_bb, sc_ni, sc_in, sc_is, sc_si, sc_nn, decide_true, decide_false, reduceCtorEq, Bool.false_eq_true, if_true, if_false, ite_true, ite_false, exists_const, eq_self, false_and, and_false, or_false, false_or, exists_false, Evl.rLenS, rSum, wipe, tYes, exists_eq, exists_eq', rIxL, rIxT, rIxS, exists_and_right, gt_iff_lt, not_true_eq_false, not_false_eq_true, Bool.not_true, Bool.not_false, decide_eq_true_eq, Nat.reduceSub, Nat.reduceAdd, List.append_assoc, tChain, tDIn, tDNotIn, sDDel, tAug, ipI]
    refine ⟨small (by decide), fun o no => ?_⟩
    have hao : ∀ {H' : Hp}, Kp [] H H' → SqL K H' a (zs.map V.str) := fun k => k.ls not0 hS
    refine forRg (1 + cell % 4) (fun j σ H' => ∃ (us : List V) (ms : List (List Str)) (c4 c5 c6 : Option V), σ = [some (.ref a), some (.int cell), some (.int more), some (.ref o), c4, c5, c6] ∧ H' o = some (.lst us) ∧ us.length = j ∧ ms.length = j ∧ (∀ m ∈ ms, GoodM zs m) ∧ (∀ (i : Nat) (m : List Str), ms[i]? = some m → ∃ t, us[i]? = some (.ref t) ∧ H' t = some (.tup (m.map V.str))) ∧ Kp [] H H') ?_ (by omega) (by omega)
      ⟨[], [], none, none, none, rfl, upd_same, rfl, rfl, (fun m hm => nomatch hm), (fun i m e => nomatch e), Kp.new no⟩ ?_ ?_
    · intro R hR
      try simp only [tSeq, tIfS, tTest, tOp, tUn, tCB, tCons, tNil, tVar, tC, rI0, rI, rU, rEq, rNe, tRet, tRetN, tAsg, gName, gSub, tBM, tBM0, tNext, tB, tNot, tAnd, tOr, tIf, tCall, tDrop, tBreak, tCont, L2.start, tDGet, sDPut, tTup, tLst, tDNewK, tRevL, rCat, rAppend, rPop, rSetL, tAndV, tOrV, tNotV, tSl, tPart, tNoPart, tM1, gTup, gCons, gNil, cxK, cxnK, List.map_cons, List.map_nil, List.length_cons, List.length_nil, List.replicate, List.cons_append, List.nil_append, List.append_nil, List.set_cons_zero, List.set_cons_succ, List.getElem?_cons_zero, List.getElem?_cons_succ, Option.some.injEq, V.ref.injEq, V.int.injEq, V.str.injEq, V.bl.injEq, V.ty.injEq, exists_eq_left', exists_eq_left, exists_and_left, List.cons.injEq, and_true, true_and, sc_ii, sc_ss, sc_bb, sc_ni, sc_in, sc_is, sc_si, sc_nn, decide_true, decide_false, reduceCtorEq, Bool.false_eq_true, if_true, if_false, ite_true, ite_false, exists_const, eq_self, false_and, and_false, or_false, false_or, exists_false, Evl.rLenS, rSum, wipe, tYes, exists_eq, exists_eq', rIxL, rIxT, rIxS, exists_and_right, gt_iff_lt, not_true_eq_false, not_false_eq_true, Bool.not_true, Bool.not_false, decide_eq_true_eq, Nat.reduceSub, Nat.reduceAdd, List.append_assoc, tChain, tDIn, tDNotIn, sDDel, tAug, ipI]
      exact ⟨by decide, hR⟩
    · rintro j σ H1 hj ⟨us, ms, c4, c5, c6, rfl, ho, lu, lm, gm, hm, k⟩
      have hj4 : j < 4 := by omega
      try simp only [tSeq, tIfS, tTest, tOp, tUn, tCB, tCons, tNil, tVar, tC, rI0, rI, rU, rEq, rNe, tRet, tRetN, tAsg, gName, gSub, tBM, tBM0, tNext, tB, tNot, tAnd, tOr, tIf, tCall, tDrop, tBreak, tCont, L2.start, tDGet, sDPut, tTup, tLst, tDNewK, tRevL, rCat, rAppend, rPop, rSetL, tAndV, tOrV, tNotV, tSl, tPart, tNoPart, tM1, gTup, gCons, gNil, cxK, cxnK, List.map_cons, List.map_nil, List.length_cons, List.length_nil, List.replicate, List.cons_append, List.nil_append, List.append_nil, List.set_cons_zero, List.set_cons_succ, List.getElem?_cons_zero, List.getElem?_cons_succ, Option.some.injEq, V.ref.injEq, V.int.injEq, V.str.injEq, V.bl.injEq, V.ty.injEq, exists_eq_left', exists_eq_left, exists_and_left, List.cons.injEq, and_true, true_and, sc_ii, sc_ss, sc_bb, sc_ni, sc_in, sc_is, sc_si, sc_nn, decide_true, decide_false, reduceCtorEq, Bool.false_eq_true, if_true, if_false, ite_true, ite_false, exists_const, eq_self, false_and, and_false, or_false, false_or, exists_false, Evl.rLenS, rSum, wipe, tYes, exists_eq, exists_eq', rIxL, rIxT, rIxS, exists_and_right, gt_iff_lt, not_true_eq_false, not_false_eq_true, Bool.not_true, Bool.not_false, decide_eq_true_eq, Nat.reduceSub, Nat.reduceAdd, List.append_assoc, tChain, tDIn, tDNotIn, sDDel, tAug, ipI]
      have q0 : 0 ≤ cell / 4 + 3 * (0 + (j : Int)) := by omega
      have r0 : 0 ≤ (more + 2 * (0 + (j : Int))) % 6 := Int.emod_nonneg _ (by decide)
      have r1 : (more + 2 * (0 + (j : Int))) % 6 < 6 := Int.emod_lt_of_pos _ (by decide)
      refine ⟨⟨by decide, by decide⟩, .inl ⟨by decide, by decide⟩, .inl ⟨rfl, _, sq_l ho⟩, ?_⟩
      generalize hf : cell / 4 + 3 * (0 + (j : Int)) = f at q0 ⊢
      refine lcRg (1 + (more + 2 * (0 + (j : Int))) % 6) (fun o2 i H' => H' o2 = some (.lst ((run8 zs f.toNat i).map V.str)) ∧ Kp [] H1 H') ?_ (by omega) (by omega) (fun o2 no2 => ⟨upd_same, Kp.new no2⟩) ?_ ?_
      · intro R hR
        try simp only [tSeq, tIfS, tTest, tOp, tUn, tCB, tCons, tNil, tVar, tC, rI0, rI, rU, rEq, rNe, tRet, tRetN, tAsg, gName, gSub, tBM, tBM0, tNext, tB, tNot, tAnd, tOr, tIf, tCall, tDrop, tBreak, tCont, L2.start, tDGet, sDPut, tTup, tLst, tDNewK, tRevL, rCat, rAppend, rPop, rSetL, tAndV, tOrV, tNotV, tSl, tPart, tNoPart, tM1, gTup, gCons, gNil, cxK, cxnK, List.map_cons, List.map_nil, List.length_cons, List.length_nil, List.replicate, List.cons_append, List.nil_append, List.append_nil, List.set_cons_zero, List.set_cons_succ, List.getElem?_cons_zero, List.getElem?_cons_succ, Option.some.injEq, V.ref.injEq, V.int.injEq, V.str.injEq, V.bl.injEq, V.ty.injEq, exists_eq_left', exists_eq_left, exists_and_left, List.cons.injEq, and_true, true_and, sc_ii, sc_ss, sc_bb, sc_ni, sc_in, sc_is, sc_si, sc_nn, decide_true, decide_false, reduceCtorEq, Bool.false_eq_true, if_true, if_false, ite_true, ite_false, exists_const, eq_self, false_and, and_false, or_false, false_or, exists_false, Evl.rLenS, rSum, wipe, tYes, exists_eq, exists_eq', rIxL, rIxT, rIxS, exists_and_right, gt_iff_lt, not_true_eq_false, not_false_eq_true, Bool.not_true, Bool.not_false, decide_eq_true_eq, Nat.reduceSub, Nat.reduceAdd, List.append_assoc, tChain, tDIn, tDNotIn, sDDel, tAug, ipI]
        exact ⟨.inl ⟨by decide, by decide⟩, by decide, hR⟩
      · rintro o2 i H2 no2 hi ⟨ho2, k2⟩
        have hi6 : i < 6 := by omega
        try simp only [tSeq, tIfS, tTest, tOp, tUn, tCB, tCons, tNil, tVar, tC, rI0, rI, rU, rEq, rNe, tRet, tRetN, tAsg, gName, gSub, tBM, tBM0, tNext, tB, tNot, tAnd, tOr, tIf, tCall, tDrop, tBreak, tCont, L2.start, tDGet, sDPut, tTup, tLst, tDNewK, tRevL, rCat, rAppend, rPop, rSetL, tAndV, tOrV, tNotV, tSl, tPart, tNoPart, tM1, gTup, gCons, gNil, cxK, cxnK, List.map_cons, List.map_nil, List.length_cons, List.length_nil, List.replicate, List.cons_append, List.nil_append, List.append_nil, List.set_cons_zero, List.set_cons_succ, List.getElem?_cons_zero, List.getElem?_cons_succ, Option.some.injEq, V.ref.injEq, V.int.injEq, V.str.injEq, V.bl.injEq, V.ty.injEq, exists_eq_left', exists_eq_left, exists_and_left, List.cons.injEq, and_true, true_and, sc_ii, sc_ss, sc_bb, sc_ni, sc_in, sc_is, sc_si, sc_nn, decide_true, decide_false, reduceCtorEq, Bool.false_eq_true, if_true, if_false, ite_true, ite_false, exists_const, eq_self, false_and, and_false, or_false, false_or, exists_false, Evl.rLenS, rSum, wipe, tYes, exists_eq, exists_eq', rIxL, rIxT, rIxS, exists_and_right, gt_iff_lt, not_true_eq_false, not_false_eq_true, Bool.not_true, Bool.not_false, decide_eq_true_eq, Nat.reduceSub, Nat.reduceAdd, List.append_assoc, tChain, tDIn, tDNotIn, sDDel, tAug, ipI]
        have en : (f + (0 + (i : Int))) % 8 = (((f.toNat + i) % 8 : Nat) : Int) := by omega
        rw [en]
        refine ⟨by decide, _, hao (k.trans k2), .str (zs.getD ((f.toNat + i) % 8) Str.empty), atI_nat (by rw [List.getElem?_map, getD8 N]; rfl), _, ho2, ?_, ?_, k2.wr no2⟩
        · rw [List.length_map]; unfold run8; rw [List.length_map, List.length_range]; exact smallL (by omega)
        · rw [upd_same, run8_succ, List.map_append]; rfl
      · rintro o2 H2 no2 ⟨ho2, k2⟩
        try simp only [tSeq, tIfS, tTest, tOp, tUn, tCB, tCons, tNil, tVar, tC, rI0, rI, rU, rEq, rNe, tRet, tRetN, tAsg, gName, gSub, tBM, tBM0, tNext, tB, tNot, tAnd, tOr, tIf, tCall, tDrop, tBreak, tCont, L2.start, tDGet, sDPut, tTup, tLst, tDNewK, tRevL, rCat, rAppend, rPop, rSetL, tAndV, tOrV, tNotV, tSl, tPart, tNoPart, tM1, gTup, gCons, gNil, cxK, cxnK, List.map_cons, List.map_nil, List.length_cons, List.length_nil, List.replicate, List.cons_append, List.nil_append, List.append_nil, List.set_cons_zero, List.set_cons_succ, List.getElem?_cons_zero, List.getElem?_cons_succ, Option.some.injEq, V.ref.injEq, V.int.injEq, V.str.injEq, V.bl.injEq, V.ty.injEq, exists_eq_left', exists_eq_left, exists_and_left, List.cons.injEq, and_true, true_and, sc_ii, sc_ss, sc_bb, sc_ni, sc_in, sc_is, sc_si, sc_nn, decide_true, decide_false, reduceCtorEq, Bool.false_eq_true, if_true, if_false, ite_true, ite_false, exists_const, eq_self, false_and, and_false, or_false, false_or, exists_false, Evl.rLenS, rSum, wipe, tYes, exists_eq, exists_eq', rIxL, rIxT, rIxS, exists_and_right, gt_iff_lt, not_true_eq_false, not_false_eq_true, Bool.not_true, Bool.not_false, decide_eq_true_eq, Nat.reduceSub, Nat.reduceAdd, List.append_assoc, tChain, tDIn, tDNotIn, sDDel, tAug, ipI]
        refine ⟨_, .inl ⟨sq_l ho2, fun t nt => ?_⟩⟩
        generalize hn : (1 + (more + 2 * (0 + (j : Int))) % 6).toNat = n at ho2
        have g := run8_good N (f := f.toNat) (show 1 ≤ n by omega) (show n ≤ 6 by omega)
        generalize run8 zs f.toNat n = m at g ho2
        have k3 : Kp [] H1 (upd H2 t (.tup (m.map V.str))) := k2.trans (Kp.new nt)
        have ho3 := k3 _ _ not0 ho
        refine ⟨us, ho3, smallL (by omega), us ++ [.ref t], upd_same, by rw [List.length_append, lu]; rfl, ms ++ [m], by rw [List.length_append, lm]; rfl, ?_, ?_, (k.trans k3).wr no⟩
        · intro m' hm'
          rcases List.mem_append.mp hm' with h | h
          · exact gm m' h
          · rw [List.mem_singleton.mp h]; exact g
        · intro i m' e
          have keep : ∀ {t' : Addr} {ys : List V}, (upd H2 t (.tup (m.map V.str))) t' = some (.tup ys) → upd (upd H2 t (.tup (m.map V.str))) o (.lst (us ++ [.ref t])) t' = some (.tup ys) := by
            intro t' ys q1
            have ne : t' ≠ o := fun z => by
              rw [z, ho3] at q1
              cases q1
            rw [upd_ne ne]; exact q1
          by_cases hi : i < ms.length
          · rw [List.getElem?_append_left hi] at e
            obtain ⟨t', e1, e2⟩ := hm i m' e
            exact ⟨t', by rw [List.getElem?_append_left (by omega)]; exact e1, keep (k3 _ _ not0 e2)⟩
          · have hl := (List.getElem?_eq_some_iff.mp e).1
            rw [List.length_append, List.length_singleton] at hl
            have ei : i = ms.length := by omega
            subst ei
            rw [List.getElem?_concat_length] at e
            cases e
            refine ⟨t, ?_, keep upd_same⟩
            rw [lm, ← lu]
            exact List.getElem?_concat_length
    · rintro σ H1 ⟨us, ms, c4, c5, c6, rfl, ho, lu, lm, gm, hm, k⟩
      try simp only [tSeq, tIfS, tTest, tOp, tUn, tCB, tCons, tNil, tVar, tC, rI0, rI, rU, rEq, rNe, tRet, tRetN, tAsg, gName, gSub, tBM, tBM0, tNext, tB, tNot, tAnd, tOr, tIf, tCall, tDrop, tBreak, tCont, L2.start, tDGet, sDPut, tTup, tLst, tDNewK, tRevL, rCat, rAppend, rPop, rSetL, tAndV, tOrV, tNotV, tSl, tPart, tNoPart, tM1, gTup, gCons, gNil, cxK, cxnK, List.map_cons, List.map_nil, List.length_cons, List.length_nil, List.replicate, List.cons_append, List.nil_append, List.append_nil, List.set_cons_zero, List.set_cons_succ, List.getElem?_cons_zero, List.getElem?_cons_succ, Option.some.injEq, V.ref.injEq, V.int.injEq, V.str.injEq, V.bl.injEq, V.ty.injEq, exists_eq_left', exists_eq_left, exists_and_left, List.cons.injEq, and_true, true_and, sc_ii, sc_ss, sc_bb, sc_ni, sc_in, sc_is, sc_si, sc_nn, decide_true, decide_false, reduceCtorEq, Bool.false_eq_true, if_true, if_false, ite_true, ite_false, exists_const, eq_self, false_and, and_false, or_false, false_or, exists_false, Evl.rLenS, rSum, wipe, tYes, exists_eq, exists_eq', rIxL, rIxT, rIxS, exists_and_right, gt_iff_lt, not_true_eq_false, not_false_eq_true, Bool.not_true, Bool.not_false, decide_eq_true_eq, Nat.reduceSub, Nat.reduceAdd, List.append_assoc, tChain, tDIn, tDNotIn, sDDel, tAug, ipI]
      refine ⟨us, .inl ⟨sq_l ho, fun mt nmt => ⟨⟨by decide, by decide⟩, by decide, small (by decide), fun p np => ?_⟩⟩⟩
      have k1 : Kp [] H1 (upd H1 mt (.tup us)) := Kp.new nmt
      have k2 : Kp [] (upd H1 mt (.tup us)) (upd (upd H1 mt (.tup us)) p (.tup [.ref mt, .bl (decide (more / 6 % 2 = 1))])) := Kp.new np
      refine q p ms _ _ ((k.trans k1).free0 np) ⟨mt, us, upd_same, k2 _ _ not0 upd_same, by rw [lu, lm], fun i m e => ?_⟩ ⟨by omega, by omega, gm⟩ ((k.trans k1).trans k2)
      obtain ⟨t, e1, e2⟩ := hm i m e
      exact ⟨t, e1, (k1.trans k2) _ _ not0 e2⟩
end
end My

set_option Elab.async false
set_option linter.all false
set_option maxRecDepth 100000
set_option maxHeartbeats 8000000
namespace My
open PySem L2 NdefX
abbrev s_law_spoilt : Stmt := top 25
theorem sc_law_spoilt : FnScope ["_law_caller_here", "_law_names", "_law_cell", "_law_more", "_law_menus", "_law_again", "_law_at", "_law_menu", "_law_place", "_law_odd", "_law_form"] ["_law_caller_here", "_law_names", "_law_cell", "_law_more"] (defScope s_law_spoilt) := ⟨rfl, rfl, rfl, by decide +kernel, rfl, by decide +kernel, by decide +kernel⟩
def spSpo (K : PySem.W.Frag) : Sp := fun vs H Q _ => ∃ (p na : Addr) (cell more : Int) (zs : List Str) (ms : List (List Str)) (b : Bool), vs = [.ref p, .ref na, .int cell, .int more] ∧ CAt H p ms b ∧ GoodC zs ms ∧ Names8 zs ∧ SqL K H na (zs.map V.str) ∧ 0 ≤ more ∧
  ∀ (v : V) (d : PyData) (H' : Hp), Fd H H' v d → callerD d = false → OkD 6 d → Kp [] H H' → Q v H'
theorem bad_set {ms : List PyData} {b : Bool} {i : Nat} (hi : i < ms.length) {x : PyData} (hx : menuD x = false) : callerD (.tuple [.tuple (ms.set i x), .bool b]) = false := by
  have a : (ms.set i x).all menuD = false := by
    rw [Bool.eq_false_iff]
    intro z
    rw [List.all_eq_true] at z
    rw [z x (List.mem_set hi x)] at hx
    cases hx
  show (decide (1 ≤ (ms.set i x).length) && (decide ((ms.set i x).length ≤ 4) && (ms.set i x).all menuD)) = false
  rw [a, Bool.and_false, Bool.and_false]
theorem okD_pair {n : Nat} {x : PyData} {b : Bool} (h : OkD n x) : OkD (n + 1) (.tuple [x, .bool b]) := OkD.tup fun d hd => by
  rcases List.mem_cons.mp hd with rfl | hd
  · exact h
  · rw [List.mem_singleton.mp hd]
    exact (okD_bool b).mono (Nat.zero_le _)
theorem okD_set {n : Nat} {ms : List PyData} (h : ∀ d ∈ ms, OkD n d) {x : PyData} (hx : OkD n x) (i : Nat) : OkD (n + 1) (.tuple (ms.set i x)) := OkD.tup fun d hd => by
  rcases List.mem_or_eq_of_mem_set hd with hd | rfl
  · exact h d hd
  · exact hx
theorem okc {n : Nat} {d : PyData} {ds : List PyData} (h : OkD n d) (t : ∀ x ∈ ds, OkD n x) : ∀ x ∈ d :: ds, OkD n x := fun x hx => by
  rcases List.mem_cons.mp hx with rfl | hx
  · exact h
  · exact t x hx
theorem okn {n : Nat} : ∀ x ∈ ([] : List PyData), OkD n x := fun _ h => nomatch h
theorem okD_non : OkD 0 .none := ⟨rfl, Nat.zero_le _, rfl⟩
theorem okD_int (i : Int) : OkD 0 (.int i) := ⟨rfl, Nat.zero_le _, rfl⟩
theorem okD_p : OkD 0 (.str "p") := okD_name (by decide +kernel)
theorem many_bad {ds : List PyData} {b : Bool} (h : 4 < ds.length) : callerD (.tuple [.tuple ds, .bool b]) = false := by
  show (decide (1 ≤ ds.length) && (decide (ds.length ≤ 4) && ds.all menuD)) = false
  rw [decide_eq_false (show ¬ ds.length ≤ 4 by omega), Bool.false_and, Bool.and_false]
theorem menuD_dup {ds : List PyData} (h : ¬ (ds.map strD).Nodup) : menuD (.tuple ds) = false := by
  show (decide (1 ≤ ds.length) && (decide (ds.length ≤ 6) && (ds.all nameD && decide ((ds.map strD).Nodup)))) = false
  rw [decide_eq_false h, Bool.and_false, Bool.and_false, Bool.and_false]
theorem menuD_odd {ds : List PyData} {d : PyData} (hd : d ∈ ds) (h : nameD d = false) : menuD (.tuple ds) = false := by
  have a : ds.all nameD = false := by
    rw [Bool.eq_false_iff]
    intro z
    rw [List.all_eq_true.mp z d hd] at h
    cases h
  show (decide (1 ≤ ds.length) && (decide (ds.length ≤ 6) && (ds.all nameD && decide ((ds.map strD).Nodup)))) = false
  rw [a, Bool.false_and, Bool.and_false, Bool.and_false]
theorem menuD_many {ds : List PyData} (h : 6 < ds.length) : menuD (.tuple ds) = false := by
  show (decide (1 ≤ ds.length) && (decide (ds.length ≤ 6) && (ds.all nameD && decide ((ds.map strD).Nodup)))) = false
  rw [decide_eq_false (show ¬ ds.length ≤ 6 by omega), Bool.false_and, Bool.and_false]
theorem twice {A B : List Str} {x : Str} (ha : x ∈ A) (hb : x ∈ B) : ¬ (A ++ B).Nodup := fun h => (List.pairwise_append.mp h).2.2 x ha x hb rfl
structure BtH (mg : Str → Option Value) : Prop extends BtG mg
section
variable {P : Program} {w : World} {K : PySem.W.Frag} {mg : Str → Option Value} {base : Heap}
theorem ok_law_spoilt {f : Addr} {fd : FuncData} (D : Df K mg "_law_spoilt" s_law_spoilt ["_law_caller_here", "_law_names", "_law_cell", "_law_more"] f fd) (T : BtH mg) {fw : Addr} {fdw : FuncData} (D_law_with : Df K mg "_law_with" s_law_with ["_law_menus", "_law_at", "_law_menu"] fw fdw) (G_law_with : FnOk P w K mg base CX0 1 fw fdw ["_law_menus", "_law_at", "_law_menu"] (spWith K)) : FnOk P w K mg base CX0 2 f fd ["_law_caller_here", "_law_names", "_law_cell", "_law_more"] (spSpo K) := by
  refine D.F.ok sc_law_spoilt (fun vs H Q E h => ?_) (fun cdv A outer s H vs Q E hr h => ?_)
  · obtain ⟨_, _, _, _, _, _, _, rfl, _⟩ := h
    rfl
  · obtain ⟨p, na, cell, more, zs, ms, b, rfl, hC, g, N, hS, m0, q⟩ := h
    obtain ⟨mt, us, hp, hm, lu, hu⟩ := id hC
    refine ⟨_, (pss_cons (ps_asg (pv 0) (pg_tup (n := 2) (by rfl) (pgs_cons (pg_name (i := 4) sc_law_spoilt.nd rfl (Or.inl rfl)) (pgs_cons (pg_name (i := 5) sc_law_spoilt.nd rfl (Or.inl rfl)) pgs_nil))))
      (pss_cons (ps_set (i := 6) sc_law_spoilt.nd rfl (Or.inl rfl) (pe_op op_mod (pv 3) (pe_callB (id := "len") (r := Evl.rLenS K) call_len_seq (by rfl) T.b_len PySem.boot_len (pa_cons (pv 4) pa_nil))))
      (pss_cons (ps_set (i := 7) sc_law_spoilt.nd rfl (Or.inl rfl) (pe_ix (r := rIxT K) ix_tup (pv 4) (pv 6) (fun _ _ => rfl)))
      (pss_cons (ps_set (i := 8) sc_law_spoilt.nd rfl (Or.inl rfl) (pe_op op_mod (pe_op op_fdiv (pv 3) pe_int) (pe_callB (id := "len") (r := Evl.rLenS K) call_len_seq (by rfl) T.b_len PySem.boot_len (pa_cons (pv 7) pa_nil))))
      (pss_cons (ps_set (i := 9) sc_law_spoilt.nd rfl (Or.inl rfl) (pe_ix (r := rIxL K) ix_list (pe_lst (pa_cons pe_str (pa_cons pe_str (pa_cons pe_str (pa_cons pe_str (pa_cons pe_str (pa_cons pe_int (pa_cons pe_non (pa_cons (pe_tup (pa_cons pe_str pa_nil)) pa_nil))))))))) (pe_op op_mod (pe_op op_fdiv (pv 3) pe_int) pe_int) (fun _ _ => rfl)))
      (pss_cons (ps_set (i := 10) sc_law_spoilt.nd rfl (Or.inl rfl) (pe_op op_mod (pv 2) pe_int))
      (pss_cons (ps_if (pt_cmpR op_lt (pv 10) pe_int (nomark _)) (pss_one (ps_ret (pe_ix (r := rIxL K) ix_list (pe_lst (pa_cons (pe_callTy call_list_of (by rfl) T.b_list (by decide +kernel) (pa_cons (pv 0) pa_nil)) (pa_cons (pe_tup (pa_cons (pv 4) pa_nil)) (pa_cons (pe_tup (pa_cons (pv 4) (pa_cons (pv 5) (pa_cons (pv 5) pa_nil)))) (pa_cons pe_non (pa_cons pe_str pa_nil)))))) (pv 10) (fun _ _ => rfl)))) pss_nil)
      (pss_cons (ps_if (pt_cmpR op_lt (pv 10) pe_int (nomark _)) (pss_one (ps_ret (pe_tup (pa_cons (pe_ix (r := rIxL K) ix_list (pe_lst (pa_cons (pe_callTy call_list_of (by rfl) T.b_list (by decide +kernel) (pa_cons (pv 4) pa_nil)) (pa_cons (pe_tup pa_nil) (pa_cons pe_str pa_nil)))) (pe_op op_sub (pv 10) pe_int) (fun _ _ => rfl)) (pa_cons (pv 5) pa_nil))))) pss_nil)
      (pss_cons (ps_if (pt_cmpR op_eq (pv 10) pe_int (nomark _)) (pss_one (ps_ret (pe_tup (pa_cons (pe_slice sl_tupA (pe_op op_catA (pv 4) (pe_tup (pa_cons (pe_tup (pa_cons (pe_ix (r := rIxL K) ix_list (pv 1) pe_int (fun _ _ => rfl)) pa_nil)) (pa_cons (pe_tup (pa_cons (pe_ix (r := rIxL K) ix_list (pv 1) pe_int (fun _ _ => rfl)) pa_nil)) (pa_cons (pe_tup (pa_cons (pe_ix (r := rIxL K) ix_list (pv 1) pe_int (fun _ _ => rfl)) pa_nil)) (pa_cons (pe_tup (pa_cons (pe_ix (r := rIxL K) ix_list (pv 1) pe_int (fun _ _ => rfl)) pa_nil)) pa_nil)))))) po_none (po_some pe_int)) (pa_cons (pv 5) pa_nil))))) pss_nil)
      (pss_cons (ps_if (pt_cmpR op_lt (pv 10) pe_int (nomark _)) (pss_one (ps_ret (pe_tup (pa_cons (pv 4) (pa_cons (pe_ix (r := rIxL K) ix_list (pe_lst (pa_cons pe_non (pa_cons pe_str (pa_cons pe_int pa_nil)))) (pe_op op_sub (pv 10) pe_int) (fun _ _ => rfl)) pa_nil))))) pss_nil)
      (pss_cons (ps_if (pt_cmpR op_lt (pv 10) pe_int (nomark _)) (pss_one (ps_ret (pe_tup (pa_cons (pe_call G_law_with (hr.mono (by decide)) rfl D_law_with.g D_law_with.F.kp D_law_with.b .nil pass0 (pa_cons (pv 4) (pa_cons (pv 6) (pa_cons (pe_ix (r := rIxL K) ix_list (pe_lst (pa_cons (pe_callTy call_list_of (by rfl) T.b_list (by decide +kernel) (pa_cons (pv 7) pa_nil)) (pa_cons (pe_tup pa_nil) (pa_cons (pe_ix (r := rIxL K) ix_list (pv 1) pe_int (fun _ _ => rfl)) pa_nil)))) (pe_op op_sub (pv 10) pe_int) (fun _ _ => rfl)) pa_nil)))) (pa_cons (pv 5) pa_nil))))) pss_nil)
      (pss_cons (ps_if (pt_cmpR op_eq (pv 10) pe_int (nomark _)) (pss_one (ps_ret (pe_tup (pa_cons (pe_call G_law_with (hr.mono (by decide)) rfl D_law_with.g D_law_with.F.kp D_law_with.b .nil pass0 (pa_cons (pv 4) (pa_cons (pv 6) (pa_cons (pe_callTy call_tuple_of (by rfl) T.b_tuple (by decide +kernel) (pa_cons (pe_slice sl_list (pv 1) po_none (po_some pe_int)) pa_nil)) pa_nil)))) (pa_cons (pv 5) pa_nil))))) pss_nil)
      (pss_cons (ps_if (pt_cmpR op_eq (pv 10) pe_int (nomark _)) (pss_cons (ps_set (i := 7) sc_law_spoilt.nd rfl (Or.inl rfl) (pe_slice sl_tupA (pv 7) po_none (po_some pe_int)))
      (pss_cons (ps_set (i := 8) sc_law_spoilt.nd rfl (Or.inl rfl) (pe_op op_mod (pv 8) (pe_callB (id := "len") (r := Evl.rLenS K) call_len_seq (by rfl) T.b_len PySem.boot_len (pa_cons (pv 7) pa_nil))))
      (pss_one (ps_ret (pe_tup (pa_cons (pe_call G_law_with (hr.mono (by decide)) rfl D_law_with.g D_law_with.F.kp D_law_with.b .nil pass0 (pa_cons (pv 4) (pa_cons (pv 6) (pa_cons (pe_op op_catA (pe_op op_catA (pe_slice sl_tupA (pv 7) po_none (po_some (pv 8))) (pe_tup (pa_cons (pe_ix (r := rIxT K) ix_tup (pv 7) (pv 8) (fun _ _ => rfl)) pa_nil))) (pe_slice sl_tupA (pv 7) (po_some (pv 8)) po_none)) pa_nil)))) (pa_cons (pv 5) pa_nil))))))) pss_nil)
      (pss_cons (ps_if (pt_cmpR op_eq (pv 10) pe_int (nomark _)) (pss_cons (ps_set (i := 7) sc_law_spoilt.nd rfl (Or.inl rfl) (pe_slice sl_tupA (pv 7) po_none (po_some pe_int)))
      (pss_one (ps_ret (pe_tup (pa_cons (pe_call G_law_with (hr.mono (by decide)) rfl D_law_with.g D_law_with.F.kp D_law_with.b .nil pass0 (pa_cons (pv 4) (pa_cons (pv 6) (pa_cons (pe_op op_catA (pv 7) (pe_tup (pa_cons (pe_ix (r := rIxT K) ix_tup (pv 7) pe_int (fun _ _ => rfl)) pa_nil))) pa_nil)))) (pa_cons (pv 5) pa_nil)))))) pss_nil)
      (pss_one (ps_ret (pe_tup (pa_cons (pe_call G_law_with (hr.mono (by decide)) rfl D_law_with.g D_law_with.F.kp D_law_with.b .nil pass0 (pa_cons (pv 4) (pa_cons (pv 6) (pa_cons (pe_op op_catA (pe_op op_catA (pe_slice sl_tupA (pv 7) po_none (po_some (pv 8))) (pe_tup (pa_cons (pv 9) pa_nil))) (pe_slice sl_tupA (pv 7) (po_some (pe_op op_add (pv 8) pe_int)) po_none)) pa_nil)))) (pa_cons (pv 5) pa_nil))))))))))))))))))), ?_⟩
    try simp only [tSeq, tIfS, tTest, tOp, tUn, tCB, tCons, tNil, tVar, tC, rI0, rI, rU, rEq, rNe, tRet, tRetN, tAsg, gName, gSub, tBM, tBM0, tNext, tB, tNot, tAnd, tOr, tIf, tCall, tDrop, tBreak, tCont, L2.start, tDGet, sDPut, tTup, tLst, tDNewK, tRevL, rCat, rAppend, rPop, rSetL, tAndV, tOrV, tNotV, tSl, tPart, tNoPart, tM1, gTup, gCons, gNil, cxK, cxnK, List.map_cons, List.map_nil, List.length_cons, List.length_nil, List.replicate, List.cons_append, List.nil_append, List.append_nil, List.set_cons_zero, List.set_cons_succ, List.getElem?_cons_zero, List.getElem?_cons_succ, Option.some.injEq, V.ref.injEq, V.int.injEq, V.str.injEq, V.bl.injEq, V.ty.injEq, exists_eq_left', exists_eq_left, exists_and_left, List.cons.injEq, and_true, true_and, sc_ii, sc_ss, sc_bb, sc_ni, sc_in, sc_is, sc_si, sc_nn, decide_true, decide_false, reduceCtorEq, Bool.false_eq_true, if_true, if_false, ite_true, ite_false, exists_const, eq_self, false_and, and_false, or_false, false_or, exists_false, Evl.rLenS, rSum, wipe, tYes, exists_eq, exists_eq', rIxL, rIxT, rIxS, exists_and_right, gt_iff_lt, not_true_eq_false, not_false_eq_true, Bool.not_true, Bool.not_false, decide_eq_true_eq, Nat.reduceSub, Nat.reduceAdd, List.append_assoc, tChain, tDIn, tDNotIn, sDDel, tAug, ipI]
    refine ⟨_, sq_t hp, rfl, _, _, rfl, _, _, rfl, rfl, ?_⟩
    have n1 := g.l1
    have hul : (0 : Int) < (us.length : Nat) := by omega
    obtain ⟨i, hi, ei⟩ : ∃ i : Nat, more % ((us.length : Nat) : Int) = (i : Nat) ∧ i < ms.length := by
      have h1 := Int.emod_nonneg more (show ((us.length : Nat) : Int) ≠ 0 by omega)
      have h2 := Int.emod_lt_of_pos more hul
      exact ⟨(more % ((us.length : Nat) : Int)).toNat, by omega, by omega⟩
    have em : ms[i]? = some ms[i] := List.getElem?_eq_getElem ei
    generalize ms[i] = m at em
    obtain ⟨t, eu, ht⟩ := hu i m em
    have gm : GoodM zs m := g.all m (List.mem_of_getElem? em)
    have l1 := gm.l1
    have l6 := gm.l6
    have hml : (0 : Int) < (m.length : Nat) := by omega
    refine ⟨mt, rfl, us, .inr (sq_t hm), hul, mt, rfl, us, sq_t hm, .ref t, by rw [hi]; exact atI_nat eu, ⟨by decide, by decide⟩, t, rfl, m.map V.str, .inr (sq_t ht), by rw [List.length_map]; exact hml, small (by decide), fun tp ntp => ⟨small (by decide), fun lo nlo => ?_⟩⟩
    rw [hi, List.length_map]
    generalize hpl : more / 4 % ((m.length : Nat) : Int) = pl0
    obtain ⟨pl, rfl, plt⟩ : ∃ pl : Nat, pl0 = (pl : Nat) ∧ pl < m.length := by
      have h1 := Int.emod_nonneg (more / 4) (show ((m.length : Nat) : Int) ≠ 0 by omega)
      have h2 := Int.emod_lt_of_pos (more / 4) hml
      exact ⟨pl0.toNat, by omega, by omega⟩
    have kG1 : Kp [] H (upd H tp (.tup [.str "p"])) := Kp.new ntp
    have htp : (upd H tp (.tup [.str "p"])) tp = some (.tup [.str "p"]) := upd_same
    generalize upd H tp (.tup [.str "p"]) = G1 at kG1 htp nlo ⊢
    have kG2 : Kp [] G1 (upd G1 lo (.lst [.str "A", .str "", .str "abcdefghi", .str "a b", .str "p1", .int 5, .non, .ref tp])) := Kp.new nlo
    have hlo : (upd G1 lo (.lst [.str "A", .str "", .str "abcdefghi", .str "a b", .str "p1", .int 5, .non, .ref tp])) lo = some (.lst [.str "A", .str "", .str "abcdefghi", .str "a b", .str "p1", .int 5, .non, .ref tp]) := upd_same
    generalize upd G1 lo (.lst [.str "A", .str "", .str "abcdefghi", .str "a b", .str "p1", .int 5, .non, .ref tp]) = G at kG2 hlo ⊢
    have kG : Kp [] H G := kG1.trans kG2
    have htpG := kG2 _ _ not0 htp
    obtain ⟨e, he, le⟩ : ∃ e : Nat, more / 24 % 8 = (e : Nat) ∧ e < 8 := by
      have h1 := Int.emod_nonneg (more / 24) (show (8 : Int) ≠ 0 by decide)
      have h2 := Int.emod_lt_of_pos (more / 24) (show (0 : Int) < 8 by decide)
      exact ⟨(more / 24 % 8).toNat, by omega, by omega⟩
    obtain ⟨ov, od, eo, fo, no_, ko⟩ : ∃ ov od, ([.str "A", .str "", .str "abcdefghi", .str "a b", .str "p1", .int 5, .non, .ref tp] : List V)[e]? = some ov ∧ (∀ G', Kp [] G G' → Fd H G' ov od) ∧ nameD od = false ∧ OkD 1 od := by
      rcases (by omega : e = 0 ∨ e = 1 ∨ e = 2 ∨ e = 3 ∨ e = 4 ∨ e = 5 ∨ e = 6 ∨ e = 7) with rfl | rfl | rfl | rfl | rfl | rfl | rfl | rfl
      · exact ⟨_, _, rfl, fun _ _ => .str _, by decide +kernel, by decide +kernel, by decide +kernel, by decide +kernel⟩
      · exact ⟨_, _, rfl, fun _ _ => .str _, by decide +kernel, by decide +kernel, by decide +kernel, by decide +kernel⟩
      · exact ⟨_, _, rfl, fun _ _ => .str _, by decide +kernel, by decide +kernel, by decide +kernel, by decide +kernel⟩
      · exact ⟨_, _, rfl, fun _ _ => .str _, by decide +kernel, by decide +kernel, by decide +kernel, by decide +kernel⟩
      · exact ⟨_, _, rfl, fun _ _ => .str _, by decide +kernel, by decide +kernel, by decide +kernel, by decide +kernel⟩
      · exact ⟨_, _, rfl, fun _ _ => .int _, rfl, rfl, Nat.zero_le _, rfl⟩
      · exact ⟨_, _, rfl, fun _ _ => .non, rfl, rfl, Nat.zero_le _, rfl⟩
      · exact ⟨_, .tuple [.str "p"], rfl, fun G' k => .tup (k _ _ not0 htpG) (.cons (.str _) .nil), rfl, by decide +kernel, by decide +kernel, by decide +kernel⟩
    refine ⟨⟨by decide, by decide⟩, by decide, _, sq_l hlo, ov, by rw [he]; exact atI_nat eo, by decide, ?_⟩
    have cm0 := Int.emod_nonneg cell (show (19 : Int) ≠ 0 by decide)
    have cm1 := Int.emod_lt_of_pos cell (show (0 : Int) < 19 by decide)
    generalize cell % 19 = fm at cm0 cm1 ⊢
    have hpG := kG _ _ not0 hp
    have hmG := kG _ _ not0 hm
    have htG := kG _ _ not0 ht
    clear hpl he eo hlo nlo ntp htp hi
    have fmt : ∀ {X : Hp}, Kp [] H X → FdAll H X us (ms.map mD) := fun {X} k => fdAll_menus lu fun j m' e' => by
      obtain ⟨t', a1, a2⟩ := hu j m' e'
      exact ⟨t', a1, k _ _ not0 a2⟩
    have ok1 : ∀ d ∈ ms.map mD, OkD 1 d := fun d hd => by
      obtain ⟨m', hm', rfl⟩ := List.mem_map.mp hd
      exact okD_menu N (g.all m' hm').sub
    have ok2 : OkD 2 (.tuple (ms.map mD)) := OkD.tup ok1
    refine ite2 (fun h5 => ?_) (fun h5 => ?_)
    · refine ⟨_, .inr (sq_t hpG), fun l nl => ⟨small (by decide), fun p1 np1 => ⟨small (by decide), fun p2 np2 => ⟨small (by decide), fun o no => ?_⟩⟩⟩⟩
      have nlH := kG.free0 nl
      have k1 : Kp [] G (upd G l (.lst [.ref mt, .bl b])) := Kp.new nl
      have h1 : (upd G l (.lst [.ref mt, .bl b])) l = some (.lst [.ref mt, .bl b]) := upd_same
      generalize upd G l (.lst [.ref mt, .bl b]) = X1 at k1 h1 np1 np2 no ⊢
      have k2 : Kp [] X1 (upd X1 p1 (.tup [.ref mt])) := Kp.new np1
      have h2 : (upd X1 p1 (.tup [.ref mt])) p1 = some (.tup [.ref mt]) := upd_same
      generalize upd X1 p1 (.tup [.ref mt]) = X2 at k2 h2 np2 no ⊢
      have k3 : Kp [] X2 (upd X2 p2 (.tup [.ref mt, .bl b, .bl b])) := Kp.new np2
      have h3 : (upd X2 p2 (.tup [.ref mt, .bl b, .bl b])) p2 = some (.tup [.ref mt, .bl b, .bl b]) := upd_same
      generalize upd X2 p2 (.tup [.ref mt, .bl b, .bl b]) = X3 at k3 h3 no ⊢
      have k4 : Kp [] X3 (upd X3 o (.lst [.ref l, .ref p1, .ref p2, .non, .str "p"])) := Kp.new no
      have h4 : (upd X3 o (.lst [.ref l, .ref p1, .ref p2, .non, .str "p"])) o = some (.lst [.ref l, .ref p1, .ref p2, .non, .str "p"]) := upd_same
      generalize upd X3 o (.lst [.ref l, .ref p1, .ref p2, .non, .str "p"]) = X at k4 h4 ⊢
      have kX : Kp [] H X := kG.trans (k1.trans (k2.trans (k3.trans k4)))
      have fx : Fd H X (.ref mt) (.tuple (ms.map mD)) := .tup (kX _ _ not0 hm) (fmt kX)
      refine ⟨_, sq_l h4, ?_⟩
      rcases (by omega : fm = 0 ∨ fm = 1 ∨ fm = 2 ∨ fm = 3 ∨ fm = 4) with rfl | rfl | rfl | rfl | rfl
      · exact ⟨_, atI_of (by decide) rfl, q _ (.list [.tuple (ms.map mD), .bool b]) X (.lst nlH ((k2.trans (k3.trans k4)) _ _ not0 h1) (.cons fx (.cons (.bl b) .nil))) rfl ((OkD.lst (okc ok2 (okc ((okD_bool b).mono (by decide)) okn))).mono (by decide)) kX⟩
      · exact ⟨_, atI_of (by decide) rfl, q _ (.tuple [.tuple (ms.map mD)]) X (.tup ((k3.trans k4) _ _ not0 h2) (.cons fx .nil)) (by simp [callerD]) ((OkD.tup (okc ok2 okn)).mono (by decide)) kX⟩
      · exact ⟨_, atI_of (by decide) rfl, q _ (.tuple [.tuple (ms.map mD), .bool b, .bool b]) X (.tup (k4 _ _ not0 h3) (.cons fx (.cons (.bl b) (.cons (.bl b) .nil)))) (by simp [callerD]) ((OkD.tup (okc ok2 (okc ((okD_bool b).mono (by decide)) (okc ((okD_bool b).mono (by decide)) okn)))).mono (by decide)) kX⟩
      · exact ⟨_, atI_of (by decide) rfl, q _ .none X .non rfl (okD_non.mono (by decide)) kX⟩
      · exact ⟨_, atI_of (by decide) rfl, q _ (.str "p") X (.str _) rfl (okD_p.mono (by decide)) kX⟩
    refine ite2 (fun h8 => ?_) (fun h8 => ?_)
    · refine ⟨mt, rfl, us, .inr (sq_t hmG), fun l nl => ⟨small (by decide), fun p1 np1 => ⟨small (by decide), fun o no => ?_⟩⟩⟩
      have nlH := kG.free0 nl
      have k1 : Kp [] G (upd G l (.lst us)) := Kp.new nl
      have h1 : (upd G l (.lst us)) l = some (.lst us) := upd_same
      generalize upd G l (.lst us) = X1 at k1 h1 np1 no ⊢
      have k2 : Kp [] X1 (upd X1 p1 (.tup [])) := Kp.new np1
      have h2 : (upd X1 p1 (.tup [])) p1 = some (.tup []) := upd_same
      generalize upd X1 p1 (.tup []) = X2 at k2 h2 no ⊢
      have k3 : Kp [] X2 (upd X2 o (.lst [.ref l, .ref p1, .str "p"])) := Kp.new no
      have h3 : (upd X2 o (.lst [.ref l, .ref p1, .str "p"])) o = some (.lst [.ref l, .ref p1, .str "p"]) := upd_same
      generalize upd X2 o (.lst [.ref l, .ref p1, .str "p"]) = X3 at k3 h3 ⊢
      have fin : ∀ (x : V) (d : PyData), (∀ X, Kp [] X3 X → Fd H X x d) → callerD (.tuple [d, .bool b]) = false → OkD 2 d → 2 ≤ sizeLine ∧ ∀ p, X3 p = none → Q (.ref p) (upd X3 p (.tup [x, .bl b])) := by
        intro x d fx bad okx
        refine ⟨small (by decide), fun p np => ?_⟩
        have k4 : Kp [] X3 (upd X3 p (.tup [x, .bl b])) := Kp.new np
        exact q _ _ _ (.tup upd_same (.cons (fx _ k4) (.cons (.bl b) .nil))) bad ((okD_pair okx).mono (by decide)) (kG.trans (k1.trans (k2.trans (k3.trans k4))))
      refine ⟨_, sq_l h3, ?_⟩
      rcases (by omega : fm = 5 ∨ fm = 6 ∨ fm = 7) with rfl | rfl | rfl
      · exact ⟨_, atI_of (by decide) rfl, fin _ (.list (ms.map mD)) (fun X k => .lst nlH ((k2.trans (k3.trans k)) _ _ not0 h1) (fmt (kG.trans (k1.trans (k2.trans (k3.trans k)))))) (by simp [callerD]) (OkD.lst ok1)⟩
      · exact ⟨_, atI_of (by decide) rfl, fin _ (.tuple []) (fun X k => .tup ((k3.trans k) _ _ not0 h2) .nil) (by simp [callerD]) ((OkD.tup (n := 0) okn).mono (by decide))⟩
      · exact ⟨_, atI_of (by decide) rfl, fin _ (.str "p") (fun X k => .str _) (by simp [callerD]) (okD_p.mono (by decide))⟩
    refine ite2 (fun e8 => ?_) (fun e8 => ?_)
    · have hSG : SqL K G na (zs.map V.str) := kG.ls not0 hS
      obtain ⟨z0, z1, z2, z3, zr, hz⟩ : ∃ z0 z1 z2 z3 zr, zs = z0 :: z1 :: z2 :: z3 :: zr := by
        match zs, N.len with
        | z0 :: z1 :: z2 :: z3 :: zr, _ => exact ⟨z0, z1, z2, z3, zr, rfl⟩
      have nm0 := N.nm z0 (by rw [hz]; simp)
      have nm1 := N.nm z1 (by rw [hz]; simp)
      have nm2 := N.nm z2 (by rw [hz]; simp)
      have nm3 := N.nm z3 (by rw [hz]; simp)
      have hSZ : SqL K G na (.str z0 :: .str z1 :: .str z2 :: .str z3 :: zr.map V.str) := by rw [hz] at hSG; exact hSG
      refine ⟨_, hSZ, .str z0, atI_of (by decide) rfl, small (by decide), fun a0 n0 => ?_⟩
      have k1 : Kp [] G (upd G a0 (.tup [.str z0])) := Kp.new n0
      have h1 : (upd G a0 (.tup [.str z0])) a0 = some (.tup [.str z0]) := upd_same
      generalize upd G a0 (.tup [.str z0]) = X1 at k1 h1 ⊢
      refine ⟨_, k1.ls not0 hSZ, .str z1, atI_of (by decide) rfl, small (by decide), fun a1 n1 => ?_⟩
      have k2 : Kp [] X1 (upd X1 a1 (.tup [.str z1])) := Kp.new n1
      have h2 : (upd X1 a1 (.tup [.str z1])) a1 = some (.tup [.str z1]) := upd_same
      generalize upd X1 a1 (.tup [.str z1]) = X2 at k2 h2 ⊢
      refine ⟨_, (k1.trans k2).ls not0 hSZ, .str z2, atI_of (by decide) rfl, small (by decide), fun a2 n2 => ?_⟩
      have k3 : Kp [] X2 (upd X2 a2 (.tup [.str z2])) := Kp.new n2
      have h3 : (upd X2 a2 (.tup [.str z2])) a2 = some (.tup [.str z2]) := upd_same
      generalize upd X2 a2 (.tup [.str z2]) = X3 at k3 h3 ⊢
      refine ⟨_, (k1.trans (k2.trans k3)).ls not0 hSZ, .str z3, atI_of (by decide) rfl, small (by decide), fun a3 n3 => ?_⟩
      have k4 : Kp [] X3 (upd X3 a3 (.tup [.str z3])) := Kp.new n3
      have h4 : (upd X3 a3 (.tup [.str z3])) a3 = some (.tup [.str z3]) := upd_same
      generalize upd X3 a3 (.tup [.str z3]) = X4 at k4 h4 ⊢
      refine ⟨small (by decide), fun a4 n4 => ?_⟩
      have k5 : Kp [] X4 (upd X4 a4 (.tup [.ref a0, .ref a1, .ref a2, .ref a3])) := Kp.new n4
      have h5 : (upd X4 a4 (.tup [.ref a0, .ref a1, .ref a2, .ref a3])) a4 = some (.tup [.ref a0, .ref a1, .ref a2, .ref a3]) := upd_same
      generalize upd X4 a4 (.tup [.ref a0, .ref a1, .ref a2, .ref a3]) = X5 at k5 h5 ⊢
      have kk : Kp [] G X5 := k1.trans (k2.trans (k3.trans (k4.trans k5)))
      have u4 := g.l4
      refine catA_use (kk _ _ not0 hmG) h5 (by show us.length + 4 ≤ 1000; omega) fun r X6 hr k6 => ?_
      refine slA_to (k := 5) rfl hr fun r2 X7 hr2 k7 => ⟨small (by decide), fun pp npp => ?_⟩
      have k8 : Kp [] X7 (upd X7 pp (.tup [.ref r2, .bl b])) := Kp.new npp
      have kE : Kp [] X5 (upd X7 pp (.tup [.ref r2, .bl b])) := k6.trans (k7.trans k8)
      have fa : FdAll H (upd X7 pp (.tup [.ref r2, .bl b])) (us ++ [.ref a0, .ref a1, .ref a2, .ref a3]) (ms.map mD ++ [mD [z0], mD [z1], mD [z2], mD [z3]]) :=
        (fmt (kG.trans (kk.trans kE))).app (.cons (.tup ((k2.trans (k3.trans (k4.trans (k5.trans kE)))) _ _ not0 h1) (FdAll.strs [z0])) (.cons (.tup ((k3.trans (k4.trans (k5.trans kE))) _ _ not0 h2) (FdAll.strs [z1])) (.cons (.tup ((k4.trans (k5.trans kE)) _ _ not0 h3) (FdAll.strs [z2])) (.cons (.tup ((k5.trans kE) _ _ not0 h4) (FdAll.strs [z3])) .nil))))
      have okz : ∀ z, nameS z = true → OkD 1 (mD [z]) := fun z hz => OkD.tup (okc (okD_name hz) okn)
      have oka : ∀ d ∈ (ms.map mD ++ [mD [z0], mD [z1], mD [z2], mD [z3]]).take 5, OkD 1 d := fun d hd => by
        rcases List.mem_append.mp (List.mem_of_mem_take hd) with hd | hd
        · exact ok1 d hd
        · exact okc (okz _ nm0) (okc (okz _ nm1) (okc (okz _ nm2) (okc (okz _ nm3) okn))) d hd
      refine q _ (.tuple [.tuple ((ms.map mD ++ [mD [z0], mD [z1], mD [z2], mD [z3]]).take 5), .bool b]) _ (.tup upd_same (.cons (.tup (k8 _ _ not0 hr2) (fa.take 5)) (.cons (.bl b) .nil))) (many_bad ?_) ((okD_pair (OkD.tup oka)).mono (by decide)) (kG.trans (kk.trans kE))
      rw [List.length_take, List.length_append, List.length_map]
      show 4 < min 5 (ms.length + 4)
      omega
    refine ite2 (fun h12 => ?_) (fun h12 => ?_)
    · refine ⟨small (by decide), fun o no => ?_⟩
      have k1 : Kp [] G (upd G o (.lst [.non, .str "yes", .int 2])) := Kp.new no
      have h1 : (upd G o (.lst [.non, .str "yes", .int 2])) o = some (.lst [.non, .str "yes", .int 2]) := upd_same
      generalize upd G o (.lst [.non, .str "yes", .int 2]) = X1 at k1 h1 ⊢
      have fin : ∀ (x : V) (d : PyData), (∀ X, Fd H X x d) → callerD (.tuple [.tuple (ms.map mD), d]) = false → OkD 0 d → 2 ≤ sizeLine ∧ ∀ p, X1 p = none → Q (.ref p) (upd X1 p (.tup [.ref mt, x])) := by
        intro x d fx bad okx
        refine ⟨small (by decide), fun p np => ?_⟩
        have k4 : Kp [] X1 (upd X1 p (.tup [.ref mt, x])) := Kp.new np
        have kX := kG.trans (k1.trans k4)
        exact q _ _ _ (.tup upd_same (.cons (.tup (kX _ _ not0 hm) (fmt kX)) (.cons (fx _) .nil))) bad ((OkD.tup (okc ok2 (okc (okx.mono (by decide)) okn))).mono (by decide)) kX
      refine ⟨_, sq_l h1, ?_⟩
      rcases (by omega : fm = 9 ∨ fm = 10 ∨ fm = 11) with rfl | rfl | rfl
      · exact ⟨_, atI_of (by decide) rfl, fin _ .none (fun X => .non) (by simp [callerD]) okD_non⟩
      · exact ⟨_, atI_of (by decide) rfl, fin _ (.str "yes") (fun X => .str _) (by simp [callerD]) (okD_name (by decide +kernel))⟩
      · exact ⟨_, atI_of (by decide) rfl, fin _ (.int 2) (fun X => .int _) (by simp [callerD]) (okD_int 2)⟩
    have okS : ∀ d ∈ m.map PyData.str, OkD 1 d := fun d hd => by
      obtain ⟨x, hx, rfl⟩ := List.mem_map.mp hd
      exact (okD_name (N.nm x (gm.sub x hx))).mono (by decide)
    have fin : ∀ (X : Hp) (x : V) (d : PyData), Kp [] G X → (∀ Y, Kp [] X Y → Fd H Y x d) → menuD d = false → OkD 3 d →
        spWith K [.ref mt, .int i, x] X (fun x H1 => 2 ≤ sizeLine ∧ ∀ p, H1 p = none → Q (.ref p) (upd H1 p (.tup [x, .bl b]))) E0 := by
      intro X x d kx fx bad okx
      have u4 := g.l4
      refine ⟨mt, i, x, us, rfl, kx _ _ not0 hmG, by omega, fun p2 X2 np2 hp2 k2 => ⟨small (by decide), fun pp npp => ?_⟩⟩
      have k3 : Kp [] X2 (upd X2 pp (.tup [.ref p2, .bl b])) := Kp.new npp
      have kE : Kp [] X (upd X2 pp (.tup [.ref p2, .bl b])) := k2.trans k3
      exact q _ (.tuple [.tuple ((ms.map mD).set i d), .bool b]) _ (.tup upd_same (.cons (.tup (k3 _ _ not0 hp2) ((fmt (kG.trans (kx.trans kE))).set (fx _ kE) i)) (.cons (.bl b) .nil))) (bad_set (by rw [List.length_map]; exact ei) bad)
        ((okD_pair (okD_set (fun d hd => (ok1 d hd).mono (by decide)) okx i)).mono (by decide)) (kG.trans (kx.trans kE))
    have htS : FdAll H G (m.map V.str) (m.map PyData.str) := FdAll.strs m
    refine ite2 (fun h15 => ?_) (fun h15 => ?_)
    · refine ⟨t, rfl, _, .inr (sq_t htG), fun l nl => ⟨small (by decide), fun p1 np1 => ?_⟩⟩
      have nlH := kG.free0 nl
      have k1 : Kp [] G (upd G l (.lst (m.map V.str))) := Kp.new nl
      have h1 : (upd G l (.lst (m.map V.str))) l = some (.lst (m.map V.str)) := upd_same
      generalize upd G l (.lst (m.map V.str)) = X1 at k1 h1 np1 ⊢
      have k2 : Kp [] X1 (upd X1 p1 (.tup [])) := Kp.new np1
      have h2 : (upd X1 p1 (.tup [])) p1 = some (.tup []) := upd_same
      generalize upd X1 p1 (.tup []) = X2 at k2 h2 ⊢
      obtain ⟨z0, hz0⟩ : ∃ z0, zs[0]? = some z0 := ⟨_, List.getElem?_eq_getElem (show 0 < zs.length by rw [N.len]; decide)⟩
      have nm0 := N.nm z0 (List.mem_of_getElem? hz0)
      refine ⟨_, (kG.trans (k1.trans k2)).ls not0 hS, .str z0, atI_of (by decide) (by show (zs.map V.str)[0]? = _; rw [List.getElem?_map, hz0]; rfl), small (by decide), fun o no => ?_⟩
      have k3 : Kp [] X2 (upd X2 o (.lst [.ref l, .ref p1, .str z0])) := Kp.new no
      have h3 : (upd X2 o (.lst [.ref l, .ref p1, .str z0])) o = some (.lst [.ref l, .ref p1, .str z0]) := upd_same
      generalize upd X2 o (.lst [.ref l, .ref p1, .str z0]) = X3 at k3 h3 ⊢
      have kk : Kp [] G X3 := k1.trans (k2.trans k3)
      refine ⟨_, sq_l h3, ?_⟩
      rcases (by omega : fm = 12 ∨ fm = 13 ∨ fm = 14) with rfl | rfl | rfl
      · exact ⟨_, atI_of (by decide) rfl, fin _ _ (.list (m.map PyData.str)) kk (fun Y k => .lst nlH ((k2.trans (k3.trans k)) _ _ not0 h1) (FdAll.strs m)) rfl ((OkD.lst okS).mono (by decide))⟩
      · exact ⟨_, atI_of (by decide) rfl, fin _ _ (.tuple []) kk (fun Y k => .tup ((k3.trans k) _ _ not0 h2) .nil) rfl ((OkD.tup (n := 0) okn).mono (by decide))⟩
      · exact ⟨_, atI_of (by decide) rfl, fin _ _ (.str z0) kk (fun Y k => .str _) rfl ((okD_name nm0).mono (by decide))⟩
    refine ite2 (fun e15 => ?_) (fun e15 => ?_)
    · refine ⟨na, _, rfl, kG.ls not0 hS, fun l nl => ?_⟩
      have e7 : cutV (zs.map V.str) none (some 7) = (zs.take 7).map V.str := by
        have z := cut_to (zs.map V.str) 7
        rw [List.map_take]
        exact z
      rw [e7]
      have k1 : Kp [] G (upd G l (.lst ((zs.take 7).map V.str))) := Kp.new nl
      have h1 : (upd G l (.lst ((zs.take 7).map V.str))) l = some (.lst ((zs.take 7).map V.str)) := upd_same
      generalize upd G l (.lst ((zs.take 7).map V.str)) = X1 at k1 h1 ⊢
      refine ⟨l, rfl, _, .inl ⟨sq_l h1, fun p1 np1 => ?_⟩⟩
      refine fin _ _ (.tuple ((zs.take 7).map PyData.str)) (k1.trans (Kp.new np1)) (fun Y k => .tup (k _ _ not0 upd_same) (FdAll.strs _)) (menuD_many ?_) ((OkD.tup (n := 1) fun d hd => ?_).mono (by decide))
      · rw [List.length_map, List.length_take, N.len]; decide
      · obtain ⟨x, hx, rfl⟩ := List.mem_map.mp hd
        exact (okD_name (N.nm x (List.mem_of_mem_take hx))).mono (by decide)
    refine ite2 (fun e16 => ?_) (fun e16 => ?_)
    · refine slA_to (k := 5) rfl htG fun r X1 hr k1 => ?_
      have lr : ((m.map V.str).take 5).length = (m.take 5).length := by rw [List.length_take, List.length_map, List.length_take]
      have lp : 0 < (m.take 5).length := by rw [List.length_take]; omega
      have ek : (pl : Int) % (((m.map V.str).take 5).length : Nat) = ((pl % (m.take 5).length : Nat) : Int) := by rw [lr]; omega
      refine ⟨r, rfl, _, .inr (sq_t hr), by rw [lr]; omega, ?_⟩
      rw [ek]
      obtain ⟨z, hz⟩ : ∃ z, (m.take 5)[pl % (m.take 5).length]? = some z := ⟨_, List.getElem?_eq_getElem (Nat.mod_lt _ lp)⟩
      generalize pl % (m.take 5).length = k at hz ⊢
      refine slA_to (k := k) rfl hr fun r2 X2 hr2 k2 => ?_
      refine ⟨r, rfl, _, sq_t (k2 _ _ not0 hr), .str z, atI_nat (by rw [← List.map_take, List.getElem?_map, hz]; rfl), small (by decide), fun pp npp => ?_⟩
      have k3 : Kp [] X2 (upd X2 pp (.tup [.str z])) := Kp.new npp
      have h3 : (upd X2 pp (.tup [.str z])) pp = some (.tup [.str z]) := upd_same
      generalize upd X2 pp (.tup [.str z]) = X3 at k3 h3 ⊢
      have lt5 : ((m.map V.str).take 5).length ≤ 5 := by rw [List.length_take]; omega
      refine catA_use (k3 _ _ not0 hr2) h3 (by rw [List.length_take]; show min k _ + 1 ≤ 1000; omega) fun r3 X4 hr3 k4 => ?_
      refine slA_from (k := k) rfl ((k2.trans (k3.trans k4)) _ _ not0 hr) fun r4 X5 hr4 k5 => ?_
      refine catA_use (k5 _ _ not0 hr3) hr4 (by rw [List.length_append, List.length_take, List.length_drop]; show min k _ + 1 + _ ≤ 1000; omega) fun r5 X6 hr5 k6 => ?_
      refine fin X6 (.ref r5) (.tuple ((((m.map PyData.str).take 5).take k ++ [.str z]) ++ ((m.map PyData.str).take 5).drop k)) (k1.trans (k2.trans (k3.trans (k4.trans (k5.trans k6))))) (fun Y k' => .tup (k' _ _ not0 hr5) (((((FdAll.strs m).take 5).take k).app (.cons (.str z) .nil)).app (((FdAll.strs m).take 5).drop k))) (menuD_dup ?_) ((OkD.tup (n := 1) fun d hd => ?_).mono (by decide))
      · rw [List.map_append, List.map_append, List.map_take, List.map_drop, List.map_take, strD_map]
        refine twice (x := z) (List.mem_append_right _ (List.mem_singleton.mpr rfl)) ?_
        exact List.mem_of_getElem? (i := 0) (by rw [List.getElem?_drop]; exact hz)
      · rcases List.mem_append.mp hd with hd | hd
        · rcases List.mem_append.mp hd with hd | hd
          · exact okS d (List.mem_of_mem_take (List.mem_of_mem_take hd))
          · rw [List.mem_singleton.mp hd]
            exact (okD_name (N.nm z (gm.sub z (List.mem_of_mem_take (List.mem_of_getElem? hz))))).mono (by decide)
        · exact okS d (List.mem_of_mem_take (List.mem_of_mem_drop hd))
    refine ite2 (fun e17 => ?_) (fun e17 => ?_)
    · refine slA_to (k := 5) rfl htG fun r X1 hr k1 => ?_
      have lp : 0 < (m.take 5).length := by rw [List.length_take]; omega
      obtain ⟨z, hz⟩ : ∃ z, (m.take 5)[0]? = some z := ⟨_, List.getElem?_eq_getElem lp⟩
      refine ⟨r, rfl, _, sq_t hr, .str z, atI_of (by decide) (by show ((m.map V.str).take 5)[0]? = _; rw [← List.map_take, List.getElem?_map, hz]; rfl), small (by decide), fun pp npp => ?_⟩
      have k3 : Kp [] X1 (upd X1 pp (.tup [.str z])) := Kp.new npp
      have h3 : (upd X1 pp (.tup [.str z])) pp = some (.tup [.str z]) := upd_same
      generalize upd X1 pp (.tup [.str z]) = X3 at k3 h3 ⊢
      refine catA_use (k3 _ _ not0 hr) h3 (by rw [List.length_take]; show min 5 _ + 1 ≤ 1000; omega) fun r3 X4 hr3 k4 => ?_
      refine fin X4 (.ref r3) (.tuple ((m.map PyData.str).take 5 ++ [.str z])) (k1.trans (k3.trans k4)) (fun Y k' => .tup (k' _ _ not0 hr3) (((FdAll.strs m).take 5).app (.cons (.str z) .nil))) (menuD_dup ?_) ((OkD.tup (n := 1) fun d hd => ?_).mono (by decide))
      · rw [List.map_append, List.map_take, strD_map]
        exact twice (x := z) (List.mem_of_getElem? hz) (List.mem_singleton.mpr rfl)
      · rcases List.mem_append.mp hd with hd | hd
        · exact okS d (List.mem_of_mem_take hd)
        · rw [List.mem_singleton.mp hd]
          exact (okD_name (N.nm z (gm.sub z (List.mem_of_mem_take (List.mem_of_getElem? hz))))).mono (by decide)
    · refine slA_to (k := pl) rfl htG fun r X1 hr k1 => ⟨small (by decide), fun pp npp => ?_⟩
      have k3 : Kp [] X1 (upd X1 pp (.tup [ov])) := Kp.new npp
      have h3 : (upd X1 pp (.tup [ov])) pp = some (.tup [ov]) := upd_same
      generalize upd X1 pp (.tup [ov]) = X3 at k3 h3 ⊢
      refine catA_use (k3 _ _ not0 hr) h3 (by rw [List.length_take, List.length_map]; show min pl _ + 1 ≤ 1000; omega) fun r3 X4 hr3 k4 => ?_
      refine slA_from (k := pl + 1) (Int.natCast_succ pl).symm ((k1.trans (k3.trans k4)) _ _ not0 htG) fun r4 X5 hr4 k5 => ?_
      refine catA_use (k5 _ _ not0 hr3) hr4 (by rw [List.length_append, List.length_take, List.length_drop, List.length_map]; show min pl _ + 1 + _ ≤ 1000; omega) fun r5 X6 hr5 k6 => ?_
      have kk := k1.trans (k3.trans (k4.trans (k5.trans k6)))
      refine fin X6 (.ref r5) (.tuple (((m.map PyData.str).take pl ++ [od]) ++ (m.map PyData.str).drop (pl + 1))) kk (fun Y k' => .tup (k' _ _ not0 hr5) ((((FdAll.strs m).take pl).app (.cons (fo _ (kk.trans k')) .nil)).app ((FdAll.strs m).drop (pl + 1)))) (menuD_odd (d := od) (List.mem_append_left _ (List.mem_append_right _ (List.mem_singleton.mpr rfl))) no_) ((OkD.tup (n := 1) fun d hd => ?_).mono (by decide))
      rcases List.mem_append.mp hd with hd | hd
      · rcases List.mem_append.mp hd with hd | hd
        · exact okS d (List.mem_of_mem_take hd)
        · rw [List.mem_singleton.mp hd]; exact ko
      · exact okS d (List.mem_of_mem_drop hd)
end
end My

set_option Elab.async false
set_option linter.all false
set_option maxRecDepth 100000
set_option maxHeartbeats 8000000
namespace My
open PySem L2 NdefX
abbrev s_law : Stmt := top 30
theorem sc_law : FnScope ["_law_script", "_law_row", "_law_k", "_law_names", "_law_things", "_law_one", "_law_good", "_law_client", "_law_spoilt_here", "_law_known", "_law_kept", "_law_listed", "_law_due_here", "_law_again"] ["_law_script"] (defScope s_law) := ⟨rfl, rfl, rfl, by decide +kernel, rfl, by decide +kernel, by decide +kernel⟩
structure BtI (mg : Str → Option Value) : Prop extends BtH mg
def spLaw (K : PySem.W.Frag) : Sp := fun vs H Q _ => ∃ (a : Addr) (ns : List Int), vs = [.ref a] ∧ SqL K H a (ns.map V.int) ∧ ns.length ≤ 63 ∧ ∀ H' : Hp, Kp [] H H' → Q (.bl true) H'
/-! ### the last part: asked twice -/
def outD : Out → PyData
  | .cl i => .tuple [.str "client", .int i, .bool true]
  | .nm z => .tuple [.str "name", .str z, .bool true]
  | .ok => .tuple [.str "let", .none]
theorem outD_dp {K : PySem.W.Frag} {H : Hp} {o : Addr} {r : Out} (h : H o = some (.tup (outT r))) : Dp K H (.ref o) (outD r) := by
  cases r with
  | ok => exact .tup (sq_t h) (.cons (.str _) (.cons .non .nil))
  | cl i => exact .tup (sq_t h) (.cons (.str _) (.cons (.int _) (.cons (.bl true) .nil)))
  | nm z => exact .tup (sq_t h) (.cons (.str _) (.cons (.str _) (.cons (.bl true) .nil)))
theorem lay_all : ∀ {ds : List PyData}, PyData.canLayAll0 ds = true → ∀ d ∈ ds, d.canLay0 = true
  | d :: ds, h, e, he => by
    have h' : (PyData.canLay0 d && PyData.canLayAll0 ds) = true := h
    rw [Bool.and_eq_true] at h'
    rcases List.mem_cons.mp he with rfl | he
    · exact h'.1
    · exact lay_all h'.2 e he
theorem lay_names {d : PyData} (h : d.canLay0 = true) : ∀ z ∈ namesC d, PyData.canLay0 (.str z) = true := by
  intro z hz
  unfold namesC at hz
  obtain ⟨m, hm, hzm⟩ := List.mem_flatMap.mp hz
  have lm : m.canLay0 = true := by
    unfold menusC at hm
    split at hm
    · rename_i ms x
      have h1 : PyData.canLayAll0 [.tuple ms, x] = true := h
      have h2 : PyData.canLay0 (.tuple ms) = true := lay_all h1 _ List.mem_cons_self
      exact lay_all (show PyData.canLayAll0 ms = true from h2) m hm
    · cases hm
  unfold namesM at hzm
  split at hzm
  · rename_i ds
    obtain ⟨e, he, rfl⟩ := List.mem_map.mp hzm
    have le := lay_all (show PyData.canLayAll0 ds = true from lm) e he
    unfold strD
    split
    · exact le
    · decide +kernel
  · cases hzm
theorem due_mem {ds : List PyData} {ks : List Str} {z : Str} (h : due ds ks = .nm z) : z ∈ ds.flatMap namesC := by
  unfold due at h
  split at h
  · cases h
  split at h
  · cases h
  split at h
  · rename_i z' e
    cases h
    exact List.mem_of_find?_eq_some e
  · cases h
theorem outD_fit {ds : List PyData} {ks : List Str} (h : ∀ d ∈ ds, OkD 6 d) : Fit (outD (due ds ks)) := by
  have base : ∀ z : Str, PyData.canLay0 (.str z) = true → Fit (.tuple [.str "name", .str z, .bool true]) := fun z hz => by
    have l : PyData.canLay0 (.tuple [.str "name", .str z, .bool true]) = true := by
      show (PyData.canLay0 (.str "name") && (PyData.canLay0 (.str z) && (true && true))) = true
      rw [hz]; decide +kernel
    have dp : PyData.depth (.tuple [.str "name", .str z, .bool true]) ≤ 1 := by
      show max 0 (max 0 (max 0 0)) + 1 ≤ 1
      decide
    refine ⟨?_, by omega⟩
    unfold SeqAt.shaped
    rw [l, decide_eq_true (by omega)]; rfl
  cases e : due ds ks with
  | ok => exact ⟨by decide +kernel, by decide +kernel⟩
  | nm z =>
    refine base z ?_
    obtain ⟨d, hd, hz⟩ := List.mem_flatMap.mp (due_mem e)
    exact lay_names (h d hd).1 z hz
  | cl i =>
    have l : PyData.canLay0 (outD (.cl i)) = true := by
      show (PyData.canLay0 (.str "client") && (true && (true && true))) = true
      decide +kernel
    have dp : PyData.depth (outD (.cl i)) ≤ 1 := by
      show max 0 (max 0 (max 0 0)) + 1 ≤ 1
      decide
    refine ⟨?_, by omega⟩
    unfold SeqAt.shaped
    rw [l, decide_eq_true (by omega)]; rfl
structure Pre2 (H : Hp) (gs cs : List V) (gds cds : List PyData) (is : List Int) (ks : List Str) : Prop where
  g : DqAll H gs gds
  c : DqAll H cs cds
  go : ∀ d ∈ gds, OkD 6 d ∧ callerD d = true
  co : ∀ d ∈ cds, OkD 6 d
  gl : gds.length ≤ 5
  cl : cds.length ≤ 5
  sp : ∀ (i : Nat) (d : PyData), cds[i]? = some d → i < 3 → ((i : Int) ∈ is ↔ callerD d = false)
  kl : ks.length ≤ 8
  ko : ∀ z ∈ ks, OkD 0 (.str z)
theorem Pre2.kp {H H' : Hp} {gs cs : List V} {gds cds : List PyData} {is : List Int} {ks : List Str} (h : Pre2 H gs cs gds cds is ks) (k : Kp [] H H') : Pre2 H' gs cs gds cds is ks := ⟨h.g.kp k, h.c.kp k, h.go, h.co, h.gl, h.cl, h.sp, h.kl, h.ko⟩
def Tail2 (H0 : Hp) (σ : L2.St) (H : Hp) : Prop := ∃ (c0 c1 c2 c3 c4 c5 : Option V) (ga ca sa ka : Addr) (gs cs : List V) (gds cds : List PyData) (is : List Int) (ks : List Str), σ = [c0, c1, c2, c3, c4, c5, some (.ref ga), some (.ref ca), some (.ref sa), some (.ref ka), none, none, none, none] ∧
  H ga = some (.lst gs) ∧ H ca = some (.lst cs) ∧ H sa = some (.lst (is.map V.int)) ∧ H ka = some (.lst (ks.map V.str)) ∧ Pre2 H gs cs gds cds is ks ∧ Kp [] H0 H
section
variable {P : Program} {w : World} {K : PySem.W.Frag} {mg : Str → Option Value} {base : Heap}
theorem law_tail2 (T : BtI mg) {f : Addr} {cdv : Value} {A : Around} {outer : List Env} {s : Shared} {H : Hp} {Q : VK} {E : XK} (hr : Room 6 (A.deeper (PyProof.Rows.envOfC "law" (defScope s_law) s.heap.objs.size f cdv)))
    {f9 : Addr} {fd9 : FuncData} (D_law_due : Df K mg "_law_due" s_law_due ["_law_client", "_law_spoilt_here", "_law_known"] f9 fd9) (G_law_due : FnOk P w K mg base CX0 1 f9 fd9 ["_law_client", "_law_spoilt_here", "_law_known"] (spDue K))
    {f10 : Addr} {fd10 : FuncData} (D_law_refused : Df K mg "_law_refused" s_law_refused ["_law_client", "_law_known"] f10 fd10) (G_law_refused : FnOk P w K mg base CX0 6 f10 fd10 ["_law_client", "_law_known"] (spRefd K))
    {f11 : Addr} {fd11 : FuncData} (D_law_base : Df K mg "_law_base" s_law_base ["_law_client", "_law_known"] f11 fd11) (G_law_base : FnOk P w K mg base CX0 6 f11 fd11 ["_law_client", "_law_known"] (spBas K)) (q : ∀ H' : Hp, Kp [] H H' → Q (.bl true) H') :
    ∃ t, PSs (cxOf CX0 P w K mg base ["_law_script", "_law_row", "_law_k", "_law_names", "_law_things", "_law_one", "_law_good", "_law_client", "_law_spoilt_here", "_law_known", "_law_kept", "_law_listed", "_law_due_here", "_law_again"] "law" (defScope s_law) f cdv A outer s H E).nox ((defBody s_law).drop 13) t ∧ ∀ σ H9, Tail2 H σ H9 → t { nx := fun _ H' => Q .non H', rt := Q } σ H9 := by
  refine ⟨_, (pss_cons (ps_set (i := 10) sc_law.nd rfl (Or.inl rfl) (pe_callTy call_list_of (by rfl) T.b_list (by decide +kernel) (pa_cons (pv 7) pa_nil)))
      (pss_cons (ps_set (i := 11) sc_law.nd rfl (Or.inl rfl) (pe_callTy call_list_of (by rfl) T.b_list (by decide +kernel) (pa_cons (pv 9) pa_nil)))
      (pss_cons (ps_set (i := 12) sc_law.nd rfl (Or.inl rfl) (pe_call G_law_due (hr.mono (by decide)) rfl D_law_due.g D_law_due.F.kp D_law_due.b .nil pass0 (pa_cons (pv 7) (pa_cons (pv 8) (pa_cons (pv 9) pa_nil)))))
      (pss_cons (ps_for PassesOwn.never rfl (pi_range1 rfl T.b_range (pa_cons pe_int pa_nil)) (pg_name (i := 13) sc_law.nd rfl (Or.inl rfl)) (pss_one (ps_if (PW.pt (pw_or (pt_cmpR (op_neD hr.units) (pe_call G_law_refused (hr.mono (by decide)) rfl D_law_refused.g D_law_refused.F.kp D_law_refused.b .nil pass0 (pa_cons (pv 7) (pa_cons (pv 9) pa_nil))) (pv 12) (nomark _)) (pw_or (pt_cmpR (op_neD hr.units) (pv 7) (pv 10) (nomark _)) (pw_or1 (pt_cmpR (op_neD hr.units) (pv 9) (pv 11) (nomark _)))))) (pss_one (ps_ret pe_bl)) pss_nil)))
      (pss_cons (ps_if (pt_cmpR op_ne (pe_call G_law_base (hr.mono (by decide)) rfl D_law_base.g D_law_base.F.kp D_law_base.b .nil pass0 (pa_cons (pv 7) (pa_cons (pv 9) pa_nil))) (pe_cmpR (op_neD hr.units) (pe_ix (r := rIxT K) ix_tup (pv 12) pe_int (fun _ _ => rfl)) pe_str (nomark _)) (nomark _)) (pss_one (ps_ret pe_bl)) pss_nil)
      (pss_one (ps_ret (pe_cmpR (op_eqD hr.units) (pe_call G_law_refused (hr.mono (by decide)) rfl D_law_refused.g D_law_refused.F.kp D_law_refused.b .nil pass0 (pa_cons (pv 6) (pa_cons (pv 9) pa_nil))) (pe_call G_law_due (hr.mono (by decide)) rfl D_law_due.g D_law_due.F.kp D_law_due.b .nil pass0 (pa_cons (pv 6) (pa_cons (pe_lst pa_nil) (pa_cons (pv 9) pa_nil)))) (nomark _))))))))), ?_⟩
  rintro σ H9 ⟨c0, c1, c2, c3, c4, c5, ga, ca, sa, ka, gs, cs, gds, cds, is, ks, rfl, hg, hc, hs, hk, pr, k9⟩
  try simp only [tSeq, tIfS, tTest, tOp, tUn, tCB, tCons, tNil, tVar, tC, rI0, rI, rU, rEq, rNe, tRet, tRetN, tAsg, gName, gSub, tBM, tBM0, tNext, tB, tNot, tAnd, tOr, tIf, tCall, tDrop, tBreak, tCont, L2.start, tDGet, sDPut, tTup, tLst, tDNewK, tRevL, rCat, rAppend, rPop, rSetL, tAndV, tOrV, tNotV, tSl, tPart, tNoPart, tM1, gTup, gCons, gNil, cxK, cxnK, List.map_cons, List.map_nil, List.length_cons, List.length_nil, List.replicate, List.cons_append, List.nil_append, List.append_nil, List.set_cons_zero, List.set_cons_succ, List.getElem?_cons_zero, List.getElem?_cons_succ, Option.some.injEq, V.ref.injEq, V.int.injEq, V.str.injEq, V.bl.injEq, V.ty.injEq, exists_eq_left', exists_eq_left, exists_and_left, List.cons.injEq, and_true, true_and, sc_ii, sc_ss, sc_bb, sc_ni, sc_in, sc_is, sc_si, sc_nn, decide_true, decide_false, reduceCtorEq, Bool.false_eq_true, if_true, if_false, ite_true, ite_false, exists_const, eq_self, false_and, and_false, or_false, false_or, exists_false, Evl.rLenS, rSum, wipe, tYes, exists_eq, exists_eq', rIxL, rIxT, rIxS, exists_and_right, gt_iff_lt, not_true_eq_false, not_false_eq_true, Bool.not_true, Bool.not_false, decide_eq_true_eq, Nat.reduceSub, Nat.reduceAdd, List.append_assoc, tChain, tDIn, tDNotIn, sDDel, tAug, ipI]
  refine ⟨cs, .inl (sq_l hc), fun l nl => ⟨_, .inl ((Kp.new nl).ls not0 (sq_l hk)), fun l1 nl1 => ?_⟩⟩
  have k1 : Kp [] H9 (upd H9 l (.lst cs)) := Kp.new nl
  have h1 : (upd H9 l (.lst cs)) l = some (.lst cs) := upd_same
  generalize upd H9 l (.lst cs) = X1 at k1 h1 nl1 ⊢
  have k2 : Kp [] X1 (upd X1 l1 (.lst (ks.map V.str))) := Kp.new nl1
  have h2 : (upd X1 l1 (.lst (ks.map V.str))) l1 = some (.lst (ks.map V.str)) := upd_same
  generalize upd X1 l1 (.lst (ks.map V.str)) = X2 at k2 h2 ⊢
  have k12 := k1.trans k2
  have pr2 := pr.kp k12
  have szc : szAll cds = true := (okD_all pr.co).2.2
  have szg : szAll gds = true := (okD_all fun d hd => (pr.go d hd).1).2.2
  have cl := pr.cl
  have gl := pr.gl
  refine ⟨ca, sa, ka, cs, cds, is, ks, rfl, sq_l (k12 _ _ not0 hc), pr2.c, by omega, sq_l (k12 _ _ not0 hs), sq_l (k12 _ _ not0 hk), pr.sp, fun o X3 ho k3 => ?_⟩
  have fo : Fit (outD (due cds ks)) := outD_fit pr.co
  have shC : SeqAt.shaped (.list cds) = true := (fitL fun d hd => (pr.co d hd).fit (by decide)).1
  have shK : SeqAt.shaped (.list (ks.map PyData.str)) = true := (fitL fun d hd => by
    obtain ⟨z, hz, rfl⟩ := List.mem_map.mp hd
    exact (pr.ko z hz).fit (by decide)).1
  refine forRg 2 (fun _ σ H' => ∃ c, σ = [c0, c1, c2, c3, c4, c5, some (.ref ga), some (.ref ca), some (.ref sa), some (.ref ka), some (.ref l), some (.ref l1), some (.ref o), c] ∧ Kp [] X3 H') ?_ (by decide) (by decide) ⟨none, rfl, Kp.refl _ _⟩ ?_ ?_
  · intro R hR
    try simp only [tSeq, tIfS, tTest, tOp, tUn, tCB, tCons, tNil, tVar, tC, rI0, rI, rU, rEq, rNe, tRet, tRetN, tAsg, gName, gSub, tBM, tBM0, tNext, tB, tNot, tAnd, tOr, tIf, tCall, tDrop, tBreak, tCont, L2.start, tDGet, sDPut, tTup, tLst, tDNewK, tRevL, rCat, rAppend, rPop, rSetL, tAndV, tOrV, tNotV, tSl, tPart, tNoPart, tM1, gTup, gCons, gNil, cxK, cxnK, List.map_cons, List.map_nil, List.length_cons, List.length_nil, List.replicate, List.cons_append, List.nil_append, List.append_nil, List.set_cons_zero, List.set_cons_succ, List.getElem?_cons_zero, List.getElem?_cons_succ, Option.some.injEq, V.ref.injEq, V.int.injEq, V.str.injEq, V.bl.injEq, V.ty.injEq, exists_eq_left', exists_eq_left, exists_and_left, List.cons.injEq, and_true, true_and, sc_ii, sc_ss, sc_bb, sc_ni, sc_in, sc_is, sc_si, sc_nn, decide_true, decide_false, reduceCtorEq, Bool.false_eq_true, if_true, if_false, ite_true, ite_false, exists_const, eq_self, false_and, and_false, or_false, false_or, exists_false, Evl.rLenS, rSum, wipe, tYes, exists_eq, exists_eq', rIxL, rIxT, rIxS, exists_and_right, gt_iff_lt, not_true_eq_false, not_false_eq_true, Bool.not_true, Bool.not_false, decide_eq_true_eq, Nat.reduceSub, Nat.reduceAdd, List.append_assoc, tChain, tDIn, tDNotIn, sDDel, tAug, ipI]
    exact hR
  · rintro j σ H' hj ⟨c, rfl, k4⟩
    have kk := k12.trans (k3.trans k4)
    try simp only [tSeq, tIfS, tTest, tOp, tUn, tCB, tCons, tNil, tVar, tC, rI0, rI, rU, rEq, rNe, tRet, tRetN, tAsg, gName, gSub, tBM, tBM0, tNext, tB, tNot, tAnd, tOr, tIf, tCall, tDrop, tBreak, tCont, L2.start, tDGet, sDPut, tTup, tLst, tDNewK, tRevL, rCat, rAppend, rPop, rSetL, tAndV, tOrV, tNotV, tSl, tPart, tNoPart, tM1, gTup, gCons, gNil, cxK, cxnK, List.map_cons, List.map_nil, List.length_cons, List.length_nil, List.replicate, List.cons_append, List.nil_append, List.append_nil, List.set_cons_zero, List.set_cons_succ, List.getElem?_cons_zero, List.getElem?_cons_succ, Option.some.injEq, V.ref.injEq, V.int.injEq, V.str.injEq, V.bl.injEq, V.ty.injEq, exists_eq_left', exists_eq_left, exists_and_left, List.cons.injEq, and_true, true_and, sc_ii, sc_ss, sc_bb, sc_ni, sc_in, sc_is, sc_si, sc_nn, decide_true, decide_false, reduceCtorEq, Bool.false_eq_true, if_true, if_false, ite_true, ite_false, exists_const, eq_self, false_and, and_false, or_false, false_or, exists_false, Evl.rLenS, rSum, wipe, tYes, exists_eq, exists_eq', rIxL, rIxT, rIxS, exists_and_right, gt_iff_lt, not_true_eq_false, not_false_eq_true, Bool.not_true, Bool.not_false, decide_eq_true_eq, Nat.reduceSub, Nat.reduceAdd, List.append_assoc, tChain, tDIn, tDNotIn, sDDel, tAug, ipI]
    refine ⟨ca, ka, cs, cds, ks, rfl, sq_l (kk _ _ not0 hc), (pr.kp kk).c, szc, by omega, sq_l (kk _ _ not0 hk), fun o2 X5 ho2 k5 => ?_⟩
    have kk5 := kk.trans k5
    have k25 := k3.trans (k4.trans k5)
    try simp only [tSeq, tIfS, tTest, tOp, tUn, tCB, tCons, tNil, tVar, tC, rI0, rI, rU, rEq, rNe, tRet, tRetN, tAsg, gName, gSub, tBM, tBM0, tNext, tB, tNot, tAnd, tOr, tIf, tCall, tDrop, tBreak, tCont, L2.start, tDGet, sDPut, tTup, tLst, tDNewK, tRevL, rCat, rAppend, rPop, rSetL, tAndV, tOrV, tNotV, tSl, tPart, tNoPart, tM1, gTup, gCons, gNil, cxK, cxnK, List.map_cons, List.map_nil, List.length_cons, List.length_nil, List.replicate, List.cons_append, List.nil_append, List.append_nil, List.set_cons_zero, List.set_cons_succ, List.getElem?_cons_zero, List.getElem?_cons_succ, Option.some.injEq, V.ref.injEq, V.int.injEq, V.str.injEq, V.bl.injEq, V.ty.injEq, exists_eq_left', exists_eq_left, exists_and_left, List.cons.injEq, and_true, true_and, sc_ii, sc_ss, sc_bb, sc_ni, sc_in, sc_is, sc_si, sc_nn, decide_true, decide_false, reduceCtorEq, Bool.false_eq_true, if_true, if_false, ite_true, ite_false, exists_const, eq_self, false_and, and_false, or_false, false_or, exists_false, Evl.rLenS, rSum, wipe, tYes, exists_eq, exists_eq', rIxL, rIxT, rIxS, exists_and_right, gt_iff_lt, not_true_eq_false, not_false_eq_true, Bool.not_true, Bool.not_false, decide_eq_true_eq, Nat.reduceSub, Nat.reduceAdd, List.append_assoc, tChain, tDIn, tDNotIn, sDDel, tAug, ipI]
    refine ⟨outD (due cds ks), outD (due cds ks), outD_dp ho2, outD_dp ((k4.trans k5) _ _ not0 ho), fo.1, fo.1, ?_⟩
    rw [SeqAt.eqv_refl _ (SeqAt.canLay_of_shaped fo.1)]
    try simp only [tSeq, tIfS, tTest, tOp, tUn, tCB, tCons, tNil, tVar, tC, rI0, rI, rU, rEq, rNe, tRet, tRetN, tAsg, gName, gSub, tBM, tBM0, tNext, tB, tNot, tAnd, tOr, tIf, tCall, tDrop, tBreak, tCont, L2.start, tDGet, sDPut, tTup, tLst, tDNewK, tRevL, rCat, rAppend, rPop, rSetL, tAndV, tOrV, tNotV, tSl, tPart, tNoPart, tM1, gTup, gCons, gNil, cxK, cxnK, List.map_cons, List.map_nil, List.length_cons, List.length_nil, List.replicate, List.cons_append, List.nil_append, List.append_nil, List.set_cons_zero, List.set_cons_succ, List.getElem?_cons_zero, List.getElem?_cons_succ, Option.some.injEq, V.ref.injEq, V.int.injEq, V.str.injEq, V.bl.injEq, V.ty.injEq, exists_eq_left', exists_eq_left, exists_and_left, List.cons.injEq, and_true, true_and, sc_ii, sc_ss, sc_bb, sc_ni, sc_in, sc_is, sc_si, sc_nn, decide_true, decide_false, reduceCtorEq, Bool.false_eq_true, if_true, if_false, ite_true, ite_false, exists_const, eq_self, false_and, and_false, or_false, false_or, exists_false, Evl.rLenS, rSum, wipe, tYes, exists_eq, exists_eq', rIxL, rIxT, rIxS, exists_and_right, gt_iff_lt, not_true_eq_false, not_false_eq_true, Bool.not_true, Bool.not_false, decide_eq_true_eq, Nat.reduceSub, Nat.reduceAdd, List.append_assoc, tChain, tDIn, tDNotIn, sDDel, tAug, ipI]
    refine ⟨.list cds, .list cds, .lst (sq_l (kk5 _ _ not0 hc)) (pr.kp kk5).c.dp, .lst (sq_l ((k2.trans k25) _ _ not0 h1)) (pr.kp kk5).c.dp, shC, shC, ?_⟩
    rw [SeqAt.eqv_refl _ (SeqAt.canLay_of_shaped shC)]
    try simp only [tSeq, tIfS, tTest, tOp, tUn, tCB, tCons, tNil, tVar, tC, rI0, rI, rU, rEq, rNe, tRet, tRetN, tAsg, gName, gSub, tBM, tBM0, tNext, tB, tNot, tAnd, tOr, tIf, tCall, tDrop, tBreak, tCont, L2.start, tDGet, sDPut, tTup, tLst, tDNewK, tRevL, rCat, rAppend, rPop, rSetL, tAndV, tOrV, tNotV, tSl, tPart, tNoPart, tM1, gTup, gCons, gNil, cxK, cxnK, List.map_cons, List.map_nil, List.length_cons, List.length_nil, List.replicate, List.cons_append, List.nil_append, List.append_nil, List.set_cons_zero, List.set_cons_succ, List.getElem?_cons_zero, List.getElem?_cons_succ, Option.some.injEq, V.ref.injEq, V.int.injEq, V.str.injEq, V.bl.injEq, V.ty.injEq, exists_eq_left', exists_eq_left, exists_and_left, List.cons.injEq, and_true, true_and, sc_ii, sc_ss, sc_bb, sc_ni, sc_in, sc_is, sc_si, sc_nn, decide_true, decide_false, reduceCtorEq, Bool.false_eq_true, if_true, if_false, ite_true, ite_false, exists_const, eq_self, false_and, and_false, or_false, false_or, exists_false, Evl.rLenS, rSum, wipe, tYes, exists_eq, exists_eq', rIxL, rIxT, rIxS, exists_and_right, gt_iff_lt, not_true_eq_false, not_false_eq_true, Bool.not_true, Bool.not_false, decide_eq_true_eq, Nat.reduceSub, Nat.reduceAdd, List.append_assoc, tChain, tDIn, tDNotIn, sDDel, tAug, ipI]
    refine ⟨.list (ks.map PyData.str), .list (ks.map PyData.str), .lst (sq_l (kk5 _ _ not0 hk)) (dpStrs ks), .lst (sq_l (k25 _ _ not0 h2)) (dpStrs ks), shK, shK, ?_⟩
    rw [SeqAt.eqv_refl _ (SeqAt.canLay_of_shaped shK)]
    try simp only [tSeq, tIfS, tTest, tOp, tUn, tCB, tCons, tNil, tVar, tC, rI0, rI, rU, rEq, rNe, tRet, tRetN, tAsg, gName, gSub, tBM, tBM0, tNext, tB, tNot, tAnd, tOr, tIf, tCall, tDrop, tBreak, tCont, L2.start, tDGet, sDPut, tTup, tLst, tDNewK, tRevL, rCat, rAppend, rPop, rSetL, tAndV, tOrV, tNotV, tSl, tPart, tNoPart, tM1, gTup, gCons, gNil, cxK, cxnK, List.map_cons, List.map_nil, List.length_cons, List.length_nil, List.replicate, List.cons_append, List.nil_append, List.append_nil, List.set_cons_zero, List.set_cons_succ, List.getElem?_cons_zero, List.getElem?_cons_succ, Option.some.injEq, V.ref.injEq, V.int.injEq, V.str.injEq, V.bl.injEq, V.ty.injEq, exists_eq_left', exists_eq_left, exists_and_left, List.cons.injEq, and_true, true_and, sc_ii, sc_ss, sc_bb, sc_ni, sc_in, sc_is, sc_si, sc_nn, decide_true, decide_false, reduceCtorEq, Bool.false_eq_true, if_true, if_false, ite_true, ite_false, exists_const, eq_self, false_and, and_false, or_false, false_or, exists_false, Evl.rLenS, rSum, wipe, tYes, exists_eq, exists_eq', rIxL, rIxT, rIxS, exists_and_right, gt_iff_lt, not_true_eq_false, not_false_eq_true, Bool.not_true, Bool.not_false, decide_eq_true_eq, Nat.reduceSub, Nat.reduceAdd, List.append_assoc, tChain, tDIn, tDNotIn, sDDel, tAug, ipI]
    exact k4.trans k5
  · rintro σ H' ⟨c, rfl, k4⟩
    have kk := k12.trans (k3.trans k4)
    try simp only [tSeq, tIfS, tTest, tOp, tUn, tCB, tCons, tNil, tVar, tC, rI0, rI, rU, rEq, rNe, tRet, tRetN, tAsg, gName, gSub, tBM, tBM0, tNext, tB, tNot, tAnd, tOr, tIf, tCall, tDrop, tBreak, tCont, L2.start, tDGet, sDPut, tTup, tLst, tDNewK, tRevL, rCat, rAppend, rPop, rSetL, tAndV, tOrV, tNotV, tSl, tPart, tNoPart, tM1, gTup, gCons, gNil, cxK, cxnK, List.map_cons, List.map_nil, List.length_cons, List.length_nil, List.replicate, List.cons_append, List.nil_append, List.append_nil, List.set_cons_zero, List.set_cons_succ, List.getElem?_cons_zero, List.getElem?_cons_succ, Option.some.injEq, V.ref.injEq, V.int.injEq, V.str.injEq, V.bl.injEq, V.ty.injEq, exists_eq_left', exists_eq_left, exists_and_left, List.cons.injEq, and_true, true_and, sc_ii, sc_ss, sc_bb, sc_ni, sc_in, sc_is, sc_si, sc_nn, decide_true, decide_false, reduceCtorEq, Bool.false_eq_true, if_true, if_false, ite_true, ite_false, exists_const, eq_self, false_and, and_false, or_false, false_or, exists_false, Evl.rLenS, rSum, wipe, tYes, exists_eq, exists_eq', rIxL, rIxT, rIxS, exists_and_right, gt_iff_lt, not_true_eq_false, not_false_eq_true, Bool.not_true, Bool.not_false, decide_eq_true_eq, Nat.reduceSub, Nat.reduceAdd, List.append_assoc, tChain, tDIn, tDNotIn, sDDel, tAug, ipI]
    refine ⟨ca, ka, cs, cds, ks, rfl, sq_l (kk _ _ not0 hc), (pr.kp kk).c, szc, by omega, sq_l (kk _ _ not0 hk), fun H5 k5 => ?_⟩
    have kk5 := kk.trans k5
    obtain ⟨w, rest, ew, eo⟩ : ∃ (w : Str) (rest : List V), outT (due cds ks) = .str w :: rest ∧ (w == ("let" : Str)) = isOk (due cds ks) := by
      cases due cds ks with
      | ok => exact ⟨_, _, rfl, by decide +kernel⟩
      | cl i => exact ⟨_, _, rfl, by show (Str.ofString "client" == Str.ofString "let") = false; decide +kernel⟩
      | nm z => exact ⟨_, _, rfl, by show (Str.ofString "name" == Str.ofString "let") = false; decide +kernel⟩
    have fw : SeqAt.shaped (.str w) = true := by
      cases hd : due cds ks with
      | ok => rw [hd] at ew; cases ew; decide +kernel
      | cl i => rw [hd] at ew; cases ew; decide +kernel
      | nm z => rw [hd] at ew; cases ew; decide +kernel
    refine ⟨_, sq_t ((k4.trans k5) _ _ not0 ho), .str w, atI_of (by decide) (by rw [ew]; rfl), .str w, .str "let", .str _, .str _, fw, by decide +kernel, ?_⟩
    have e1 : PyData.eqv (.str w) (.str "let") = (w == ("let" : Str)) := by simp only [PyData.eqv]
    rw [e1, eo]
    refine ⟨rfl, ?_⟩
    rw [decide_eq_true rfl]
    try simp only [tSeq, tIfS, tTest, tOp, tUn, tCB, tCons, tNil, tVar, tC, rI0, rI, rU, rEq, rNe, tRet, tRetN, tAsg, gName, gSub, tBM, tBM0, tNext, tB, tNot, tAnd, tOr, tIf, tCall, tDrop, tBreak, tCont, L2.start, tDGet, sDPut, tTup, tLst, tDNewK, tRevL, rCat, rAppend, rPop, rSetL, tAndV, tOrV, tNotV, tSl, tPart, tNoPart, tM1, gTup, gCons, gNil, cxK, cxnK, List.map_cons, List.map_nil, List.length_cons, List.length_nil, List.replicate, List.cons_append, List.nil_append, List.append_nil, List.set_cons_zero, List.set_cons_succ, List.getElem?_cons_zero, List.getElem?_cons_succ, Option.some.injEq, V.ref.injEq, V.int.injEq, V.str.injEq, V.bl.injEq, V.ty.injEq, exists_eq_left', exists_eq_left, exists_and_left, List.cons.injEq, and_true, true_and, sc_ii, sc_ss, sc_bb, sc_ni, sc_in, sc_is, sc_si, sc_nn, decide_true, decide_false, reduceCtorEq, Bool.false_eq_true, if_true, if_false, ite_true, ite_false, exists_const, eq_self, false_and, and_false, or_false, false_or, exists_false, Evl.rLenS, rSum, wipe, tYes, exists_eq, exists_eq', rIxL, rIxT, rIxS, exists_and_right, gt_iff_lt, not_true_eq_false, not_false_eq_true, Bool.not_true, Bool.not_false, decide_eq_true_eq, Nat.reduceSub, Nat.reduceAdd, List.append_assoc, tChain, tDIn, tDNotIn, sDDel, tAug, ipI]
    refine ⟨ga, ka, gs, gds, ks, rfl, sq_l (kk5 _ _ not0 hg), (pr.kp kk5).g, szg, by omega, sq_l (kk5 _ _ not0 hk), fun o2 X6 ho2 k6 => ⟨small (by decide), fun z nz => ?_⟩⟩
    have kk6 := kk5.trans k6
    have kz : Kp [] X6 (upd X6 z (.lst [])) := Kp.new nz
    have hz0 : (upd X6 z (.lst [])) z = some (.lst []) := upd_same
    generalize upd X6 z (.lst []) = X7 at kz hz0 ⊢
    have kk7 := kk6.trans kz
    refine ⟨ga, z, ka, gs, gds, [], ks, rfl, sq_l (kk7 _ _ not0 hg), (pr.kp kk7).g, by omega, sq_l hz0, sq_l (kk7 _ _ not0 hk), fun i d e h3 => ?_, fun o3 X8 ho3 k8 => ?_⟩
    · rw [(pr.go d (List.mem_of_getElem? e)).2]
      exact ⟨fun h => (by cases h), fun h => (by cases h)⟩
    · have fg : Fit (outD (due gds ks)) := outD_fit fun d hd => (pr.go d hd).1
      refine ⟨outD (due gds ks), outD (due gds ks), outD_dp ((kz.trans k8) _ _ not0 ho2), outD_dp ho3, fg.1, fg.1, ?_⟩
      rw [SeqAt.eqv_refl _ (SeqAt.canLay_of_shaped fg.1)]
      exact q _ (k9.trans (kk7.trans k8))
end
end My

set_option Elab.async false
set_option linter.all false
set_option maxRecDepth 100000
set_option maxHeartbeats 8000000
namespace My
open PySem L2 NdefX
/-- a test that changes nothing: both ways are shown -/
theorem if_any {tt : TT} {ta tb : TS} {D : Ends} {σ : L2.St} {H : Hp} (ht : ∃ b : Bool, ∀ R : Bool → Hp → Prop, R b H → tt σ H R) (h1 : ta D σ H) (h2 : tb D σ H) : tIfS tt ta tb D σ H := by
  obtain ⟨b, hb⟩ := ht
  refine hb _ ?_
  cases b with
  | true => exact h1
  | false => exact h2
/-- the callers of a list that are good -/
def GAt (zs : List Str) (H : Hp) (gs : List V) (cs : List (List (List Str) × Bool)) : Prop := gs.length = cs.length ∧ ∀ (i : Nat) (c : List (List Str) × Bool), cs[i]? = some c → ∃ p, gs[i]? = some (.ref p) ∧ CAt H p c.1 c.2 ∧ GoodC zs c.1
theorem GAt.kp {zs : List Str} {H H' : Hp} {gs : List V} {cs : List (List (List Str) × Bool)} (h : GAt zs H gs cs) {S : List Addr} (k : Kp S H H') (hS : ∀ a ∈ S, ∃ xs, H a = some (.lst xs)) : GAt zs H' gs cs := ⟨h.1, fun i c e => by
  obtain ⟨p, e1, e2, e3⟩ := h.2 i c e
  exact ⟨p, e1, e2.kp k hS, e3⟩⟩
def dOf (c : List (List Str) × Bool) : PyData := cD c.1 c.2
theorem gat_fd {zs : List Str} {H0 H : Hp} : ∀ {cs : List (List (List Str) × Bool)} {gs : List V}, GAt zs H gs cs → FdAll H0 H gs (cs.map dOf)
  | [], [], _ => .nil
  | c :: cs, [], h => by cases h.1
  | [], g :: gs, h => by cases h.1
  | c :: cs, g :: gs, h => by
    obtain ⟨p, e1, e2, _⟩ := h.2 0 c rfl
    cases e1
    exact .cons e2.fd (gat_fd ⟨by have := h.1; simpa using this, fun i c' e => h.2 (i + 1) c' e⟩)
def RowOk (rw_ : List V) : Prop := ∀ c : Nat, c < 48 → ∃ x : Int, rw_[c]? = some (V.int x) ∧ 0 ≤ x ∧ x < 1000
def Tail1 (H0 : Hp) (σ : L2.St) (H : Hp) : Prop := ∃ (c2 : Option V) (a ro nm th : Addr) (rw_ : List V) (zs xs : List Str), σ = [some (.ref a), some (.ref ro), c2, some (.ref nm), some (.ref th), none, none, none, none, none, none, none, none, none] ∧
  H ro = some (.lst rw_) ∧ RowOk rw_ ∧ H nm = some (.lst (zs.map V.str)) ∧ Names8 zs ∧ H th = some (.lst (xs.map V.str)) ∧ xs.length ≤ 7 ∧ (∀ x ∈ xs, OkT x) ∧ Kp [] H0 H
section
variable {P : Program} {w : World} {K : PySem.W.Frag} {mg : Str → Option Value} {base : Heap}
theorem law_tail1 (T : BtI mg) {f : Addr} {cdv : Value} {A : Around} {outer : List Env} {s : Shared} {H : Hp} {Q : VK} {E : XK} (hr : Room 6 (A.deeper (PyProof.Rows.envOfC "law" (defScope s_law) s.heap.objs.size f cdv)))
    {f3 : Addr} {fd3 : FuncData} (D_law_once : Df K mg "_law_once" s_law_once ["_law_row"] f3 fd3) (G_law_once : FnOk P w K mg base CX0 2 f3 fd3 ["_law_row"] (spOn K))
    {f4 : Addr} {fd4 : FuncData} (D_law_always : Df K mg "_law_always" s_law_always ["_law_row"] f4 fd4) (G_law_always : FnOk P w K mg base CX0 2 f4 fd4 ["_law_row"] (spAl K))
    {f5 : Addr} {fd5 : FuncData} (D_law_is_caller : Df K mg "_law_is_caller" s_law_is_caller ["_law_actual", "_law_menus", "_law_again"] f5 fd5) (G_law_is_caller : FnOk P w K mg base CX0 1 f5 fd5 ["_law_actual", "_law_menus", "_law_again"] (spIC K))
    {f6 : Addr} {fd6 : FuncData} (D_law_caller : Df K mg "_law_caller" s_law_caller ["_law_names", "_law_cell", "_law_more"] f6 fd6) (G_law_caller : FnOk P w K mg base CX0 1 f6 fd6 ["_law_names", "_law_cell", "_law_more"] (spCal K))
    {f7 : Addr} {fd7 : FuncData} (D_law_spoilt : Df K mg "_law_spoilt" s_law_spoilt ["_law_caller_here", "_law_names", "_law_cell", "_law_more"] f7 fd7) (G_law_spoilt : FnOk P w K mg base CX0 2 f7 fd7 ["_law_caller_here", "_law_names", "_law_cell", "_law_more"] (spSpo K))
    {f8 : Addr} {fd8 : FuncData} (D_law_some : Df K mg "_law_some" s_law_some ["_law_names", "_law_bits", "_law_place"] f8 fd8) (G_law_some : FnOk P w K mg base CX0 1 f8 fd8 ["_law_names", "_law_bits", "_law_place"] (spSome K))
    {t : TS} (ht : PSs (cxOf CX0 P w K mg base ["_law_script", "_law_row", "_law_k", "_law_names", "_law_things", "_law_one", "_law_good", "_law_client", "_law_spoilt_here", "_law_known", "_law_kept", "_law_listed", "_law_due_here", "_law_again"] "law" (defScope s_law) f cdv A outer s H E).nox ((defBody s_law).drop 13) t) (hq : ∀ σ H9, Tail2 H σ H9 → t { nx := fun _ H' => Q .non H', rt := Q } σ H9) :
    ∃ t, PSs (cxOf CX0 P w K mg base ["_law_script", "_law_row", "_law_k", "_law_names", "_law_things", "_law_one", "_law_good", "_law_client", "_law_spoilt_here", "_law_known", "_law_kept", "_law_listed", "_law_due_here", "_law_again"] "law" (defScope s_law) f cdv A outer s H E).nox ((defBody s_law).drop 5) t ∧ ∀ σ H9, Tail1 H σ H9 → t { nx := fun _ H' => Q .non H', rt := Q } σ H9 := by
  refine ⟨_, (pss_cons (ps_if (pt_not (pt_val (pe_call G_law_is_caller (hr.mono (by decide)) rfl D_law_is_caller.g D_law_is_caller.F.kp D_law_is_caller.b .nil pass0 (pa_cons (pe_call G_law_once (hr.mono (by decide)) rfl D_law_once.g D_law_once.F.kp D_law_once.b .nil pass0 (pa_cons (pv 4) pa_nil)) (pa_cons (pe_lc (own := [("_law_one", 5)]) (g := (gName 5)) (tt := tYes) rfl sc_law.nd (pi_list (pv 4)) (blkOk_by (N := ["_law_script", "_law_row", "_law_k", "_law_names", "_law_things", "_law_one", "_law_good", "_law_client", "_law_spoilt_here", "_law_known", "_law_kept", "_law_listed", "_law_due_here", "_law_again"]) (sc := defScope s_law) (by decide +kernel)) (fun _ _ _ _ _ => (pg_name (i := 5) sc_law.nd rfl (Or.inl rfl))) (fun _ _ _ _ _ => pts_nil) (fun _ _ _ _ _ => (pe_lst (pa_cons (pv 5) pa_nil)))) (pa_cons pe_bl pa_nil)))))) (pss_one (ps_ret pe_bl)) pss_nil)
      (pss_cons (ps_if (pt_not (pt_val (pe_call G_law_is_caller (hr.mono (by decide)) rfl D_law_is_caller.g D_law_is_caller.F.kp D_law_is_caller.b .nil pass0 (pa_cons (pe_call G_law_always (hr.mono (by decide)) rfl D_law_always.g D_law_always.F.kp D_law_always.b .nil pass0 (pa_cons (pv 4) pa_nil)) (pa_cons (pe_lst (pa_cons (pe_callTy call_list_of (by rfl) T.b_list (by decide +kernel) (pa_cons (pv 4) pa_nil)) pa_nil)) (pa_cons pe_bl pa_nil)))))) (pss_one (ps_ret pe_bl)) pss_nil)
      (pss_cons (ps_setLc (i := 6) (own := [("_law_k", 2)]) (g := (gName 2)) (tt := tYes) rfl sc_law.nd rfl rfl (sw_true rfl rfl rfl (by decide +kernel)) (pi_range1 rfl T.b_range (pa_cons (pe_op op_mod (pe_ix (r := rIxL K) ix_list (pv 1) pe_int (fun _ _ => rfl)) pe_int) pa_nil)) (blkOk_by (N := ["_law_script", "_law_row", "_law_k", "_law_names", "_law_things", "_law_one", "_law_good", "_law_client", "_law_spoilt_here", "_law_known", "_law_kept", "_law_listed", "_law_due_here", "_law_again"]) (sc := defScope s_law) (by decide +kernel)) (fun _ _ _ _ _ => (pg_name (i := 2) sc_law.nd rfl (Or.inl rfl))) (fun _ _ _ _ _ => pts_nil) (fun _ _ _ _ _ => (pe_call G_law_caller (hr.mono (by decide)) rfl D_law_caller.g D_law_caller.F.kp D_law_caller.b .nil pass0 (pa_cons (pv 3) (pa_cons (pe_ix (r := rIxL K) ix_list (pv 1) (pe_op op_add pe_int (pe_op op_mul pe_int (pv 2))) (fun _ _ => rfl)) (pa_cons (pe_ix (r := rIxL K) ix_list (pv 1) (pe_op op_add pe_int (pe_op op_mul pe_int (pv 2))) (fun _ _ => rfl)) pa_nil))))))
      (pss_cons (ps_set (i := 7) sc_law.nd rfl (Or.inl rfl) (pe_callTy call_list_of (by rfl) T.b_list (by decide +kernel) (pa_cons (pv 6) pa_nil)))
      (pss_cons (ps_set (i := 8) sc_law.nd rfl (Or.inl rfl) (pe_lst pa_nil))
      (pss_cons (ps_for PassesOwn.never rfl (pi_range1 rfl T.b_range (pa_cons (pe_callB (id := "len") (r := Evl.rLenS K) call_len_seq (by rfl) T.b_len PySem.boot_len (pa_cons (pv 6) pa_nil)) pa_nil)) (pg_name (i := 2) sc_law.nd rfl (Or.inl rfl)) (pss_one (ps_if (PW.pt (pw_or (PW.pt (pw_and (pt_cmpR op_eq (pe_op op_mod (pe_ix (r := rIxL K) ix_list (pv 1) pe_int (fun _ _ => rfl)) pe_int) pe_int (nomark _)) (pw_and1 (pt_cmpR op_eq (pe_op op_mod (pe_ix (r := rIxL K) ix_list (pv 1) pe_int (fun _ _ => rfl)) (pe_callB (id := "len") (r := Evl.rLenS K) call_len_seq (by rfl) T.b_len PySem.boot_len (pa_cons (pv 6) pa_nil))) (pv 2) (nomark _))))) (pw_or1 (PW.pt (pw_and (pt_cmpR op_eq (pe_op op_mod (pe_ix (r := rIxL K) ix_list (pv 1) pe_int (fun _ _ => rfl)) pe_int) pe_int (nomark _)) (pw_and1 (pt_cmpR op_eq (pe_op op_mod (pe_op op_fdiv (pe_ix (r := rIxL K) ix_list (pv 1) (pe_op op_add pe_int (pv 2)) (fun _ _ => rfl)) pe_int) pe_int) pe_int (nomark _)))))))) (pss_cons (ps_asg (pe_call G_law_spoilt (hr.mono (by decide)) rfl D_law_spoilt.g D_law_spoilt.F.kp D_law_spoilt.b .nil pass0 (pa_cons (pe_ix (r := rIxL K) ix_list (pv 6) (pv 2) (fun _ _ => rfl)) (pa_cons (pv 3) (pa_cons (pe_ix (r := rIxL K) ix_list (pv 1) (pe_op op_add pe_int (pv 2)) (fun _ _ => rfl)) (pa_cons (pe_ix (r := rIxL K) ix_list (pv 1) (pe_op op_add pe_int (pv 2)) (fun _ _ => rfl)) pa_nil))))) (pg_sub (pv 7) (pv 2) set_list))
      (pss_one (ps_expr (pe_bm PySem.F.plainAttrs_list PySem.F.slot_list_append PySem.F.type_list_append mt_append (pv 8) (pa_cons (pv 2) pa_nil))))) pss_nil)))
      (pss_cons (ps_set (i := 9) sc_law.nd rfl (Or.inl rfl) (pe_callTy call_list_of (by rfl) T.b_list (by decide +kernel) (pa_cons (pv 3) pa_nil)))
      (pss_cons (ps_if (pt_cmpR op_eq (pe_op op_mod (pe_ix (r := rIxL K) ix_list (pv 1) pe_int (fun _ _ => rfl)) pe_int) pe_int (nomark _)) (pss_one (ps_set (i := 9) sc_law.nd rfl (Or.inl rfl) (pe_call G_law_some (hr.mono (by decide)) rfl D_law_some.g D_law_some.F.kp D_law_some.b .nil pass0 (pa_cons (pv 3) (pa_cons (pe_op op_fdiv (pe_ix (r := rIxL K) ix_list (pv 1) pe_int (fun _ _ => rfl)) pe_int) (pa_cons (pe_op op_mod (pe_ix (r := rIxL K) ix_list (pv 1) pe_int (fun _ _ => rfl)) pe_int) pa_nil)))))) pss_nil)
      ht)))))))), ?_⟩
  rintro σ H9 ⟨c2, a, ro, nm, th, rw_, zs, xs, rfl, hrow, row, hnm, N, hth, hxl, hok, k9⟩
  try simp only [tSeq, tIfS, tTest, tOp, tUn, tCB, tCons, tNil, tVar, tC, rI0, rI, rU, rEq, rNe, tRet, tRetN, tAsg, gName, gSub, tBM, tBM0, tNext, tB, tNot, tAnd, tOr, tIf, tCall, tDrop, tBreak, tCont, L2.start, tDGet, sDPut, tTup, tLst, tDNewK, tRevL, rCat, rAppend, rPop, rSetL, tAndV, tOrV, tNotV, tSl, tPart, tNoPart, tM1, gTup, gCons, gNil, cxK, cxnK, List.map_cons, List.map_nil, List.length_cons, List.length_nil, List.replicate, List.cons_append, List.nil_append, List.append_nil, List.set_cons_zero, List.set_cons_succ, List.getElem?_cons_zero, List.getElem?_cons_succ, Option.some.injEq, V.ref.injEq, V.int.injEq, V.str.injEq, V.bl.injEq, V.ty.injEq, exists_eq_left', exists_eq_left, exists_and_left, List.cons.injEq, and_true, true_and, sc_ii, sc_ss, sc_bb, sc_ni, sc_in, sc_is, sc_si, sc_nn, decide_true, decide_false, reduceCtorEq, Bool.false_eq_true, if_true, if_false, ite_true, ite_false, exists_const, eq_self, false_and, and_false, or_false, false_or, exists_false, Evl.rLenS, rSum, wipe, tYes, exists_eq, exists_eq', rIxL, rIxT, rIxS, exists_and_right, gt_iff_lt, not_true_eq_false, not_false_eq_true, Bool.not_true, Bool.not_false, decide_eq_true_eq, Nat.reduceSub, Nat.reduceAdd, List.append_assoc, tChain, tDIn, tDNotIn, sDDel, tAug, ipI]
  refine ⟨th, xs, rfl, sq_l hth, hxl, fun p m us H1 hp hm hs k1 => ?_⟩
  try simp only [tSeq, tIfS, tTest, tOp, tUn, tCB, tCons, tNil, tVar, tC, rI0, rI, rU, rEq, rNe, tRet, tRetN, tAsg, gName, gSub, tBM, tBM0, tNext, tB, tNot, tAnd, tOr, tIf, tCall, tDrop, tBreak, tCont, L2.start, tDGet, sDPut, tTup, tLst, tDNewK, tRevL, rCat, rAppend, rPop, rSetL, tAndV, tOrV, tNotV, tSl, tPart, tNoPart, tM1, gTup, gCons, gNil, cxK, cxnK, List.map_cons, List.map_nil, List.length_cons, List.length_nil, List.replicate, List.cons_append, List.nil_append, List.append_nil, List.set_cons_zero, List.set_cons_succ, List.getElem?_cons_zero, List.getElem?_cons_succ, Option.some.injEq, V.ref.injEq, V.int.injEq, V.str.injEq, V.bl.injEq, V.ty.injEq, exists_eq_left', exists_eq_left, exists_and_left, List.cons.injEq, and_true, true_and, sc_ii, sc_ss, sc_bb, sc_ni, sc_in, sc_is, sc_si, sc_nn, decide_true, decide_false, reduceCtorEq, Bool.false_eq_true, if_true, if_false, ite_true, ite_false, exists_const, eq_self, false_and, and_false, or_false, false_or, exists_false, Evl.rLenS, rSum, wipe, tYes, exists_eq, exists_eq', rIxL, rIxT, rIxS, exists_and_right, gt_iff_lt, not_true_eq_false, not_false_eq_true, Bool.not_true, Bool.not_false, decide_eq_true_eq, Nat.reduceSub, Nat.reduceAdd, List.append_assoc, tChain, tDIn, tDNotIn, sDDel, tAug, ipI]
  refine ⟨.ref th, rfl, th, rfl, ⟨_, k1.ls not0 (sq_l hth)⟩, fun o no => lc_list (xs := xs.map V.str) (fun i H' => ∃ ls : List V, H' o = some (.lst ls) ∧ ls.length = i ∧ (∀ (j : Nat) (x : Str), j < i → xs[j]? = some x → ∃ l, ls[j]? = some (.ref l) ∧ H' l = some (.lst [.str x])) ∧ Kp [] H1 H') ⟨[], upd_same, rfl, (fun j x h => absurd h (Nat.not_lt_zero j)), Kp.new no⟩ (fun i H' _ h => by
    obtain ⟨_, _, _, _, k⟩ := h
    exact (k1.trans k).ls not0 (sq_l hth)) ?_ ?_⟩
  · rintro i x H2 hx ⟨ls, ho, hl, hg, k2⟩
    rw [List.getElem?_map] at hx
    obtain ⟨z, hz, rfl⟩ : ∃ z, xs[i]? = some z ∧ x = V.str z := by
      cases e : xs[i]? with
      | none => rw [e] at hx; cases hx
      | some z => rw [e] at hx; exact ⟨z, rfl, (Option.some.inj hx).symm⟩
    try simp only [tSeq, tIfS, tTest, tOp, tUn, tCB, tCons, tNil, tVar, tC, rI0, rI, rU, rEq, rNe, tRet, tRetN, tAsg, gName, gSub, tBM, tBM0, tNext, tB, tNot, tAnd, tOr, tIf, tCall, tDrop, tBreak, tCont, L2.start, tDGet, sDPut, tTup, tLst, tDNewK, tRevL, rCat, rAppend, rPop, rSetL, tAndV, tOrV, tNotV, tSl, tPart, tNoPart, tM1, gTup, gCons, gNil, cxK, cxnK, List.map_cons, List.map_nil, List.length_cons, List.length_nil, List.replicate, List.cons_append, List.nil_append, List.append_nil, List.set_cons_zero, List.set_cons_succ, List.getElem?_cons_zero, List.getElem?_cons_succ, Option.some.injEq, V.ref.injEq, V.int.injEq, V.str.injEq, V.bl.injEq, V.ty.injEq, exists_eq_left', exists_eq_left, exists_and_left, List.cons.injEq, and_true, true_and, sc_ii, sc_ss, sc_bb, sc_ni, sc_in, sc_is, sc_si, sc_nn, decide_true, decide_false, reduceCtorEq, Bool.false_eq_true, if_true, if_false, ite_true, ite_false, exists_const, eq_self, false_and, and_false, or_false, false_or, exists_false, Evl.rLenS, rSum, wipe, tYes, exists_eq, exists_eq', rIxL, rIxT, rIxS, exists_and_right, gt_iff_lt, not_true_eq_false, not_false_eq_true, Bool.not_true, Bool.not_false, decide_eq_true_eq, Nat.reduceSub, Nat.reduceAdd, List.append_assoc, tChain, tDIn, tDNotIn, sDDel, tAug, ipI]
    refine ⟨small (by decide), fun l nl => ?_⟩
    have j1 : Kp [] H2 (upd H2 l (.lst [.str z])) := Kp.new nl
    have ho1 := j1 _ _ not0 ho
    have hl1 : (upd H2 l (.lst [.str z])) l = some (.lst [.str z]) := upd_same
    have ilt := (List.getElem?_eq_some_iff.mp hz).1
    have lo : l ≠ o := fun w => by
      rw [w, ho] at nl
      cases nl
    generalize upd H2 l (.lst [.str z]) = X at j1 ho1 hl1 ⊢
    refine ⟨ls, ho1, smallL (by omega), ls ++ [.ref l], upd_same, by rw [List.length_append, hl]; rfl, fun j x hj hx => ?_, (k2.trans j1).wr no⟩
    by_cases e : j = i
    · rw [e] at hx
      have ez : z = x := Option.some.inj (hz.symm.trans hx)
      rw [e, ← ez]
      exact ⟨l, by rw [← hl]; exact List.getElem?_concat_length, by rw [upd_ne lo]; exact hl1⟩
    · obtain ⟨l', e1, e2⟩ := hg j x (by omega) hx
      have e3 := j1 _ _ not0 e2
      have lo' : l' ≠ o := fun w => by
        rw [w, ho] at e2
        have : ls = [.str x] := by cases e2; rfl
        rw [this] at e1
        cases j with
        | zero => cases e1
        | succ j => cases e1
      exact ⟨l', by rw [List.getElem?_append_left (List.getElem?_eq_some_iff.mp e1).1]; exact e1, by rw [upd_ne lo']; exact e3⟩
  rintro H2 ⟨ls, ho, hl, hg, k2⟩
  rw [List.length_map] at hl hg
  try simp only [tSeq, tIfS, tTest, tOp, tUn, tCB, tCons, tNil, tVar, tC, rI0, rI, rU, rEq, rNe, tRet, tRetN, tAsg, gName, gSub, tBM, tBM0, tNext, tB, tNot, tAnd, tOr, tIf, tCall, tDrop, tBreak, tCont, L2.start, tDGet, sDPut, tTup, tLst, tDNewK, tRevL, rCat, rAppend, rPop, rSetL, tAndV, tOrV, tNotV, tSl, tPart, tNoPart, tM1, gTup, gCons, gNil, cxK, cxnK, List.map_cons, List.map_nil, List.length_cons, List.length_nil, List.replicate, List.cons_append, List.nil_append, List.append_nil, List.set_cons_zero, List.set_cons_succ, List.getElem?_cons_zero, List.getElem?_cons_succ, Option.some.injEq, V.ref.injEq, V.int.injEq, V.str.injEq, V.bl.injEq, V.ty.injEq, exists_eq_left', exists_eq_left, exists_and_left, List.cons.injEq, and_true, true_and, sc_ii, sc_ss, sc_bb, sc_ni, sc_in, sc_is, sc_si, sc_nn, decide_true, decide_false, reduceCtorEq, Bool.false_eq_true, if_true, if_false, ite_true, ite_false, exists_const, eq_self, false_and, and_false, or_false, false_or, exists_false, Evl.rLenS, rSum, wipe, tYes, exists_eq, exists_eq', rIxL, rIxT, rIxS, exists_and_right, gt_iff_lt, not_true_eq_false, not_false_eq_true, Bool.not_true, Bool.not_false, decide_eq_true_eq, Nat.reduceSub, Nat.reduceAdd, List.append_assoc, tChain, tDIn, tDNotIn, sDDel, tAug, ipI]
  have k12 := k1.trans k2
  refine ⟨p, m, o, us, ls, xs.map fun x => [x], false, rfl, k2 _ _ not0 hp, k2 _ _ not0 hm, sq_l ho, by rw [hs.1, List.length_map], by rw [hl, List.length_map], by rw [List.length_map]; omega, fun i zs' e => ?_, fun H3 k3 => ?_⟩
  · rw [List.getElem?_map] at e
    obtain ⟨x, hx, rfl⟩ : ∃ x, xs[i]? = some x ∧ zs' = [x] := by
      cases q1 : xs[i]? with
      | none => rw [q1] at e; cases e
      | some x => rw [q1] at e; exact ⟨x, rfl, (Option.some.inj e).symm⟩
    have ilt := (List.getElem?_eq_some_iff.mp hx).1
    obtain ⟨v, hv⟩ : ∃ v, us[i]? = some v := ⟨_, List.getElem?_eq_getElem (show i < us.length by rw [hs.1]; exact ilt)⟩
    obtain ⟨t1, x', rfl, hx', ht1⟩ := hs.2 i v hv
    rw [hx] at hx'
    cases hx'
    obtain ⟨l, e1, e2⟩ := hg i x ilt hx
    exact ⟨t1, l, hv, e1, k2 _ _ not0 ht1, sq_l e2, fun y hy => by rw [List.mem_singleton.mp hy]; exact hok x (List.mem_of_getElem? hx)⟩
  have k13 := k12.trans k3
  clear hg hl ho hs hp hm
  try simp only [tSeq, tIfS, tTest, tOp, tUn, tCB, tCons, tNil, tVar, tC, rI0, rI, rU, rEq, rNe, tRet, tRetN, tAsg, gName, gSub, tBM, tBM0, tNext, tB, tNot, tAnd, tOr, tIf, tCall, tDrop, tBreak, tCont, L2.start, tDGet, sDPut, tTup, tLst, tDNewK, tRevL, rCat, rAppend, rPop, rSetL, tAndV, tOrV, tNotV, tSl, tPart, tNoPart, tM1, gTup, gCons, gNil, cxK, cxnK, List.map_cons, List.map_nil, List.length_cons, List.length_nil, List.replicate, List.cons_append, List.nil_append, List.append_nil, List.set_cons_zero, List.set_cons_succ, List.getElem?_cons_zero, List.getElem?_cons_succ, Option.some.injEq, V.ref.injEq, V.int.injEq, V.str.injEq, V.bl.injEq, V.ty.injEq, exists_eq_left', exists_eq_left, exists_and_left, List.cons.injEq, and_true, true_and, sc_ii, sc_ss, sc_bb, sc_ni, sc_in, sc_is, sc_si, sc_nn, decide_true, decide_false, reduceCtorEq, Bool.false_eq_true, if_true, if_false, ite_true, ite_false, exists_const, eq_self, false_and, and_false, or_false, false_or, exists_false, Evl.rLenS, rSum, wipe, tYes, exists_eq, exists_eq', rIxL, rIxT, rIxS, exists_and_right, gt_iff_lt, not_true_eq_false, not_false_eq_true, Bool.not_true, Bool.not_false, decide_eq_true_eq, Nat.reduceSub, Nat.reduceAdd, List.append_assoc, tChain, tDIn, tDNotIn, sDDel, tAug, ipI]
  refine ⟨th, xs, rfl, sq_l (k13 _ _ not0 hth), hxl, fun p2 m2 t2 H4 hp2 hm2 ht2 k4 => ?_⟩
  have k14 := k13.trans k4
  try simp only [tSeq, tIfS, tTest, tOp, tUn, tCB, tCons, tNil, tVar, tC, rI0, rI, rU, rEq, rNe, tRet, tRetN, tAsg, gName, gSub, tBM, tBM0, tNext, tB, tNot, tAnd, tOr, tIf, tCall, tDrop, tBreak, tCont, L2.start, tDGet, sDPut, tTup, tLst, tDNewK, tRevL, rCat, rAppend, rPop, rSetL, tAndV, tOrV, tNotV, tSl, tPart, tNoPart, tM1, gTup, gCons, gNil, cxK, cxnK, List.map_cons, List.map_nil, List.length_cons, List.length_nil, List.replicate, List.cons_append, List.nil_append, List.append_nil, List.set_cons_zero, List.set_cons_succ, List.getElem?_cons_zero, List.getElem?_cons_succ, Option.some.injEq, V.ref.injEq, V.int.injEq, V.str.injEq, V.bl.injEq, V.ty.injEq, exists_eq_left', exists_eq_left, exists_and_left, List.cons.injEq, and_true, true_and, sc_ii, sc_ss, sc_bb, sc_ni, sc_in, sc_is, sc_si, sc_nn, decide_true, decide_false, reduceCtorEq, Bool.false_eq_true, if_true, if_false, ite_true, ite_false, exists_const, eq_self, false_and, and_false, or_false, false_or, exists_false, Evl.rLenS, rSum, wipe, tYes, exists_eq, exists_eq', rIxL, rIxT, rIxS, exists_and_right, gt_iff_lt, not_true_eq_false, not_false_eq_true, Bool.not_true, Bool.not_false, decide_eq_true_eq, Nat.reduceSub, Nat.reduceAdd, List.append_assoc, tChain, tDIn, tDNotIn, sDDel, tAug, ipI]
  refine ⟨_, .inl (sq_l (k14 _ _ not0 hth)), fun l nl => ⟨small (by decide), fun z nz => ?_⟩⟩
  have j1 : Kp [] H4 (upd H4 l (.lst (xs.map V.str))) := Kp.new nl
  have hl1 : (upd H4 l (.lst (xs.map V.str))) l = some (.lst (xs.map V.str)) := upd_same
  generalize upd H4 l (.lst (xs.map V.str)) = X1 at j1 hl1 nz ⊢
  have j2 : Kp [] X1 (upd X1 z (.lst [.ref l])) := Kp.new nz
  have hz1 : (upd X1 z (.lst [.ref l])) z = some (.lst [.ref l]) := upd_same
  generalize upd X1 z (.lst [.ref l]) = X2 at j2 hz1 ⊢
  have j12 := j1.trans j2
  refine ⟨p2, m2, z, [.ref t2], [.ref l], [xs], true, rfl, j12 _ _ not0 hp2, j12 _ _ not0 hm2, sq_l hz1, rfl, rfl, by simp, fun i zs' e => ?_, fun H5 k5 => ?_⟩
  · match i, e with
    | 0, e =>
      cases e
      exact ⟨t2, l, rfl, rfl, j12 _ _ not0 ht2, sq_l (j2 _ _ not0 hl1), hok⟩
  have kA : Kp [] H9 H5 := k14.trans (j12.trans k5)
  clear hp2 hm2 ht2 hl1 hz1
  have hrowA := kA _ _ not0 hrow
  have hnmA := kA _ _ not0 hnm
  try simp only [tSeq, tIfS, tTest, tOp, tUn, tCB, tCons, tNil, tVar, tC, rI0, rI, rU, rEq, rNe, tRet, tRetN, tAsg, gName, gSub, tBM, tBM0, tNext, tB, tNot, tAnd, tOr, tIf, tCall, tDrop, tBreak, tCont, L2.start, tDGet, sDPut, tTup, tLst, tDNewK, tRevL, rCat, rAppend, rPop, rSetL, tAndV, tOrV, tNotV, tSl, tPart, tNoPart, tM1, gTup, gCons, gNil, cxK, cxnK, List.map_cons, List.map_nil, List.length_cons, List.length_nil, List.replicate, List.cons_append, List.nil_append, List.append_nil, List.set_cons_zero, List.set_cons_succ, List.getElem?_cons_zero, List.getElem?_cons_succ, Option.some.injEq, V.ref.injEq, V.int.injEq, V.str.injEq, V.bl.injEq, V.ty.injEq, exists_eq_left', exists_eq_left, exists_and_left, List.cons.injEq, and_true, true_and, sc_ii, sc_ss, sc_bb, sc_ni, sc_in, sc_is, sc_si, sc_nn, decide_true, decide_false, reduceCtorEq, Bool.false_eq_true, if_true, if_false, ite_true, ite_false, exists_const, eq_self, false_and, and_false, or_false, false_or, exists_false, Evl.rLenS, rSum, wipe, tYes, exists_eq, exists_eq', rIxL, rIxT, rIxS, exists_and_right, gt_iff_lt, not_true_eq_false, not_false_eq_true, Bool.not_true, Bool.not_false, decide_eq_true_eq, Nat.reduceSub, Nat.reduceAdd, List.append_assoc, tChain, tDIn, tDNotIn, sDDel, tAug, ipI]
  obtain ⟨x35, e35, r35, s35⟩ := row 35 (by decide)
  have q35 : 0 ≤ x35 % 6 := Int.emod_nonneg _ (by decide)
  have u35 : x35 % 6 < 6 := Int.emod_lt_of_pos _ (by decide)
  refine lcRg (x35 % 6) (fun o j H' => ∃ (gs : List V) (cs : List (List (List Str) × Bool)), H' o = some (.lst gs) ∧ cs.length = j ∧ GAt zs H' gs cs ∧ Kp [] H5 H') ?_ (by omega) (by omega) (fun o no => ⟨[], [], upd_same, rfl, ⟨rfl, fun i c e => nomatch e⟩, Kp.new no⟩) ?_ ?_
  · intro R hR
    try simp only [tSeq, tIfS, tTest, tOp, tUn, tCB, tCons, tNil, tVar, tC, rI0, rI, rU, rEq, rNe, tRet, tRetN, tAsg, gName, gSub, tBM, tBM0, tNext, tB, tNot, tAnd, tOr, tIf, tCall, tDrop, tBreak, tCont, L2.start, tDGet, sDPut, tTup, tLst, tDNewK, tRevL, rCat, rAppend, rPop, rSetL, tAndV, tOrV, tNotV, tSl, tPart, tNoPart, tM1, gTup, gCons, gNil, cxK, cxnK, List.map_cons, List.map_nil, List.length_cons, List.length_nil, List.replicate, List.cons_append, List.nil_append, List.append_nil, List.set_cons_zero, List.set_cons_succ, List.getElem?_cons_zero, List.getElem?_cons_succ, Option.some.injEq, V.ref.injEq, V.int.injEq, V.str.injEq, V.bl.injEq, V.ty.injEq, exists_eq_left', exists_eq_left, exists_and_left, List.cons.injEq, and_true, true_and, sc_ii, sc_ss, sc_bb, sc_ni, sc_in, sc_is, sc_si, sc_nn, decide_true, decide_false, reduceCtorEq, Bool.false_eq_true, if_true, if_false, ite_true, ite_false, exists_const, eq_self, false_and, and_false, or_false, false_or, exists_false, Evl.rLenS, rSum, wipe, tYes, exists_eq, exists_eq', rIxL, rIxT, rIxS, exists_and_right, gt_iff_lt, not_true_eq_false, not_false_eq_true, Bool.not_true, Bool.not_false, decide_eq_true_eq, Nat.reduceSub, Nat.reduceAdd, List.append_assoc, tChain, tDIn, tDNotIn, sDDel, tAug, ipI]
    exact ⟨_, sq_l hrowA, .int x35, atI_nat e35, _, rfl, by decide, hR⟩
  · rintro o j H6 no hj ⟨gs, cs, ho, lc, hg, k6⟩
    have hj' : j < 6 := by omega
    try simp only [tSeq, tIfS, tTest, tOp, tUn, tCB, tCons, tNil, tVar, tC, rI0, rI, rU, rEq, rNe, tRet, tRetN, tAsg, gName, gSub, tBM, tBM0, tNext, tB, tNot, tAnd, tOr, tIf, tCall, tDrop, tBreak, tCont, L2.start, tDGet, sDPut, tTup, tLst, tDNewK, tRevL, rCat, rAppend, rPop, rSetL, tAndV, tOrV, tNotV, tSl, tPart, tNoPart, tM1, gTup, gCons, gNil, cxK, cxnK, List.map_cons, List.map_nil, List.length_cons, List.length_nil, List.replicate, List.cons_append, List.nil_append, List.append_nil, List.set_cons_zero, List.set_cons_succ, List.getElem?_cons_zero, List.getElem?_cons_succ, Option.some.injEq, V.ref.injEq, V.int.injEq, V.str.injEq, V.bl.injEq, V.ty.injEq, exists_eq_left', exists_eq_left, exists_and_left, List.cons.injEq, and_true, true_and, sc_ii, sc_ss, sc_bb, sc_ni, sc_in, sc_is, sc_si, sc_nn, decide_true, decide_false, reduceCtorEq, Bool.false_eq_true, if_true, if_false, ite_true, ite_false, exists_const, eq_self, false_and, and_false, or_false, false_or, exists_false, Evl.rLenS, rSum, wipe, tYes, exists_eq, exists_eq', rIxL, rIxT, rIxS, exists_and_right, gt_iff_lt, not_true_eq_false, not_false_eq_true, Bool.not_true, Bool.not_false, decide_eq_true_eq, Nat.reduceSub, Nat.reduceAdd, List.append_assoc, tChain, tDIn, tDNotIn, sDDel, tAug, ipI]
    have i25 : (25 : Int) + 2 * (0 + (j : Int)) = ((25 + 2 * j : Nat) : Int) := by omega
    have i26 : (26 : Int) + 2 * (0 + (j : Int)) = ((26 + 2 * j : Nat) : Int) := by omega
    obtain ⟨x25, e25, r25, s25⟩ := row (25 + 2 * j) (by omega)
    obtain ⟨x26, e26, r26, s26⟩ := row (26 + 2 * j) (by omega)
    have hrow6 := k6 _ _ not0 hrowA
    refine ⟨.inl ⟨by decide, by decide⟩, _, sq_l hrow6, .int x25, by rw [i25]; exact atI_nat e25, .inl ⟨by decide, by decide⟩, _, sq_l hrow6, .int x26, by rw [i26]; exact atI_nat e26, ?_⟩
    refine ⟨nm, x25, x26, zs, rfl, r25, s25, r26, s26, sq_l (k6 _ _ not0 hnmA), N, fun p ms b H7 np hC hG k7 => ?_⟩
    have lg := hg.1
    refine ⟨gs, k7 _ _ not0 ho, smallL (by omega), gs ++ [.ref p], upd_same, cs ++ [(ms, b)], by rw [List.length_append, lc]; rfl, ⟨by rw [List.length_append, List.length_append, lg]; rfl, fun i c e => ?_⟩, (k6.trans k7).wr no⟩
    have ko : Kp [o] H7 (upd H7 o (.lst (gs ++ [.ref p]))) := (Kp.refl [o] _).put List.mem_cons_self
    have hol : ∀ a ∈ [o], ∃ xs, H7 a = some (.lst xs) := fun a h => by rw [List.mem_singleton.mp h]; exact ⟨_, k7 _ _ not0 ho⟩
    by_cases hi : i < cs.length
    · rw [List.getElem?_append_left hi] at e
      obtain ⟨p', e1, e2, e3⟩ := hg.2 i c e
      exact ⟨p', by rw [List.getElem?_append_left (by omega)]; exact e1, (e2.kp k7 fun a h => nomatch h).kp ko hol, e3⟩
    · have hl := (List.getElem?_eq_some_iff.mp e).1
      rw [List.length_append, List.length_singleton] at hl
      have ei : i = cs.length := by omega
      subst ei
      rw [List.getElem?_concat_length] at e
      cases e
      refine ⟨p, ?_, hC.kp ko hol, hG⟩
      rw [← lg]
      exact List.getElem?_concat_length
  rintro ga H6 nga ⟨gs, cs, hga, lc, hg, k6⟩
  try simp only [tSeq, tIfS, tTest, tOp, tUn, tCB, tCons, tNil, tVar, tC, rI0, rI, rU, rEq, rNe, tRet, tRetN, tAsg, gName, gSub, tBM, tBM0, tNext, tB, tNot, tAnd, tOr, tIf, tCall, tDrop, tBreak, tCont, L2.start, tDGet, sDPut, tTup, tLst, tDNewK, tRevL, rCat, rAppend, rPop, rSetL, tAndV, tOrV, tNotV, tSl, tPart, tNoPart, tM1, gTup, gCons, gNil, cxK, cxnK, List.map_cons, List.map_nil, List.length_cons, List.length_nil, List.replicate, List.cons_append, List.nil_append, List.append_nil, List.set_cons_zero, List.set_cons_succ, List.getElem?_cons_zero, List.getElem?_cons_succ, Option.some.injEq, V.ref.injEq, V.int.injEq, V.str.injEq, V.bl.injEq, V.ty.injEq, exists_eq_left', exists_eq_left, exists_and_left, List.cons.injEq, and_true, true_and, sc_ii, sc_ss, sc_bb, sc_ni, sc_in, sc_is, sc_si, sc_nn, decide_true, decide_false, reduceCtorEq, Bool.false_eq_true, if_true, if_false, ite_true, ite_false, exists_const, eq_self, false_and, and_false, or_false, false_or, exists_false, Evl.rLenS, rSum, wipe, tYes, exists_eq, exists_eq', rIxL, rIxT, rIxS, exists_and_right, gt_iff_lt, not_true_eq_false, not_false_eq_true, Bool.not_true, Bool.not_false, decide_eq_true_eq, Nat.reduceSub, Nat.reduceAdd, List.append_assoc, tChain, tDIn, tDNotIn, sDDel, tAug, ipI]
  have lg := hg.1
  have lc5 : cs.length ≤ 5 := by omega
  refine ⟨gs, .inl (sq_l hga), fun ca nca => ⟨small (by decide), fun sa nsa => ?_⟩⟩
  have j1 : Kp [] H6 (upd H6 ca (.lst gs)) := Kp.new nca
  have hca : (upd H6 ca (.lst gs)) ca = some (.lst gs) := upd_same
  generalize upd H6 ca (.lst gs) = X1 at j1 hca nsa ⊢
  have j2 : Kp [] X1 (upd X1 sa (.lst [])) := Kp.new nsa
  have hsa : (upd X1 sa (.lst [])) sa = some (.lst []) := upd_same
  have hca2 := j2 _ _ not0 hca
  have cs_ne : ca ≠ sa := ne_of_none hca nsa
  generalize upd X1 sa (.lst []) = X at j2 hsa hca2 ⊢
  have j12 : Kp [] H6 X := j1.trans j2
  have kX : Kp [] H9 X := kA.trans (k6.trans j12)
  have hgaX := j12 _ _ not0 hga
  have hrowX := j12 _ _ not0 (k6 _ _ not0 hrowA)
  have hnmX := j12 _ _ not0 (k6 _ _ not0 hnmA)
  have hgX : GAt zs X gs cs := hg.kp j12 fun a h => nomatch h
  have gca : ga ≠ ca := ne_of_none hga nca
  have gsa : ga ≠ sa := ne_of_none (j1 _ _ not0 hga) nsa
  refine forRg ((gs.length : Nat) : Int) (fun j σ H' => ∃ (c : Option V) (vs : List V) (ds : List PyData) (is : List Int), σ = [some (.ref a), some (.ref ro), c, some (.ref nm), some (.ref th), none, some (.ref ga), some (.ref ca), some (.ref sa), none, none, none, none, none] ∧
      H' ca = some (.lst vs) ∧ H' sa = some (.lst (is.map V.int)) ∧ FdAll X H' vs ds ∧ ds.length = cs.length ∧ (∀ i, j ≤ i → ds[i]? = (cs.map dOf)[i]?) ∧ (∀ v ∈ is, v < j) ∧ is.length ≤ j ∧ (∀ (i : Nat) (d : PyData), i < j → ds[i]? = some d → ((i : Int) ∈ is ↔ callerD d = false)) ∧ (∀ d ∈ ds, OkD 6 d) ∧ Kp [ca, sa] X H') ?_ (by omega) (by omega) ?_ ?_ ?_
  · intro R hR
    try simp only [tSeq, tIfS, tTest, tOp, tUn, tCB, tCons, tNil, tVar, tC, rI0, rI, rU, rEq, rNe, tRet, tRetN, tAsg, gName, gSub, tBM, tBM0, tNext, tB, tNot, tAnd, tOr, tIf, tCall, tDrop, tBreak, tCont, L2.start, tDGet, sDPut, tTup, tLst, tDNewK, tRevL, rCat, rAppend, rPop, rSetL, tAndV, tOrV, tNotV, tSl, tPart, tNoPart, tM1, gTup, gCons, gNil, cxK, cxnK, List.map_cons, List.map_nil, List.length_cons, List.length_nil, List.replicate, List.cons_append, List.nil_append, List.append_nil, List.set_cons_zero, List.set_cons_succ, List.getElem?_cons_zero, List.getElem?_cons_succ, Option.some.injEq, V.ref.injEq, V.int.injEq, V.str.injEq, V.bl.injEq, V.ty.injEq, exists_eq_left', exists_eq_left, exists_and_left, List.cons.injEq, and_true, true_and, sc_ii, sc_ss, sc_bb, sc_ni, sc_in, sc_is, sc_si, sc_nn, decide_true, decide_false, reduceCtorEq, Bool.false_eq_true, if_true, if_false, ite_true, ite_false, exists_const, eq_self, false_and, and_false, or_false, false_or, exists_false, Evl.rLenS, rSum, wipe, tYes, exists_eq, exists_eq', rIxL, rIxT, rIxS, exists_and_right, gt_iff_lt, not_true_eq_false, not_false_eq_true, Bool.not_true, Bool.not_false, decide_eq_true_eq, Nat.reduceSub, Nat.reduceAdd, List.append_assoc, tChain, tDIn, tDNotIn, sDDel, tAug, ipI]
    exact ⟨gs, .inl (sq_l hgaX), hR⟩
  · refine ⟨_, gs, cs.map dOf, [], rfl, hca2, hsa, gat_fd hgX, List.length_map _, (fun _ _ => rfl), (fun v h => nomatch h), Nat.le_refl _, (fun i d h => absurd h (Nat.not_lt_zero i)), fun d hd => ?_, Kp.refl _ _⟩
    obtain ⟨c, hc, rfl⟩ := List.mem_map.mp hd
    obtain ⟨i, hi⟩ := List.mem_iff_getElem?.mp hc
    obtain ⟨_, _, _, g⟩ := hgX.2 i c hi
    exact (okD_caller N g).mono (by decide)
  · rintro j σ H7 hj ⟨c, vs, ds, is, rfl, hc7, hs7, fd, ld, same, lt, li, iff_, okd, k7⟩
    have hjg : j < gs.length := by omega
    have nin : ∀ {x : Addr} {o : HO}, X x = some o → x ≠ ca → x ≠ sa → H7 x = some o := fun e h1 h2 => k7 _ _ (fun m => by
      rcases List.mem_cons.mp m with m | m
      · exact h1 m
      · exact h2 (List.mem_singleton.mp m)) e
    have hga7 := nin hgaX gca gsa
    have rca : ro ≠ ca := ne_of_none ((k6 _ _ not0 hrowA) : H6 ro = _) nca
    have rsa : ro ≠ sa := ne_of_none (j1 _ _ not0 (k6 _ _ not0 hrowA)) nsa
    have nca' : nm ≠ ca := ne_of_none ((k6 _ _ not0 hnmA) : H6 nm = _) nca
    have nsa' : nm ≠ sa := ne_of_none (j1 _ _ not0 (k6 _ _ not0 hnmA)) nsa
    have hrow7 := nin hrowX rca rsa
    have hnm7 := nin hnmX nca' nsa'
    have ix : (0 + (j : Int)) = ((j : Nat) : Int) := Int.zero_add _
    have hjc : j < cs.length := by omega
    obtain ⟨cj, hcj⟩ : ∃ cj, cs[j]? = some cj := ⟨_, List.getElem?_eq_getElem hjc⟩
    obtain ⟨p, egp, hCp, hGp⟩ := hgX.2 j cj hcj
    obtain ⟨x36, e36, r36, s36⟩ := row 36 (by decide)
    obtain ⟨x37, e37, r37, s37⟩ := row 37 (by decide)
    obtain ⟨x42, e42, r42, s42⟩ := row (42 + j) (by omega)
    obtain ⟨x37j, e37j, r37j, s37j⟩ := row (37 + j) (by omega)
    have i37 : (37 : Int) + (j : Int) = ((37 + j : Nat) : Int) := by omega
    have i42 : (42 : Int) + (j : Int) = ((42 + j : Nat) : Int) := by omega
    have lgp : (0 : Int) < (gs.length : Nat) := by omega
    rw [ix]
    simp only [gName, List.set_cons_zero, List.set_cons_succ]
    refine if_any ?_ ?_ ?_
    · refine ⟨decide ((x36 % 3 = 1 ∧ x37 % ((gs.length : Nat) : Int) = (j : Int)) ∨ (x36 % 3 = 2 ∧ x37j / 8 % 4 = 0)), fun R hR => ?_⟩
      have at36 : atI rw_ 36 = some (.int x36) := atI_nat e36
      have at37 : atI rw_ 37 = some (.int x37) := atI_nat e37
      have at37j : atI rw_ (37 + (j : Int)) = some (.int x37j) := by rw [i37]; exact atI_nat e37j
      have two : ∀ b : Bool, decide ((x36 % 3 = 1 ∧ x37 % ((gs.length : Nat) : Int) = (j : Int)) ∨ (x36 % 3 = 2 ∧ x37j / 8 % 4 = 0)) = b → R b H7 := fun b h => by rw [← h]; exact hR
      have second : ¬ (x36 % 3 = 1 ∧ x37 % ((gs.length : Nat) : Int) = (j : Int)) → ∃ x, SqL K H7 ro x ∧ ∃ y, atI x 36 = some y ∧ ∃ i, y = V.int i ∧ 0 < (3 : Int) ∧ if i % 3 = 2 then ∃ x, SqL K H7 ro x ∧ ∃ y, atI x (37 + (j : Int)) = some y ∧ ∃ i, y = V.int i ∧ CDiv i 8 ∧ 0 < (4 : Int) ∧ R (decide (i / 8 % 4 = 0)) H7 else R false H7 := by
        intro h1
        refine ⟨_, sq_l hrow7, _, at36, _, rfl, by decide, ?_⟩
        refine ite2 (fun h2 => ?_) (fun h2 => ?_)
        · exact ⟨_, sq_l hrow7, _, at37j, _, rfl, ⟨by decide, by decide⟩, by decide, two _ (decide_eq_decide.mpr ⟨fun h => h.elim (fun z => absurd z h1) (fun z => z.2), fun h => .inr ⟨h2, h⟩⟩)⟩
        · exact two _ (decide_eq_false fun h => h.elim (fun z => h1 z) (fun z => h2 z.1))
      try simp only [tSeq, tIfS, tTest, tOp, tUn, tCB, tCons, tNil, tVar, tC, rI0, rI, rU, rEq, rNe, tRet, tRetN, tAsg, gName, gSub, tBM, tBM0, tNext, tB, tNot, tAnd, tOr, tIf, tCall, tDrop, tBreak, tCont, L2.start, tDGet, sDPut, tTup, tLst, tDNewK, tRevL, rCat, rAppend, rPop, rSetL, tAndV, tOrV, tNotV, tSl, tPart, tNoPart, tM1, gTup, gCons, gNil, cxK, cxnK, List.map_cons, List.map_nil, List.length_cons, List.length_nil, List.replicate, List.cons_append, List.nil_append, List.append_nil, List.set_cons_zero, List.set_cons_succ, List.getElem?_cons_zero, List.getElem?_cons_succ, Option.some.injEq, V.ref.injEq, V.int.injEq, V.str.injEq, V.bl.injEq, V.ty.injEq, exists_eq_left', exists_eq_left, exists_and_left, List.cons.injEq, and_true, true_and, sc_ii, sc_ss, sc_bb, sc_ni, sc_in, sc_is, sc_si, sc_nn, decide_true, decide_false, reduceCtorEq, Bool.false_eq_true, if_true, if_false, ite_true, ite_false, exists_const, eq_self, false_and, and_false, or_false, false_or, exists_false, Evl.rLenS, rSum, wipe, tYes, exists_eq, exists_eq', rIxL, rIxT, rIxS, exists_and_right, gt_iff_lt, not_true_eq_false, not_false_eq_true, Bool.not_true, Bool.not_false, decide_eq_true_eq, Nat.reduceSub, Nat.reduceAdd, List.append_assoc, tChain, tDIn, tDNotIn, sDDel, tAug, ipI]
      refine ⟨_, sq_l hrow7, _, at36, _, rfl, by decide, ?_⟩
      refine ite2 (fun hA => ?_) (fun hA => second fun z => hA z.1)
      refine ⟨_, sq_l hrow7, _, at37, _, .inl (sq_l hga7), _, rfl, lgp, ?_⟩
      exact ite2 (fun hB => two true (decide_eq_true (.inl ⟨hA, hB⟩))) (fun hB => second fun z => hB z.2)
    · try simp only [tSeq, tIfS, tTest, tOp, tUn, tCB, tCons, tNil, tVar, tC, rI0, rI, rU, rEq, rNe, tRet, tRetN, tAsg, gName, gSub, tBM, tBM0, tNext, tB, tNot, tAnd, tOr, tIf, tCall, tDrop, tBreak, tCont, L2.start, tDGet, sDPut, tTup, tLst, tDNewK, tRevL, rCat, rAppend, rPop, rSetL, tAndV, tOrV, tNotV, tSl, tPart, tNoPart, tM1, gTup, gCons, gNil, cxK, cxnK, List.map_cons, List.map_nil, List.length_cons, List.length_nil, List.replicate, List.cons_append, List.nil_append, List.append_nil, List.set_cons_zero, List.set_cons_succ, List.getElem?_cons_zero, List.getElem?_cons_succ, Option.some.injEq, V.ref.injEq, V.int.injEq, V.str.injEq, V.bl.injEq, V.ty.injEq, exists_eq_left', exists_eq_left, exists_and_left, List.cons.injEq, and_true, true_and, sc_ii, sc_ss, sc_bb, sc_ni, sc_in, sc_is, sc_si, sc_nn, decide_true, decide_false, reduceCtorEq, Bool.false_eq_true, if_true, if_false, ite_true, ite_false, exists_const, eq_self, false_and, and_false, or_false, false_or, exists_false, Evl.rLenS, rSum, wipe, tYes, exists_eq, exists_eq', rIxL, rIxT, rIxS, exists_and_right, gt_iff_lt, not_true_eq_false, not_false_eq_true, Bool.not_true, Bool.not_false, decide_eq_true_eq, Nat.reduceSub, Nat.reduceAdd, List.append_assoc, tChain, tDIn, tDNotIn, sDDel, tAug, ipI]
      have inS : ∀ a ∈ [ca, sa], ∃ xs, X a = some (.lst xs) := fun a h => by
        rcases List.mem_cons.mp h with rfl | h
        · exact ⟨_, hca2⟩
        · rw [List.mem_singleton.mp h]; exact ⟨_, hsa⟩
      refine ⟨_, sq_l hga7, .ref p, atI_nat egp, _, sq_l hrow7, .int x42, by rw [i42]; exact atI_nat e42, _, sq_l hrow7, .int x37j, by rw [i37]; exact atI_nat e37j, p, nm, x42, x37j, zs, cj.1, cj.2, rfl, hCp.kp k7 inS, hGp, N, sq_l hnm7, r37j, fun v d H8 fd8 bad okd8 k8 => ?_⟩
      have hc8 := k8 _ _ not0 hc7
      have hs8 := k8 _ _ not0 hs7
      have lv : vs.length = ds.length := fd.len
      have hs9 : (upd H8 ca (.lst (vs.set j v))) sa = some (.lst (is.map V.int)) := by rw [upd_ne cs_ne.symm]; exact hs8
      have kput : Kp [ca, sa] H8 (upd (upd H8 ca (.lst (vs.set j v))) sa (.lst (is.map V.int ++ [.int (j : Nat)]))) := ((Kp.refl _ _).put (by simp)).put (by simp)
      have inS8 : ∀ a ∈ [ca, sa], (∃ o, X a = some o) ∧ ∃ xs, H8 a = some (.lst xs) := fun a h => by
        rcases List.mem_cons.mp h with rfl | h
        · exact ⟨⟨_, hca2⟩, _, hc8⟩
        · rw [List.mem_singleton.mp h]; exact ⟨⟨_, hsa⟩, _, hs8⟩
      have older : ∀ a, H7 a = none → X a = none := fun a e => by
        cases e1 : X a with
        | none => rfl
        | some o =>
          by_cases hm : a ∈ [ca, sa]
          · rcases List.mem_cons.mp hm with rfl | hm
            · rw [hc7] at e; cases e
            · rw [List.mem_singleton.mp hm, hs7] at e; cases e
          · rw [k7 a o hm e1] at e; cases e
      refine ⟨vs, hc8, j, ixN_of (by omega) (by omega), .inl ⟨rfl, _, sq_l hs9⟩, _, hs9, by rw [List.length_map]; exact smallL (by omega), vs.set j v, ?_, ds.set j d, is ++ [(j : Int)], ?_, ?_, by rw [List.length_set, ld], ?_, ?_, ?_, ?_, ?_, (k7.trans k8.of0).trans kput⟩
      · rw [upd_ne cs_ne]
        exact upd_same
      · rw [upd_same, List.map_append]; rfl
      · exact (((fd.kp k8).kpS kput inS8).set ((fd8.mono older).kpS kput inS8) j)
      · intro i hi
        rw [List.getElem?_set_ne (by omega)]
        exact same i (by omega)
      · intro u hu
        rcases List.mem_append.mp hu with hu | hu
        · have := lt u hu
          omega
        · rw [List.mem_singleton.mp hu]; omega
      · rw [List.length_append, List.length_singleton]; omega
      · intro i d' hi e
        by_cases h : i = j
        · subst h
          rw [List.getElem?_set_self (by omega)] at e
          cases e
          exact ⟨fun _ => bad, fun _ => List.mem_append_right _ (List.mem_singleton.mpr rfl)⟩
        · rw [List.getElem?_set_ne (Ne.symm h)] at e
          rw [← iff_ i d' (by omega) e]
          constructor
          · intro hm
            rcases List.mem_append.mp hm with hm | hm
            · exact hm
            · have e0 := List.mem_singleton.mp hm
              exact absurd (show i = j by omega) h
          · exact fun hm => List.mem_append_left _ hm
      · intro d' hd'
        rcases List.mem_or_eq_of_mem_set hd' with h | rfl
        · exact okd d' h
        · exact okd8
    · try simp only [tSeq, tIfS, tTest, tOp, tUn, tCB, tCons, tNil, tVar, tC, rI0, rI, rU, rEq, rNe, tRet, tRetN, tAsg, gName, gSub, tBM, tBM0, tNext, tB, tNot, tAnd, tOr, tIf, tCall, tDrop, tBreak, tCont, L2.start, tDGet, sDPut, tTup, tLst, tDNewK, tRevL, rCat, rAppend, rPop, rSetL, tAndV, tOrV, tNotV, tSl, tPart, tNoPart, tM1, gTup, gCons, gNil, cxK, cxnK, List.map_cons, List.map_nil, List.length_cons, List.length_nil, List.replicate, List.cons_append, List.nil_append, List.append_nil, List.set_cons_zero, List.set_cons_succ, List.getElem?_cons_zero, List.getElem?_cons_succ, Option.some.injEq, V.ref.injEq, V.int.injEq, V.str.injEq, V.bl.injEq, V.ty.injEq, exists_eq_left', exists_eq_left, exists_and_left, List.cons.injEq, and_true, true_and, sc_ii, sc_ss, sc_bb, sc_ni, sc_in, sc_is, sc_si, sc_nn, decide_true, decide_false, reduceCtorEq, Bool.false_eq_true, if_true, if_false, ite_true, ite_false, exists_const, eq_self, false_and, and_false, or_false, false_or, exists_false, Evl.rLenS, rSum, wipe, tYes, exists_eq, exists_eq', rIxL, rIxT, rIxS, exists_and_right, gt_iff_lt, not_true_eq_false, not_false_eq_true, Bool.not_true, Bool.not_false, decide_eq_true_eq, Nat.reduceSub, Nat.reduceAdd, List.append_assoc, tChain, tDIn, tDNotIn, sDDel, tAug, ipI]
      refine ⟨vs, hc7, ds, is, hs7, fd, ld, fun i hi => same i (by omega), fun u hu => by have := lt u hu; omega, by omega, fun i d' hi e => ?_, okd, k7⟩
      by_cases h : i = j
      · subst h
        have e1 := same i (Nat.le_refl _)
        rw [e, List.getElem?_map, hcj] at e1
        have e2 : d' = dOf cj := Option.some.inj e1
        rw [e2]
        have good : callerD (dOf cj) = true := callerD_good N hGp
        rw [good]
        exact ⟨fun hm => absurd (lt _ hm) (by omega), fun z => by cases z⟩
      · exact iff_ i d' (by omega) e
  rintro σ H7 ⟨c, vs, ds, is, rfl, hc7, hs7, fd, ld, same, lt, li, iff_, okd, k7⟩
  try simp only [tSeq, tIfS, tTest, tOp, tUn, tCB, tCons, tNil, tVar, tC, rI0, rI, rU, rEq, rNe, tRet, tRetN, tAsg, gName, gSub, tBM, tBM0, tNext, tB, tNot, tAnd, tOr, tIf, tCall, tDrop, tBreak, tCont, L2.start, tDGet, sDPut, tTup, tLst, tDNewK, tRevL, rCat, rAppend, rPop, rSetL, tAndV, tOrV, tNotV, tSl, tPart, tNoPart, tM1, gTup, gCons, gNil, cxK, cxnK, List.map_cons, List.map_nil, List.length_cons, List.length_nil, List.replicate, List.cons_append, List.nil_append, List.append_nil, List.set_cons_zero, List.set_cons_succ, List.getElem?_cons_zero, List.getElem?_cons_succ, Option.some.injEq, V.ref.injEq, V.int.injEq, V.str.injEq, V.bl.injEq, V.ty.injEq, exists_eq_left', exists_eq_left, exists_and_left, List.cons.injEq, and_true, true_and, sc_ii, sc_ss, sc_bb, sc_ni, sc_in, sc_is, sc_si, sc_nn, decide_true, decide_false, reduceCtorEq, Bool.false_eq_true, if_true, if_false, ite_true, ite_false, exists_const, eq_self, false_and, and_false, or_false, false_or, exists_false, Evl.rLenS, rSum, wipe, tYes, exists_eq, exists_eq', rIxL, rIxT, rIxS, exists_and_right, gt_iff_lt, not_true_eq_false, not_false_eq_true, Bool.not_true, Bool.not_false, decide_eq_true_eq, Nat.reduceSub, Nat.reduceAdd, List.append_assoc, tChain, tDIn, tDNotIn, sDDel, tAug, ipI]
  have rca : ro ≠ ca := ne_of_none ((k6 _ _ not0 hrowA) : H6 ro = _) nca
  have rsa : ro ≠ sa := ne_of_none (j1 _ _ not0 (k6 _ _ not0 hrowA)) nsa
  have nca' : nm ≠ ca := ne_of_none ((k6 _ _ not0 hnmA) : H6 nm = _) nca
  have nsa' : nm ≠ sa := ne_of_none (j1 _ _ not0 (k6 _ _ not0 hnmA)) nsa
  have nin : ∀ {x : Addr} {o : HO}, X x = some o → x ≠ ca → x ≠ sa → H7 x = some o := fun e h1 h2 => k7 _ _ (fun m => by
    rcases List.mem_cons.mp m with m | m
    · exact h1 m
    · exact h2 (List.mem_singleton.mp m)) e
  have hga7 := nin hgaX gca gsa
  have hrow7 := nin hrowX rca rsa
  have hnm7 := nin hnmX nca' nsa'
  have inS : ∀ a ∈ [ca, sa], ∃ xs, X a = some (.lst xs) := fun a h => by
    rcases List.mem_cons.mp h with rfl | h
    · exact ⟨_, hca2⟩
    · rw [List.mem_singleton.mp h]; exact ⟨_, hsa⟩
  have hg7 : GAt zs H7 gs cs := hgX.kp k7 inS
  have pre : ∀ (ks : List Str), ks.length ≤ 8 → (∀ z ∈ ks, z ∈ zs) → Pre2 H7 gs vs (cs.map dOf) ds is ks := fun ks hk sub => by
    refine ⟨(gat_fd (H0 := X) hg7).dq, fd.dq, fun d hd => ?_, okd, by rw [List.length_map]; exact lc5, by omega, fun i d e h3 => iff_ i d ?_ e, hk, fun z hz => okD_name (N.nm z (sub z hz))⟩
    · obtain ⟨c', hc', rfl⟩ := List.mem_map.mp hd
      obtain ⟨i, hi⟩ := List.mem_iff_getElem?.mp hc'
      obtain ⟨_, _, _, g⟩ := hg7.2 i c' hi
      exact ⟨(okD_caller N g).mono (by decide), callerD_good N g⟩
    · have := (List.getElem?_eq_some_iff.mp e).1
      omega
  have old9 : Kp [] H9 H7 := fun b o _ e => by
    have e1 := kX b o not0 e
    refine nin e1 (fun z => ?_) (fun z => ?_)
    · have e2 := (kA.trans k6) b o not0 e
      rw [z, nca] at e2; cases e2
    · have e2 := (kA.trans (k6.trans j1)) b o not0 e
      rw [z, nsa] at e2; cases e2
  obtain ⟨x47, e47, r47, s47⟩ := row 47 (by decide)
  obtain ⟨x46, e46, r46, s46⟩ := row 46 (by decide)
  refine ⟨_, .inl (sq_l hnm7), fun ka nka => ?_⟩
  have j5 : Kp [] H7 (upd H7 ka (.lst (zs.map V.str))) := Kp.new nka
  have hka : (upd H7 ka (.lst (zs.map V.str))) ka = some (.lst (zs.map V.str)) := upd_same
  generalize upd H7 ka (.lst (zs.map V.str)) = Y at j5 hka ⊢
  have hrowY := j5 _ _ not0 hrow7
  refine ⟨_, sq_l hrowY, .int x47, atI_nat e47, _, rfl, by decide, ?_⟩
  refine ite2 (fun _ => ?_) (fun _ => ?_)
  · refine ⟨_, sq_l hrowY, .int x47, atI_nat e47, _, rfl, ⟨by decide, by decide⟩, _, sq_l hrowY, .int x46, atI_nat e46, _, rfl, by decide, ?_⟩
    refine ⟨nm, _, _, zs, rfl, sq_l (j5 _ _ not0 hnm7), N.len, fun o ks H8 no ho hk sub k8 => ?_⟩
    have kk := j5.trans k8
    exact hq _ _ ⟨_, _, _, _, _, _, ga, ca, sa, o, gs, vs, cs.map dOf, ds, is, ks, rfl, kk _ _ not0 hga7, kk _ _ not0 hc7, kk _ _ not0 hs7, ho, (pre ks hk sub).kp kk, k9.trans (old9.trans kk)⟩
  · exact hq _ _ ⟨_, _, _, _, _, _, ga, ca, sa, ka, gs, vs, cs.map dOf, ds, is, zs, rfl, j5 _ _ not0 hga7, j5 _ _ not0 hc7, j5 _ _ not0 hs7, hka, (pre zs (by rw [N.len]; decide) fun z hz => hz).kp j5, k9.trans (old9.trans j5)⟩
end
end My

set_option Elab.async false
set_option linter.all false
set_option maxRecDepth 100000
set_option maxHeartbeats 8000000
namespace My
open PySem L2 NdefX
theorem ne_of_none' {H : Hp} {a b : Addr} {o : HO} (h : H a = none) (h' : H b = some o) : a ≠ b := fun e => by
  rw [e, h'] at h
  cases h
theorem okT_name {z : Str} (h : nameS z = true) : OkT z := by
  have o := okD_name h
  exact ⟨o.1, of_decide_eq_true o.2.2⟩
section
variable {P : Program} {w : World} {K : PySem.W.Frag} {mg : Str → Option Value} {base : Heap}
theorem ok_law {f : Addr} {fd : FuncData} (D : Df K mg "law" s_law ["_law_script"] f fd) (T : BtI mg)
    {f1 : Addr} {fd1 : FuncData} (D_law_draw : Df K mg "_law_draw" s_law_draw ["_law_script", "_law_k"] f1 fd1) (G_law_draw : FnOk P w K mg base CX0 1 f1 fd1 ["_law_script", "_law_k"] (spDr K))
    {f2 : Addr} {fd2 : FuncData} (D_law_name : Df K mg "_law_name" s_law_name ["_law_cell", "_law_more", "_law_names"] f2 fd2) (G_law_name : FnOk P w K mg base CX0 1 f2 fd2 ["_law_cell", "_law_more", "_law_names"] (spNm K))
    {f3 : Addr} {fd3 : FuncData} (D_law_once : Df K mg "_law_once" s_law_once ["_law_row"] f3 fd3) (G_law_once : FnOk P w K mg base CX0 2 f3 fd3 ["_law_row"] (spOn K))
    {f4 : Addr} {fd4 : FuncData} (D_law_always : Df K mg "_law_always" s_law_always ["_law_row"] f4 fd4) (G_law_always : FnOk P w K mg base CX0 2 f4 fd4 ["_law_row"] (spAl K))
    {f5 : Addr} {fd5 : FuncData} (D_law_is_caller : Df K mg "_law_is_caller" s_law_is_caller ["_law_actual", "_law_menus", "_law_again"] f5 fd5) (G_law_is_caller : FnOk P w K mg base CX0 1 f5 fd5 ["_law_actual", "_law_menus", "_law_again"] (spIC K))
    {f6 : Addr} {fd6 : FuncData} (D_law_caller : Df K mg "_law_caller" s_law_caller ["_law_names", "_law_cell", "_law_more"] f6 fd6) (G_law_caller : FnOk P w K mg base CX0 1 f6 fd6 ["_law_names", "_law_cell", "_law_more"] (spCal K))
    {f7 : Addr} {fd7 : FuncData} (D_law_spoilt : Df K mg "_law_spoilt" s_law_spoilt ["_law_caller_here", "_law_names", "_law_cell", "_law_more"] f7 fd7) (G_law_spoilt : FnOk P w K mg base CX0 2 f7 fd7 ["_law_caller_here", "_law_names", "_law_cell", "_law_more"] (spSpo K))
    {f8 : Addr} {fd8 : FuncData} (D_law_some : Df K mg "_law_some" s_law_some ["_law_names", "_law_bits", "_law_place"] f8 fd8) (G_law_some : FnOk P w K mg base CX0 1 f8 fd8 ["_law_names", "_law_bits", "_law_place"] (spSome K))
    {f9 : Addr} {fd9 : FuncData} (D_law_due : Df K mg "_law_due" s_law_due ["_law_client", "_law_spoilt_here", "_law_known"] f9 fd9) (G_law_due : FnOk P w K mg base CX0 1 f9 fd9 ["_law_client", "_law_spoilt_here", "_law_known"] (spDue K))
    {f10 : Addr} {fd10 : FuncData} (D_law_refused : Df K mg "_law_refused" s_law_refused ["_law_client", "_law_known"] f10 fd10) (G_law_refused : FnOk P w K mg base CX0 6 f10 fd10 ["_law_client", "_law_known"] (spRefd K))
    {f11 : Addr} {fd11 : FuncData} (D_law_base : Df K mg "_law_base" s_law_base ["_law_client", "_law_known"] f11 fd11) (G_law_base : FnOk P w K mg base CX0 6 f11 fd11 ["_law_client", "_law_known"] (spBas K)) :
    FnOk P w K mg base CX0 7 f fd ["_law_script"] (spLaw K) := by
  refine D.F.ok sc_law (fun vs H Q E h => ?_) (fun cdv A outer s H vs Q E hr h => ?_)
  · obtain ⟨_, _, rfl, _⟩ := h
    rfl
  · obtain ⟨a, ns, rfl, hS, hl, q⟩ := h
    have hr5 : Room 6 (A.deeper (PyProof.Rows.envOfC "law" (defScope s_law) s.heap.objs.size f cdv)) := hr
    obtain ⟨t2, ht2, hq2⟩ := law_tail2 (P := P) (w := w) (K := K) (mg := mg) (base := base) (E := E) (outer := outer) T hr5 D_law_due G_law_due D_law_refused G_law_refused D_law_base G_law_base q
    obtain ⟨t, ht, hq⟩ := law_tail1 (P := P) (w := w) (K := K) (mg := mg) (base := base) (E := E) (outer := outer) T hr5 D_law_once G_law_once D_law_always G_law_always D_law_is_caller G_law_is_caller D_law_caller G_law_caller D_law_spoilt G_law_spoilt D_law_some G_law_some ht2 hq2
    refine ⟨_, (pss_cons (ps_set (i := 1) sc_law.nd rfl (Or.inr rfl) (pe_lc (own := [("_law_k", 2)]) (g := (gName 2)) (tt := tYes) rfl sc_law.nd (pi_range1 rfl T.b_range (pa_cons pe_int pa_nil)) (blkOk_by (N := ["_law_script", "_law_row", "_law_k", "_law_names", "_law_things", "_law_one", "_law_good", "_law_client", "_law_spoilt_here", "_law_known", "_law_kept", "_law_listed", "_law_due_here", "_law_again"]) (sc := defScope s_law) (by decide +kernel)) (fun _ _ _ _ _ => (pg_name (i := 2) sc_law.nd rfl (Or.inl rfl))) (fun _ _ _ _ _ => pts_nil) (fun _ _ _ _ _ => (pe_call G_law_draw (hr.mono (by decide)) rfl D_law_draw.g D_law_draw.F.kp D_law_draw.b .nil pass0 (pa_cons (pv 0) (pa_cons (pv 2) pa_nil))))))
      (pss_cons (ps_set (i := 3) sc_law.nd rfl (Or.inr rfl) (pe_lst pa_nil))
      (pss_cons (ps_for PassesOwn.never rfl (pi_range1 rfl T.b_range (pa_cons pe_int pa_nil)) (pg_name (i := 2) sc_law.nd rfl (Or.inl rfl)) (pss_one (ps_expr (pe_bm PySem.F.plainAttrs_list PySem.F.slot_list_append PySem.F.type_list_append mt_append (pv 3) (pa_cons (pe_call G_law_name (hr.mono (by decide)) rfl D_law_name.g D_law_name.F.kp D_law_name.b .nil pass0 (pa_cons (pe_ix (r := rIxL K) ix_list (pv 1) (pe_op op_mul pe_int (pv 2)) (fun _ _ => rfl)) (pa_cons (pe_ix (r := rIxL K) ix_list (pv 1) (pe_op op_add (pe_op op_mul pe_int (pv 2)) pe_int) (fun _ _ => rfl)) (pa_cons (pv 3) pa_nil)))) pa_nil)))))
      (pss_cons (ps_setLc (i := 4) (own := [("_law_k", 2)]) (g := (gName 2)) (tt := tYes) rfl sc_law.nd rfl rfl (sw_true rfl rfl rfl (by decide +kernel)) (pi_range1 rfl T.b_range (pa_cons (pe_op op_mod (pe_ix (r := rIxL K) ix_list (pv 1) pe_int (fun _ _ => rfl)) pe_int) pa_nil)) (blkOk_by (N := ["_law_script", "_law_row", "_law_k", "_law_names", "_law_things", "_law_one", "_law_good", "_law_client", "_law_spoilt_here", "_law_known", "_law_kept", "_law_listed", "_law_due_here", "_law_again"]) (sc := defScope s_law) (by decide +kernel)) (fun _ _ _ _ _ => (pg_name (i := 2) sc_law.nd rfl (Or.inl rfl))) (fun _ _ _ _ _ => pts_nil) (fun _ _ _ _ _ => (pe_ix (r := rIxL K) ix_list (pv 3) (pe_op op_mod (pe_ix (r := rIxL K) ix_list (pv 1) (pe_op op_add pe_int (pv 2)) (fun _ _ => rfl)) pe_int) (fun _ _ => rfl))))
      (pss_cons (ps_if (PW.pt (pw_and (pt_cmpR op_gt (pe_callB (id := "len") (r := Evl.rLenS K) call_len_seq (by rfl) T.b_len PySem.boot_len (pa_cons (pv 4) pa_nil)) pe_int (nomark _)) (pw_and1 (pt_cmpR op_eq (pe_op op_mod (pe_op op_fdiv (pe_ix (r := rIxL K) ix_list (pv 1) pe_int (fun _ _ => rfl)) pe_int) pe_int) pe_int (nomark _))))) (pss_one (ps_asg (pe_ix (r := rIxL K) ix_list (pe_lst (pa_cons pe_str (pa_cons pe_str (pa_cons pe_str (pa_cons pe_str pa_nil))))) (pe_op op_mod (pe_op op_fdiv (pe_ix (r := rIxL K) ix_list (pv 1) pe_int (fun _ _ => rfl)) pe_int) pe_int) (fun _ _ => rfl)) (pg_sub (pv 4) (pe_op op_mod (pe_ix (r := rIxL K) ix_list (pv 1) pe_int (fun _ _ => rfl)) (pe_callB (id := "len") (r := Evl.rLenS K) call_len_seq (by rfl) T.b_len PySem.boot_len (pa_cons (pv 4) pa_nil))) set_list))) pss_nil)
      ht))))), ?_⟩
    try simp only [tSeq, tIfS, tTest, tOp, tUn, tCB, tCons, tNil, tVar, tC, rI0, rI, rU, rEq, rNe, tRet, tRetN, tAsg, gName, gSub, tBM, tBM0, tNext, tB, tNot, tAnd, tOr, tIf, tCall, tDrop, tBreak, tCont, L2.start, tDGet, sDPut, tTup, tLst, tDNewK, tRevL, rCat, rAppend, rPop, rSetL, tAndV, tOrV, tNotV, tSl, tPart, tNoPart, tM1, gTup, gCons, gNil, cxK, cxnK, List.map_cons, List.map_nil, List.length_cons, List.length_nil, List.replicate, List.cons_append, List.nil_append, List.append_nil, List.set_cons_zero, List.set_cons_succ, List.getElem?_cons_zero, List.getElem?_cons_succ, Option.some.injEq, V.ref.injEq, V.int.injEq, V.str.injEq, V.bl.injEq, V.ty.injEq, exists_eq_left', exists_eq_left, exists_and_left, List.cons.injEq, and_true, true_and, sc_ii, sc_ss, sc_bb, sc_ni, sc_in, sc_is, sc_si, sc_nn, decide_true, decide_false, reduceCtorEq, Bool.false_eq_true, if_true, if_false, ite_true, ite_false, exists_const, eq_self, false_and, and_false, or_false, false_or, exists_false, Evl.rLenS, rSum, wipe, tYes, exists_eq, exists_eq', rIxL, rIxT, rIxS, exists_and_right, gt_iff_lt, not_true_eq_false, not_false_eq_true, Bool.not_true, Bool.not_false, decide_eq_true_eq, Nat.reduceSub, Nat.reduceAdd, List.append_assoc, tChain, tDIn, tDNotIn, sDDel, tAug, ipI]
    refine lcRg 48 (fun o j H' => ∃ rs : List Int, H' o = some (.lst (rs.map V.int)) ∧ rs.length = j ∧ (∀ r ∈ rs, 0 ≤ r ∧ r < 1000) ∧ Kp [] H H') ?_ (by decide) (by decide) (fun o no => ⟨[], upd_same, rfl, (fun r h => nomatch h), Kp.new no⟩) ?_ ?_
    · intro R hR
      try simp only [tSeq, tIfS, tTest, tOp, tUn, tCB, tCons, tNil, tVar, tC, rI0, rI, rU, rEq, rNe, tRet, tRetN, tAsg, gName, gSub, tBM, tBM0, tNext, tB, tNot, tAnd, tOr, tIf, tCall, tDrop, tBreak, tCont, L2.start, tDGet, sDPut, tTup, tLst, tDNewK, tRevL, rCat, rAppend, rPop, rSetL, tAndV, tOrV, tNotV, tSl, tPart, tNoPart, tM1, gTup, gCons, gNil, cxK, cxnK, List.map_cons, List.map_nil, List.length_cons, List.length_nil, List.replicate, List.cons_append, List.nil_append, List.append_nil, List.set_cons_zero, List.set_cons_succ, List.getElem?_cons_zero, List.getElem?_cons_succ, Option.some.injEq, V.ref.injEq, V.int.injEq, V.str.injEq, V.bl.injEq, V.ty.injEq, exists_eq_left', exists_eq_left, exists_and_left, List.cons.injEq, and_true, true_and, sc_ii, sc_ss, sc_bb, sc_ni, sc_in, sc_is, sc_si, sc_nn, decide_true, decide_false, reduceCtorEq, Bool.false_eq_true, if_true, if_false, ite_true, ite_false, exists_const, eq_self, false_and, and_false, or_false, false_or, exists_false, Evl.rLenS, rSum, wipe, tYes, exists_eq, exists_eq', rIxL, rIxT, rIxS, exists_and_right, gt_iff_lt, not_true_eq_false, not_false_eq_true, Bool.not_true, Bool.not_false, decide_eq_true_eq, Nat.reduceSub, Nat.reduceAdd, List.append_assoc, tChain, tDIn, tDNotIn, sDDel, tAug, ipI]
      exact hR
    · rintro o j H1 no hj ⟨rs, ho, hlr, hb, k⟩
      try simp only [tSeq, tIfS, tTest, tOp, tUn, tCB, tCons, tNil, tVar, tC, rI0, rI, rU, rEq, rNe, tRet, tRetN, tAsg, gName, gSub, tBM, tBM0, tNext, tB, tNot, tAnd, tOr, tIf, tCall, tDrop, tBreak, tCont, L2.start, tDGet, sDPut, tTup, tLst, tDNewK, tRevL, rCat, rAppend, rPop, rSetL, tAndV, tOrV, tNotV, tSl, tPart, tNoPart, tM1, gTup, gCons, gNil, cxK, cxnK, List.map_cons, List.map_nil, List.length_cons, List.length_nil, List.replicate, List.cons_append, List.nil_append, List.append_nil, List.set_cons_zero, List.set_cons_succ, List.getElem?_cons_zero, List.getElem?_cons_succ, Option.some.injEq, V.ref.injEq, V.int.injEq, V.str.injEq, V.bl.injEq, V.ty.injEq, exists_eq_left', exists_eq_left, exists_and_left, List.cons.injEq, and_true, true_and, sc_ii, sc_ss, sc_bb, sc_ni, sc_in, sc_is, sc_si, sc_nn, decide_true, decide_false, reduceCtorEq, Bool.false_eq_true, if_true, if_false, ite_true, ite_false, exists_const, eq_self, false_and, and_false, or_false, false_or, exists_false, Evl.rLenS, rSum, wipe, tYes, exists_eq, exists_eq', rIxL, rIxT, rIxS, exists_and_right, gt_iff_lt, not_true_eq_false, not_false_eq_true, Bool.not_true, Bool.not_false, decide_eq_true_eq, Nat.reduceSub, Nat.reduceAdd, List.append_assoc, tChain, tDIn, tDNotIn, sDDel, tAug, ipI]
      have ix : (0 + (j : Int)) = ((j : Nat) : Int) := Int.zero_add _
      have hj' : j < 48 := hj
      refine ⟨a, _, ns, rfl, k.ls not0 hS, hl, by omega, by omega, fun r r0 r1 => ?_⟩
      refine ⟨_, ho, by rw [List.length_map]; exact smallL (by omega), rs ++ [r], by rw [upd_same, List.map_append]; rfl, by rw [List.length_append, hlr]; rfl, ?_, k.wr no⟩
      intro x hx
      rcases List.mem_append.mp hx with hx | hx
      · exact hb x hx
      · rw [List.mem_singleton.mp hx]; exact ⟨r0, r1⟩
    rintro ro H1 nro ⟨rs, hrow, hlr, hb, k1⟩
    have row : RowOk (rs.map V.int) := fun c hc => by
      have hlr' : rs.length = 48 := hlr
      refine ⟨rs[c]'(by omega), by rw [List.getElem?_map, List.getElem?_eq_getElem (by omega)]; rfl, hb _ (List.getElem_mem _)⟩
    generalize rs.map V.int = rw_ at hrow row
    clear hb hlr
    try simp only [tSeq, tIfS, tTest, tOp, tUn, tCB, tCons, tNil, tVar, tC, rI0, rI, rU, rEq, rNe, tRet, tRetN, tAsg, gName, gSub, tBM, tBM0, tNext, tB, tNot, tAnd, tOr, tIf, tCall, tDrop, tBreak, tCont, L2.start, tDGet, sDPut, tTup, tLst, tDNewK, tRevL, rCat, rAppend, rPop, rSetL, tAndV, tOrV, tNotV, tSl, tPart, tNoPart, tM1, gTup, gCons, gNil, cxK, cxnK, List.map_cons, List.map_nil, List.length_cons, List.length_nil, List.replicate, List.cons_append, List.nil_append, List.append_nil, List.set_cons_zero, List.set_cons_succ, List.getElem?_cons_zero, List.getElem?_cons_succ, Option.some.injEq, V.ref.injEq, V.int.injEq, V.str.injEq, V.bl.injEq, V.ty.injEq, exists_eq_left', exists_eq_left, exists_and_left, List.cons.injEq, and_true, true_and, sc_ii, sc_ss, sc_bb, sc_ni, sc_in, sc_is, sc_si, sc_nn, decide_true, decide_false, reduceCtorEq, Bool.false_eq_true, if_true, if_false, ite_true, ite_false, exists_const, eq_self, false_and, and_false, or_false, false_or, exists_false, Evl.rLenS, rSum, wipe, tYes, exists_eq, exists_eq', rIxL, rIxT, rIxS, exists_and_right, gt_iff_lt, not_true_eq_false, not_false_eq_true, Bool.not_true, Bool.not_false, decide_eq_true_eq, Nat.reduceSub, Nat.reduceAdd, List.append_assoc, tChain, tDIn, tDNotIn, sDDel, tAug, ipI]
    refine ⟨small (by decide), fun nm nnm => ?_⟩
    have k2 : Kp [] H1 (upd H1 nm (.lst [])) := Kp.new nnm
    refine forRg 8 (fun j σ H' => ∃ (c : Option V) (zs : List Str), σ = [some (.ref a), some (.ref ro), c, some (.ref nm), none, none, none, none, none, none, none, none, none, none] ∧ H' nm = some (.lst (zs.map V.str)) ∧ zs.length = j ∧ (∀ z ∈ zs, nameS z = true) ∧ zs.Nodup ∧ Kp [] H1 H') ?_ (by decide) (by decide) ⟨_, [], rfl, upd_same, rfl, (fun z h => nomatch h), List.nodup_nil, k2⟩ ?_ ?_
    · intro R hR
      try simp only [tSeq, tIfS, tTest, tOp, tUn, tCB, tCons, tNil, tVar, tC, rI0, rI, rU, rEq, rNe, tRet, tRetN, tAsg, gName, gSub, tBM, tBM0, tNext, tB, tNot, tAnd, tOr, tIf, tCall, tDrop, tBreak, tCont, L2.start, tDGet, sDPut, tTup, tLst, tDNewK, tRevL, rCat, rAppend, rPop, rSetL, tAndV, tOrV, tNotV, tSl, tPart, tNoPart, tM1, gTup, gCons, gNil, cxK, cxnK, List.map_cons, List.map_nil, List.length_cons, List.length_nil, List.replicate, List.cons_append, List.nil_append, List.append_nil, List.set_cons_zero, List.set_cons_succ, List.getElem?_cons_zero, List.getElem?_cons_succ, Option.some.injEq, V.ref.injEq, V.int.injEq, V.str.injEq, V.bl.injEq, V.ty.injEq, exists_eq_left', exists_eq_left, exists_and_left, List.cons.injEq, and_true, true_and, sc_ii, sc_ss, sc_bb, sc_ni, sc_in, sc_is, sc_si, sc_nn, decide_true, decide_false, reduceCtorEq, Bool.false_eq_true, if_true, if_false, ite_true, ite_false, exists_const, eq_self, false_and, and_false, or_false, false_or, exists_false, Evl.rLenS, rSum, wipe, tYes, exists_eq, exists_eq', rIxL, rIxT, rIxS, exists_and_right, gt_iff_lt, not_true_eq_false, not_false_eq_true, Bool.not_true, Bool.not_false, decide_eq_true_eq, Nat.reduceSub, Nat.reduceAdd, List.append_assoc, tChain, tDIn, tDNotIn, sDDel, tAug, ipI]
      exact hR
    · rintro j σ H2 hj ⟨c, zs, rfl, hn, hlz, hz1, hz2, k⟩
      have hj' : j < 8 := hj
      try simp only [tSeq, tIfS, tTest, tOp, tUn, tCB, tCons, tNil, tVar, tC, rI0, rI, rU, rEq, rNe, tRet, tRetN, tAsg, gName, gSub, tBM, tBM0, tNext, tB, tNot, tAnd, tOr, tIf, tCall, tDrop, tBreak, tCont, L2.start, tDGet, sDPut, tTup, tLst, tDNewK, tRevL, rCat, rAppend, rPop, rSetL, tAndV, tOrV, tNotV, tSl, tPart, tNoPart, tM1, gTup, gCons, gNil, cxK, cxnK, List.map_cons, List.map_nil, List.length_cons, List.length_nil, List.replicate, List.cons_append, List.nil_append, List.append_nil, List.set_cons_zero, List.set_cons_succ, List.getElem?_cons_zero, List.getElem?_cons_succ, Option.some.injEq, V.ref.injEq, V.int.injEq, V.str.injEq, V.bl.injEq, V.ty.injEq, exists_eq_left', exists_eq_left, exists_and_left, List.cons.injEq, and_true, true_and, sc_ii, sc_ss, sc_bb, sc_ni, sc_in, sc_is, sc_si, sc_nn, decide_true, decide_false, reduceCtorEq, Bool.false_eq_true, if_true, if_false, ite_true, ite_false, exists_const, eq_self, false_and, and_false, or_false, false_or, exists_false, Evl.rLenS, rSum, wipe, tYes, exists_eq, exists_eq', rIxL, rIxT, rIxS, exists_and_right, gt_iff_lt, not_true_eq_false, not_false_eq_true, Bool.not_true, Bool.not_false, decide_eq_true_eq, Nat.reduceSub, Nat.reduceAdd, List.append_assoc, tChain, tDIn, tDNotIn, sDDel, tAug, ipI]
      have i0 : (2 : Int) * (0 + (j : Int)) = ((2 * j : Nat) : Int) := by omega
      have i1 : (2 : Int) * (0 + (j : Int)) + 1 = ((2 * j + 1 : Nat) : Int) := by omega
      obtain ⟨x0, e0, r0, s0⟩ := row (2 * j) (by omega)
      obtain ⟨x1, e1, r1, s1⟩ := row (2 * j + 1) (by omega)
      have hrow2 := k _ _ not0 hrow
      refine ⟨.inl ⟨rfl, _, sq_l hn⟩, .inl ⟨by decide, by decide⟩, _, sq_l hrow2, .int x0, by rw [i0]; exact atI_nat e0, .inl ⟨by decide, by decide⟩, _, sq_l hrow2, .int x1, by rw [i1]; exact atI_nat e1, ?_⟩
      refine ⟨x0, x1, nm, zs, rfl, r0, s0, r1, s1, sq_l hn, by omega, fun z nz zn => ?_⟩
      refine ⟨_, hn, by rw [List.length_map]; exact smallL (by omega), zs ++ [z], by rw [upd_same, List.map_append]; rfl, by rw [List.length_append, hlz]; rfl, ?_, ?_, k.wr nnm⟩
      · intro u hu
        rcases List.mem_append.mp hu with hu | hu
        · exact hz1 u hu
        · rw [List.mem_singleton.mp hu]; exact nz
      · unfold List.Nodup
        rw [List.pairwise_append]
        refine ⟨hz2, List.pairwise_singleton _ _, fun u hu v hv e => ?_⟩
        rw [List.mem_singleton.mp hv] at e
        exact zn (e ▸ hu)
    rintro σ H2 ⟨c, zs, rfl, hnm, hlz, hz1, hz2, k3⟩
    have N : Names8 zs := ⟨hlz, hz1, hz2⟩
    have hrow2 := k3 _ _ not0 hrow
    obtain ⟨x23, e23, r23, s23⟩ := row 23 (by decide)
    have q23 : 0 ≤ x23 % 8 := Int.emod_nonneg _ (by decide)
    have u23 : x23 % 8 < 8 := Int.emod_lt_of_pos _ (by decide)
    try simp only [tSeq, tIfS, tTest, tOp, tUn, tCB, tCons, tNil, tVar, tC, rI0, rI, rU, rEq, rNe, tRet, tRetN, tAsg, gName, gSub, tBM, tBM0, tNext, tB, tNot, tAnd, tOr, tIf, tCall, tDrop, tBreak, tCont, L2.start, tDGet, sDPut, tTup, tLst, tDNewK, tRevL, rCat, rAppend, rPop, rSetL, tAndV, tOrV, tNotV, tSl, tPart, tNoPart, tM1, gTup, gCons, gNil, cxK, cxnK, List.map_cons, List.map_nil, List.length_cons, List.length_nil, List.replicate, List.cons_append, List.nil_append, List.append_nil, List.set_cons_zero, List.set_cons_succ, List.getElem?_cons_zero, List.getElem?_cons_succ, Option.some.injEq, V.ref.injEq, V.int.injEq, V.str.injEq, V.bl.injEq, V.ty.injEq, exists_eq_left', exists_eq_left, exists_and_left, List.cons.injEq, and_true, true_and, sc_ii, sc_ss, sc_bb, sc_ni, sc_in, sc_is, sc_si, sc_nn, decide_true, decide_false, reduceCtorEq, Bool.false_eq_true, if_true, if_false, ite_true, ite_false, exists_const, eq_self, false_and, and_false, or_false, false_or, exists_false, Evl.rLenS, rSum, wipe, tYes, exists_eq, exists_eq', rIxL, rIxT, rIxS, exists_and_right, gt_iff_lt, not_true_eq_false, not_false_eq_true, Bool.not_true, Bool.not_false, decide_eq_true_eq, Nat.reduceSub, Nat.reduceAdd, List.append_assoc, tChain, tDIn, tDNotIn, sDDel, tAug, ipI]
    refine lcRg (x23 % 8) (fun o j H' => ∃ xs : List Str, H' o = some (.lst (xs.map V.str)) ∧ xs.length = j ∧ (∀ x ∈ xs, OkT x) ∧ Kp [] H2 H') ?_ (by omega) (by omega) (fun o no => ⟨[], upd_same, rfl, (fun x h => nomatch h), Kp.new no⟩) ?_ ?_
    · intro R hR
      try simp only [tSeq, tIfS, tTest, tOp, tUn, tCB, tCons, tNil, tVar, tC, rI0, rI, rU, rEq, rNe, tRet, tRetN, tAsg, gName, gSub, tBM, tBM0, tNext, tB, tNot, tAnd, tOr, tIf, tCall, tDrop, tBreak, tCont, L2.start, tDGet, sDPut, tTup, tLst, tDNewK, tRevL, rCat, rAppend, rPop, rSetL, tAndV, tOrV, tNotV, tSl, tPart, tNoPart, tM1, gTup, gCons, gNil, cxK, cxnK, List.map_cons, List.map_nil, List.length_cons, List.length_nil, List.replicate, List.cons_append, List.nil_append, List.append_nil, List.set_cons_zero, List.set_cons_succ, List.getElem?_cons_zero, List.getElem?_cons_succ, Option.some.injEq, V.ref.injEq, V.int.injEq, V.str.injEq, V.bl.injEq, V.ty.injEq, exists_eq_left', exists_eq_left, exists_and_left, List.cons.injEq, and_true, true_and, sc_ii, sc_ss, sc_bb, sc_ni, sc_in, sc_is, sc_si, sc_nn, decide_true, decide_false, reduceCtorEq, Bool.false_eq_true, if_true, if_false, ite_true, ite_false, exists_const, eq_self, false_and, and_false, or_false, false_or, exists_false, Evl.rLenS, rSum, wipe, tYes, exists_eq, exists_eq', rIxL, rIxT, rIxS, exists_and_right, gt_iff_lt, not_true_eq_false, not_false_eq_true, Bool.not_true, Bool.not_false, decide_eq_true_eq, Nat.reduceSub, Nat.reduceAdd, List.append_assoc, tChain, tDIn, tDNotIn, sDDel, tAug, ipI]
      exact ⟨_, sq_l hrow2, .int x23, atI_nat e23, _, rfl, by decide, hR⟩
    · rintro o j H3 no hj ⟨xs, ho, hlx, hx, k⟩
      have hj' : j < 8 := by omega
      try simp only [tSeq, tIfS, tTest, tOp, tUn, tCB, tCons, tNil, tVar, tC, rI0, rI, rU, rEq, rNe, tRet, tRetN, tAsg, gName, gSub, tBM, tBM0, tNext, tB, tNot, tAnd, tOr, tIf, tCall, tDrop, tBreak, tCont, L2.start, tDGet, sDPut, tTup, tLst, tDNewK, tRevL, rCat, rAppend, rPop, rSetL, tAndV, tOrV, tNotV, tSl, tPart, tNoPart, tM1, gTup, gCons, gNil, cxK, cxnK, List.map_cons, List.map_nil, List.length_cons, List.length_nil, List.replicate, List.cons_append, List.nil_append, List.append_nil, List.set_cons_zero, List.set_cons_succ, List.getElem?_cons_zero, List.getElem?_cons_succ, Option.some.injEq, V.ref.injEq, V.int.injEq, V.str.injEq, V.bl.injEq, V.ty.injEq, exists_eq_left', exists_eq_left, exists_and_left, List.cons.injEq, and_true, true_and, sc_ii, sc_ss, sc_bb, sc_ni, sc_in, sc_is, sc_si, sc_nn, decide_true, decide_false, reduceCtorEq, Bool.false_eq_true, if_true, if_false, ite_true, ite_false, exists_const, eq_self, false_and, and_false, or_false, false_or, exists_false, Evl.rLenS, rSum, wipe, tYes, exists_eq, exists_eq', rIxL, rIxT, rIxS, exists_and_right, gt_iff_lt, not_true_eq_false, not_false_eq_true, Bool.not_true, Bool.not_false, decide_eq_true_eq, Nat.reduceSub, Nat.reduceAdd, List.append_assoc, tChain, tDIn, tDNotIn, sDDel, tAug, ipI]
      have ij : (16 : Int) + (0 + (j : Int)) = ((16 + j : Nat) : Int) := by omega
      obtain ⟨y, ey, ry, sy⟩ := row (16 + j) (by omega)
      have iy : y % 8 = ((y.toNat % 8 : Nat) : Int) := by omega
      have gz := getD8 N y.toNat
      refine ⟨_, sq_l (k _ _ not0 hrow2), .int y, by rw [ij]; exact atI_nat ey, _, rfl, by decide, _, sq_l (k _ _ not0 hnm), .str (zs.getD (y.toNat % 8) Str.empty), by rw [iy]; exact atI_nat (by rw [List.getElem?_map, gz]; rfl), ?_⟩
      refine ⟨_, ho, by rw [List.length_map]; exact smallL (by omega), xs ++ [zs.getD (y.toNat % 8) Str.empty], by rw [upd_same, List.map_append]; rfl, by rw [List.length_append, hlx]; rfl, fun x hx' => ?_, k.wr no⟩
      rcases List.mem_append.mp hx' with h | h
      · exact hx x h
      · rw [List.mem_singleton.mp h]
        exact okT_name (hz1 _ (List.mem_of_getElem? gz))
    rintro th H3 nth ⟨xs, hth, hlx, hx, k4⟩
    have hxl : xs.length ≤ 7 := by omega
    have hrow3 := k4 _ _ not0 hrow2
    have hnm3 := k4 _ _ not0 hnm
    have kk : Kp [] H H3 := k1.trans (k3.trans k4)
    try simp only [tSeq, tIfS, tTest, tOp, tUn, tCB, tCons, tNil, tVar, tC, rI0, rI, rU, rEq, rNe, tRet, tRetN, tAsg, gName, gSub, tBM, tBM0, tNext, tB, tNot, tAnd, tOr, tIf, tCall, tDrop, tBreak, tCont, L2.start, tDGet, sDPut, tTup, tLst, tDNewK, tRevL, rCat, rAppend, rPop, rSetL, tAndV, tOrV, tNotV, tSl, tPart, tNoPart, tM1, gTup, gCons, gNil, cxK, cxnK, List.map_cons, List.map_nil, List.length_cons, List.length_nil, List.replicate, List.cons_append, List.nil_append, List.append_nil, List.set_cons_zero, List.set_cons_succ, List.getElem?_cons_zero, List.getElem?_cons_succ, Option.some.injEq, V.ref.injEq, V.int.injEq, V.str.injEq, V.bl.injEq, V.ty.injEq, exists_eq_left', exists_eq_left, exists_and_left, List.cons.injEq, and_true, true_and, sc_ii, sc_ss, sc_bb, sc_ni, sc_in, sc_is, sc_si, sc_nn, decide_true, decide_false, reduceCtorEq, Bool.false_eq_true, if_true, if_false, ite_true, ite_false, exists_const, eq_self, false_and, and_false, or_false, false_or, exists_false, Evl.rLenS, rSum, wipe, tYes, exists_eq, exists_eq', rIxL, rIxT, rIxS, exists_and_right, gt_iff_lt, not_true_eq_false, not_false_eq_true, Bool.not_true, Bool.not_false, decide_eq_true_eq, Nat.reduceSub, Nat.reduceAdd, List.append_assoc, tChain, tDIn, tDNotIn, sDDel, tAug, ipI]
    have plain := hq _ H3 ⟨c, a, ro, nm, th, rw_, zs, xs, rfl, hrow3, row, hnm3, N, hth, hxl, hx, kk⟩
    refine ⟨_, .inl (sq_l hth), ?_⟩
    rw [List.length_map]
    refine ite2 (fun h0 => ?_) (fun h0 => plain)
    refine ⟨_, sq_l hrow3, .int x23, atI_nat e23, _, rfl, ⟨by decide, by decide⟩, by decide, ?_⟩
    refine ite2 (fun h1 => ?_) (fun h1 => plain)
    refine ⟨small (by decide), fun lo nlo => ?_⟩
    have j1 : Kp [] H3 (upd H3 lo (.lst [.str "A", .str "", .str "abcdefghi", .str "p q"])) := Kp.new nlo
    have hlo : (upd H3 lo (.lst [.str "A", .str "", .str "abcdefghi", .str "p q"])) lo = some (.lst [.str "A", .str "", .str "abcdefghi", .str "p q"]) := upd_same
    generalize upd H3 lo (.lst [.str "A", .str "", .str "abcdefghi", .str "p q"]) = Y at j1 hlo ⊢
    obtain ⟨x24, e24, r24, s24⟩ := row 24 (by decide)
    have hthY := j1 _ _ not0 hth
    have hrowY := j1 _ _ not0 hrow3
    have hnmY := j1 _ _ not0 hnm3
    obtain ⟨e, he, le⟩ : ∃ e : Nat, x24 / 8 % 4 = (e : Nat) ∧ e < 4 := by
      have h1 := Int.emod_nonneg (x24 / 8) (show (4 : Int) ≠ 0 by decide)
      have h2 := Int.emod_lt_of_pos (x24 / 8) (show (0 : Int) < 4 by decide)
      exact ⟨(x24 / 8 % 4).toNat, by omega, by omega⟩
    obtain ⟨z, ez, oz⟩ : ∃ z : Str, ([.str "A", .str "", .str "abcdefghi", .str "p q"] : List V)[e]? = some (.str z) ∧ OkT z := by
      rcases (by omega : e = 0 ∨ e = 1 ∨ e = 2 ∨ e = 3) with rfl | rfl | rfl | rfl
      · exact ⟨_, rfl, by decide +kernel, by decide +kernel⟩
      · exact ⟨_, rfl, by decide +kernel, by decide +kernel⟩
      · exact ⟨_, rfl, by decide +kernel, by decide +kernel⟩
      · exact ⟨_, rfl, by decide +kernel, by decide +kernel⟩
    have lpos : (0 : Int) < (xs.length : Nat) := h0
    obtain ⟨i, hi, li⟩ : ∃ i : Nat, x24 % ((xs.length : Nat) : Int) = (i : Nat) ∧ i < xs.length := by
      have h1 := Int.emod_nonneg x24 (show ((xs.length : Nat) : Int) ≠ 0 by omega)
      have h2 := Int.emod_lt_of_pos x24 lpos
      exact ⟨(x24 % ((xs.length : Nat) : Int)).toNat, by omega, by omega⟩
    refine ⟨_, sq_l hrowY, .int x24, atI_nat e24, _, rfl, ⟨by decide, by decide⟩, by decide, _, sq_l hlo, .str z, by rw [he]; exact atI_nat ez, _, sq_l hrowY, .int x24, atI_nat e24, _, .inl (sq_l hthY), _, rfl, by rw [List.length_map]; exact lpos, _, hthY, i, ?_, ?_⟩
    · rw [List.length_map, hi]
      exact ixN_of (by omega) (by omega)
    · have tr : th ≠ ro := ne_of_none' nth hrow2
      have tn : th ≠ nm := ne_of_none' nth hnm
      refine hq _ _ ⟨c, a, ro, nm, th, rw_, zs, xs.set i z, rfl, by rw [upd_ne tr.symm]; exact hrowY, row, by rw [upd_ne tn.symm]; exact hnmY, N, by rw [upd_same, List.map_set], by rw [List.length_set]; exact hxl, fun x hx' => ?_, (kk.trans j1).wr ((k1.trans k3).free0 nth)⟩
      rcases List.mem_or_eq_of_mem_set hx' with h | rfl
      · exact hx x h
      · exact oz
end
end My

set_option Elab.async false
set_option linter.all false
set_option maxRecDepth 100000
set_option maxHeartbeats 8000000
namespace My
open PySem L2 NdefX
theorem exm_sub {K : PySem.W.Frag} {S D : Addr} {b : Bool} (h1 : PySem.W.subIn K (.ref D) (.type "BaseException") = some true) (h2 : PySem.W.isClsIn K D = true) (h3 : PySem.W.typeIn K (.ref D) = some (.type "type"))
    (h4 : PySem.W.subIn K (.ref S) (.ref D) = some b) : PySem.W.exmOne K (.ref S) (.ref D) = some b := by
  have i2 : (PySem.W.clsIn K D).isSome = true := h2
  unfold PySem.W.exmOne
  simp [PySem.W.kitCls, h1, i2, h3, h4]
theorem kit_self {K : PySem.W.Frag} {S : Addr} : PySem.W.kitOne K (.ref S) (.ref S) = some true := by
  unfold PySem.W.kitOne
  rw [if_pos (beq_self_eq_true _)]
theorem kit_sub {K : PySem.W.Frag} {S D : Addr} {b : Bool} (h1 : ((Value.ref S) == (Value.ref D)) = false) (h2 : PySem.W.isClsIn K D = true) (h3 : PySem.W.typeIn K (.ref D) = some (.type "type")) (h4 : PySem.W.subIn K (.ref S) (.ref D) = some b) : PySem.W.kitOne K (.ref S) (.ref D) = some b := by
  have i2 : (PySem.W.clsIn K D).isSome = true := h2
  unfold PySem.W.kitOne
  rw [h1]
  simp [PySem.W.kitCls, i2, h3, h4]
theorem kit_ty {K : PySem.W.Frag} {S : Addr} {T : String} {b : Bool} (h1 : PySem.W.kitMeta T = true) (h4 : PySem.W.subIn K (.ref S) (.type T) = some b) : PySem.W.kitOne K (.ref S) (.type T) = some b := by
  unfold PySem.W.kitOne
  rw [if_neg (by rw [show ((Value.ref S) == (Value.type T)) = false from beq_eq_false_iff_ne.mpr (fun z => nomatch z)]; exact Bool.false_ne_true)]
  simp [PySem.W.kitCls, h1, h4]
theorem all_mk {l : PySem.W.OpenLaw} {w : World} {K : PySem.W.Frag} {h : Heap} {mg : Str → Option Value} {fa : Addr} (X : K.In h) (G : h.Ns mainGlobals mg) (hfa : mg "law" = some (.ref fa))
    {f0 : Addr}
    {od0 an0 : Option Addr}
    {sl0 : Array (Option Value)}
    {oc0 kV0 dc0 pm0 cd0 ct0 : Value}
    {f1 : Addr}
    {od1 an1 : Option Addr}
    {sl1 : Array (Option Value)}
    {oc1 kV1 dc1 pm1 cd1 ct1 : Value}
    {f2 : Addr}
    {od2 an2 : Option Addr}
    {sl2 : Array (Option Value)}
    {oc2 kV2 dc2 pm2 cd2 ct2 : Value}
    {f3 : Addr}
    {od3 an3 : Option Addr}
    {sl3 : Array (Option Value)}
    {oc3 kV3 dc3 pm3 cd3 ct3 : Value}
    {f4 : Addr}
    {od4 an4 : Option Addr}
    {sl4 : Array (Option Value)}
    {oc4 kV4 dc4 pm4 cd4 ct4 : Value}
    {f5 : Addr}
    {od5 an5 : Option Addr}
    {sl5 : Array (Option Value)}
    {oc5 kV5 dc5 pm5 cd5 ct5 : Value}
    {f6 : Addr}
    {od6 an6 : Option Addr}
    {sl6 : Array (Option Value)}
    {oc6 kV6 dc6 pm6 cd6 ct6 : Value}
    {f7 : Addr}
    {od7 an7 : Option Addr}
    {sl7 : Array (Option Value)}
    {oc7 kV7 dc7 pm7 cd7 ct7 : Value}
    {f8 : Addr}
    {od8 an8 : Option Addr}
    {sl8 : Array (Option Value)}
    {oc8 kV8 dc8 pm8 cd8 ct8 : Value}
    {f9 : Addr}
    {od9 an9 : Option Addr}
    {sl9 : Array (Option Value)}
    {oc9 kV9 dc9 pm9 cd9 ct9 : Value}
    {f10 : Addr}
    {od10 an10 : Option Addr}
    {sl10 : Array (Option Value)}
    {oc10 kV10 dc10 pm10 cd10 ct10 : Value}
    {f11 : Addr}
    {od11 an11 : Option Addr}
    {sl11 : Array (Option Value)}
    {oc11 kV11 dc11 pm11 cd11 ct11 : Value}
    {f12 : Addr}
    {od12 an12 : Option Addr}
    {sl12 : Array (Option Value)}
    {oc12 kV12 dc12 pm12 cd12 ct12 : Value}
    {f13 : Addr}
    {od13 an13 : Option Addr}
    {sl13 : Array (Option Value)}
    {oc13 kV13 dc13 pm13 cd13 ct13 : Value}
    {f14 : Addr}
    {od14 an14 : Option Addr}
    {sl14 : Array (Option Value)}
    {oc14 kV14 dc14 pm14 cd14 ct14 : Value}
    {f15 : Addr}
    {od15 an15 : Option Addr}
    {sl15 : Array (Option Value)}
    {oc15 kV15 dc15 pm15 cd15 ct15 : Value}
    {f16 : Addr}
    {od16 an16 : Option Addr}
    {sl16 : Array (Option Value)}
    {oc16 kV16 dc16 pm16 cd16 ct16 : Value}
    {f17 : Addr}
    {od17 an17 : Option Addr}
    {sl17 : Array (Option Value)}
    {oc17 kV17 dc17 pm17 cd17 ct17 : Value}
    {f18 : Addr}
    {od18 an18 : Option Addr}
    {sl18 : Array (Option Value)}
    {oc18 kV18 dc18 pm18 cd18 ct18 : Value}
    {f19 : Addr}
    {od19 an19 : Option Addr}
    {sl19 : Array (Option Value)}
    {oc19 kV19 dc19 pm19 cd19 ct19 : Value}
    {sL : Str}
    {tL : Tok}
    {tX3 : Tok}
    {tX4 : Tok}
    {tX6 : Tok}
    {BC feB ccB cdaB NB : Addr}
    {nmB qnB fileB : Str}
    {bsB bmB sbB : List Value}
    {snB : List Str}
    {abB : Bool}
    {coB : Option Bool}
    {ddB odB anB cdB ceB : Option Addr}
    {m0B m1B m2B m3B m5B : Option Value}
    {vsB : Array Value}
    {tfB : Tok}
    {slB csB czB : Array (Option Value)}
    {ocB kVB dcB pmB ctB clB cxB : Value}
    {NO feP ccP cdaP NP : Addr}
    {nmP qnP fileP : Str}
    {bsP bmP sbP : List Value}
    {snP : List Str}
    {abP : Bool}
    {coP : Option Bool}
    {ddP odP anP cdP ceP : Option Addr}
    {m0P m1P m2P m3P m5P : Option Value}
    {vsP : Array Value}
    {tfP : Tok}
    {slP csP czP : Array (Option Value)}
    {ocP kVP dcP pmP ctP clP cxP : Value}
    {CE : Addr}
    (a0 : PySem.W.nsIn K mainGlobals "is_name" = some (some (.ref f0)))
    (l0 : K.lookup f0 = some ⟨oc0, od0, .func (PySem.W.fnOf "is_name" "is_name" (defArgs s_is_name) (defBody s_is_name) (defScope s_is_name) .none kV0 dc0 pm0 an0 cd0 ct0), sl0⟩)
    (c0 : PySem.W.codeIn K cd0 "is_name" = true)
    (k0 : PySem.W.keepIn K (.ref f0) = true)
    (a1 : PySem.W.nsIn K mainGlobals "is_menu" = some (some (.ref f1)))
    (l1 : K.lookup f1 = some ⟨oc1, od1, .func (PySem.W.fnOf "is_menu" "is_menu" (defArgs s_is_menu) (defBody s_is_menu) (defScope s_is_menu) .none kV1 dc1 pm1 an1 cd1 ct1), sl1⟩)
    (c1 : PySem.W.codeIn K cd1 "is_menu" = true)
    (k1 : PySem.W.keepIn K (.ref f1) = true)
    (a2 : PySem.W.nsIn K mainGlobals "is_caller" = some (some (.ref f2)))
    (l2 : K.lookup f2 = some ⟨oc2, od2, .func (PySem.W.fnOf "is_caller" "is_caller" (defArgs s_is_caller) (defBody s_is_caller) (defScope s_is_caller) .none kV2 dc2 pm2 an2 cd2 ct2), sl2⟩)
    (c2 : PySem.W.codeIn K cd2 "is_caller" = true)
    (k2 : PySem.W.keepIn K (.ref f2) = true)
    (a3 : PySem.W.nsIn K mainGlobals "check_callers" = some (some (.ref f3)))
    (l3 : K.lookup f3 = some ⟨oc3, od3, .func (PySem.W.fnOf "check_callers" "check_callers" (defArgs s_check_callers) (defBody s_check_callers) (defScope s_check_callers) .none kV3 dc3 pm3 an3 cd3 ct3), sl3⟩)
    (c3 : PySem.W.codeIn K cd3 "check_callers" = true)
    (k3 : PySem.W.keepIn K (.ref f3) = true)
    (a4 : PySem.W.nsIn K mainGlobals "check_client" = some (some (.ref f4)))
    (l4 : K.lookup f4 = some ⟨oc4, od4, .func (PySem.W.fnOf "check_client" "check_client" (defArgs s_check_client) (defBody s_check_client) (defScope s_check_client) .none kV4 dc4 pm4 an4 cd4 ct4), sl4⟩)
    (c4 : PySem.W.codeIn K cd4 "check_client" = true)
    (k4 : PySem.W.keepIn K (.ref f4) = true)
    (a5 : PySem.W.nsIn K mainGlobals "_law_draw" = some (some (.ref f5)))
    (l5 : K.lookup f5 = some ⟨oc5, od5, .func (PySem.W.fnOf "_law_draw" "_law_draw" (defArgs s_law_draw) (defBody s_law_draw) (defScope s_law_draw) .none kV5 dc5 pm5 an5 cd5 ct5), sl5⟩)
    (c5 : PySem.W.codeIn K cd5 "_law_draw" = true)
    (k5 : PySem.W.keepIn K (.ref f5) = true)
    (a6 : PySem.W.nsIn K mainGlobals "_law_name" = some (some (.ref f6)))
    (l6 : K.lookup f6 = some ⟨oc6, od6, .func (PySem.W.fnOf "_law_name" "_law_name" (defArgs s_law_name) (defBody s_law_name) (defScope s_law_name) .none kV6 dc6 pm6 an6 cd6 ct6), sl6⟩)
    (c6 : PySem.W.codeIn K cd6 "_law_name" = true)
    (k6 : PySem.W.keepIn K (.ref f6) = true)
    (a7 : PySem.W.nsIn K mainGlobals "_law_once" = some (some (.ref f7)))
    (l7 : K.lookup f7 = some ⟨oc7, od7, .func (PySem.W.fnOf "_law_once" "_law_once" (defArgs s_law_once) (defBody s_law_once) (defScope s_law_once) .none kV7 dc7 pm7 an7 cd7 ct7), sl7⟩)
    (c7 : PySem.W.codeIn K cd7 "_law_once" = true)
    (k7 : PySem.W.keepIn K (.ref f7) = true)
    (a8 : PySem.W.nsIn K mainGlobals "_law_always" = some (some (.ref f8)))
    (l8 : K.lookup f8 = some ⟨oc8, od8, .func (PySem.W.fnOf "_law_always" "_law_always" (defArgs s_law_always) (defBody s_law_always) (defScope s_law_always) .none kV8 dc8 pm8 an8 cd8 ct8), sl8⟩)
    (c8 : PySem.W.codeIn K cd8 "_law_always" = true)
    (k8 : PySem.W.keepIn K (.ref f8) = true)
    (a9 : PySem.W.nsIn K mainGlobals "_law_is_caller" = some (some (.ref f9)))
    (l9 : K.lookup f9 = some ⟨oc9, od9, .func (PySem.W.fnOf "_law_is_caller" "_law_is_caller" (defArgs s_law_is_caller) (defBody s_law_is_caller) (defScope s_law_is_caller) .none kV9 dc9 pm9 an9 cd9 ct9), sl9⟩)
    (c9 : PySem.W.codeIn K cd9 "_law_is_caller" = true)
    (k9 : PySem.W.keepIn K (.ref f9) = true)
    (a10 : PySem.W.nsIn K mainGlobals "_law_with" = some (some (.ref f10)))
    (l10 : K.lookup f10 = some ⟨oc10, od10, .func (PySem.W.fnOf "_law_with" "_law_with" (defArgs s_law_with) (defBody s_law_with) (defScope s_law_with) .none kV10 dc10 pm10 an10 cd10 ct10), sl10⟩)
    (c10 : PySem.W.codeIn K cd10 "_law_with" = true)
    (k10 : PySem.W.keepIn K (.ref f10) = true)
    (a11 : PySem.W.nsIn K mainGlobals "_law_caller" = some (some (.ref f11)))
    (l11 : K.lookup f11 = some ⟨oc11, od11, .func (PySem.W.fnOf "_law_caller" "_law_caller" (defArgs s_law_caller) (defBody s_law_caller) (defScope s_law_caller) .none kV11 dc11 pm11 an11 cd11 ct11), sl11⟩)
    (c11 : PySem.W.codeIn K cd11 "_law_caller" = true)
    (k11 : PySem.W.keepIn K (.ref f11) = true)
    (a12 : PySem.W.nsIn K mainGlobals "_law_spoilt" = some (some (.ref f12)))
    (l12 : K.lookup f12 = some ⟨oc12, od12, .func (PySem.W.fnOf "_law_spoilt" "_law_spoilt" (defArgs s_law_spoilt) (defBody s_law_spoilt) (defScope s_law_spoilt) .none kV12 dc12 pm12 an12 cd12 ct12), sl12⟩)
    (c12 : PySem.W.codeIn K cd12 "_law_spoilt" = true)
    (k12 : PySem.W.keepIn K (.ref f12) = true)
    (a13 : PySem.W.nsIn K mainGlobals "_law_some" = some (some (.ref f13)))
    (l13 : K.lookup f13 = some ⟨oc13, od13, .func (PySem.W.fnOf "_law_some" "_law_some" (defArgs s_law_some) (defBody s_law_some) (defScope s_law_some) .none kV13 dc13 pm13 an13 cd13 ct13), sl13⟩)
    (c13 : PySem.W.codeIn K cd13 "_law_some" = true)
    (k13 : PySem.W.keepIn K (.ref f13) = true)
    (a14 : PySem.W.nsIn K mainGlobals "_law_due" = some (some (.ref f14)))
    (l14 : K.lookup f14 = some ⟨oc14, od14, .func (PySem.W.fnOf "_law_due" "_law_due" (defArgs s_law_due) (defBody s_law_due) (defScope s_law_due) .none kV14 dc14 pm14 an14 cd14 ct14), sl14⟩)
    (c14 : PySem.W.codeIn K cd14 "_law_due" = true)
    (k14 : PySem.W.keepIn K (.ref f14) = true)
    (a15 : PySem.W.nsIn K mainGlobals "_law_refused" = some (some (.ref f15)))
    (l15 : K.lookup f15 = some ⟨oc15, od15, .func (PySem.W.fnOf "_law_refused" "_law_refused" (defArgs s_law_refused) (defBody s_law_refused) (defScope s_law_refused) .none kV15 dc15 pm15 an15 cd15 ct15), sl15⟩)
    (c15 : PySem.W.codeIn K cd15 "_law_refused" = true)
    (k15 : PySem.W.keepIn K (.ref f15) = true)
    (a16 : PySem.W.nsIn K mainGlobals "_law_base" = some (some (.ref f16)))
    (l16 : K.lookup f16 = some ⟨oc16, od16, .func (PySem.W.fnOf "_law_base" "_law_base" (defArgs s_law_base) (defBody s_law_base) (defScope s_law_base) .none kV16 dc16 pm16 an16 cd16 ct16), sl16⟩)
    (c16 : PySem.W.codeIn K cd16 "_law_base" = true)
    (k16 : PySem.W.keepIn K (.ref f16) = true)
    (a17 : PySem.W.nsIn K mainGlobals "law" = some (some (.ref f17)))
    (l17 : K.lookup f17 = some ⟨oc17, od17, .func (PySem.W.fnOf "law" "law" (defArgs s_law) (defBody s_law) (defScope s_law) .none kV17 dc17 pm17 an17 cd17 ct17), sl17⟩)
    (c17 : PySem.W.codeIn K cd17 "law" = true)
    (k17 : PySem.W.keepIn K (.ref f17) = true)
    (a18 : PySem.W.nsIn K mainGlobals "once" = some (some (.ref f18)))
    (l18 : K.lookup f18 = some ⟨oc18, od18, .func (PySem.W.fnOf "once" "once" (defArgs s_once) (defBody s_once) (defScope s_once) .none kV18 dc18 pm18 an18 cd18 ct18), sl18⟩)
    (c18 : PySem.W.codeIn K cd18 "once" = true)
    (k18 : PySem.W.keepIn K (.ref f18) = true)
    (a19 : PySem.W.nsIn K mainGlobals "always" = some (some (.ref f19)))
    (l19 : K.lookup f19 = some ⟨oc19, od19, .func (PySem.W.fnOf "always" "always" (defArgs s_always) (defBody s_always) (defScope s_always) .none kV19 dc19 pm19 an19 cd19 ct19), sl19⟩)
    (c19 : PySem.W.codeIn K cd19 "always" = true)
    (k19 : PySem.W.keepIn K (.ref f19) = true)
    (z_isinstance : PySem.W.nsIn K mainGlobals "isinstance" = some none)
    (z_str : PySem.W.nsIn K mainGlobals "str" = some none)
    (z_bool : PySem.W.nsIn K mainGlobals "bool" = some none)
    (z_tuple : PySem.W.nsIn K mainGlobals "tuple" = some none)
    (z_len : PySem.W.nsIn K mainGlobals "len" = some none)
    (z_all : PySem.W.nsIn K mainGlobals "all" = some none)
    (z_set : PySem.W.nsIn K mainGlobals "set" = some none)
    (z_enumerate : PySem.W.nsIn K mainGlobals "enumerate" = some none)
    (z_int : PySem.W.nsIn K mainGlobals "int" = some none)
    (z_abs : PySem.W.nsIn K mainGlobals "abs" = some none)
    (z_range : PySem.W.nsIn K mainGlobals "range" = some none)
    (z_list : PySem.W.nsIn K mainGlobals "list" = some none)
    (z_ValueError : PySem.W.nsIn K mainGlobals "ValueError" = some none)
    (z_super : PySem.W.nsIn K mainGlobals "super" = some none)
    (gL : PySem.W.nsIn K mainGlobals "LETTERS" = some (some (.str sL tL)))
    (eL : sL = lets)
    (gX3 : PySem.W.nsIn K mainGlobals "MOST_CALLERS" = some (some (.int 3 tX3)))
    (gX4 : PySem.W.nsIn K mainGlobals "MOST_MENUS" = some (some (.int 4 tX4)))
    (gX6 : PySem.W.nsIn K mainGlobals "MOST_NAMES" = some (some (.int 6 tX6)))
    (aB : PySem.W.nsIn K mainGlobals "BadClient" = some (some (.ref BC)))
    (xB : K.lookup BC = some (excClassObj nmB qnB BC NB bsB bmB true snB sbB abB coB ddB m0B m1B m2B m3B m5B "ValueError.__new__"))
    (rB : PySem.HandSPX.refsVE bmB = true)
    (b1B : PySem.W.findIn K (.ref BC) "__setattr__" = some (some (.builtin "object.__setattr__")))
    (q1B : PySem.W.subIn K (.ref BC) (.type "BaseException") = some true)
    (q2B : PySem.W.isClsIn K BC = true)
    (q3B : PySem.W.typeIn K (.ref BC) = some (.type "type"))
    (b4B : PySem.W.keepIn K (.ref BC) = true)
    (b5B : PySem.W.findIn K (.ref BC) "__init__" = some (some (.ref feB)))
    (b6B : PySem.W.typeIn K (.ref feB) = some (.type "function"))
    (lB : K.lookup feB = some ⟨ocB, odB, .func (PySem.W.fnX "__init__" "BadClient.__init__" (defArgs s_BadClient_init) (defBody s_BadClient_init) (defScope s_BadClient_init) [("__class__", ccB)] .none kVB dcB pmB anB (.ref cdaB) ctB), slB⟩)
    (cB : PySem.W.codeIn K (.ref cdaB) "BadClient.__init__" = true)
    (kB : PySem.W.keepIn K (.ref feB) = true)
    (eB : K.lookup ccB = some ⟨clB, cdB, .cell (some (.ref BC)), csB⟩)
    (b7B : PySem.W.ks_superIn K BC BC "__init__" = some (some (.builtin "ValueError.__init__")))
    (b8B : PySem.W.subIn K (.ref BC) (.type "ValueError") = some true)
    (b9 : PySem.W.nsIn K cStatics "thirdparty.any" = some none)
    (b14 : (l.prog.main.scope.names.lookup ("super" : Str)).isSome = false)
    (b31 : PySem.W.kitMeta "ValueError" = true)
    (p12 : PySem.W.specialIn K (.builtin "object.__class__") "__get__" = some (some (.builtin "getset_descriptor.__get__")))
    (p13 : PySem.W.takesIn K (.builtin "object.__class__") = some true)
    (b10B : PySem.W.mroIn K BC (.ref BC) = some true)
    (b11B : K.lookup cdaB = some ⟨cxB, ceB, .fields vsB, czB⟩)
    (b12B : vsB[2]? = some (.str fileB tfB))
    (b13B : ((l.prog.main.file : Str) == fileB) = true)
    (b15B : PySem.W.findIn K (.ref BC) "caller" = some none)
    (b17B : PySem.W.findIn K (.ref BC) "__getattribute__" = some (some (.builtin "BaseException.__getattribute__")))
    (b18B : PySem.W.findIn K (.ref BC) "__getattr__" = some none)
    (b19B : PySem.W.hasDictIn K BC = true)
    (b25B : PySem.W.findIn K (.ref BC) "__class__" = some (some (.builtin "object.__class__")))
    (b26B : PySem.W.mroIn K BC (.type "object") = some true)
    (aP : PySem.W.nsIn K mainGlobals "NoOperation" = some (some (.ref NO)))
    (xP : K.lookup NO = some (excClassObj nmP qnP NO NP bsP bmP true snP sbP abP coP ddP m0P m1P m2P m3P m5P "ValueError.__new__"))
    (rP : PySem.HandSPX.refsVE bmP = true)
    (b1P : PySem.W.findIn K (.ref NO) "__setattr__" = some (some (.builtin "object.__setattr__")))
    (q1P : PySem.W.subIn K (.ref NO) (.type "BaseException") = some true)
    (q2P : PySem.W.isClsIn K NO = true)
    (q3P : PySem.W.typeIn K (.ref NO) = some (.type "type"))
    (b4P : PySem.W.keepIn K (.ref NO) = true)
    (b5P : PySem.W.findIn K (.ref NO) "__init__" = some (some (.ref feP)))
    (b6P : PySem.W.typeIn K (.ref feP) = some (.type "function"))
    (lP : K.lookup feP = some ⟨ocP, odP, .func (PySem.W.fnX "__init__" "NoOperation.__init__" (defArgs s_NoOperation_init) (defBody s_NoOperation_init) (defScope s_NoOperation_init) [("__class__", ccP)] .none kVP dcP pmP anP (.ref cdaP) ctP), slP⟩)
    (cP : PySem.W.codeIn K (.ref cdaP) "NoOperation.__init__" = true)
    (kP : PySem.W.keepIn K (.ref feP) = true)
    (eP : K.lookup ccP = some ⟨clP, cdP, .cell (some (.ref NO)), csP⟩)
    (b7P : PySem.W.ks_superIn K NO NO "__init__" = some (some (.builtin "ValueError.__init__")))
    (b8P : PySem.W.subIn K (.ref NO) (.type "ValueError") = some true)
    (b10P : PySem.W.mroIn K NO (.ref NO) = some true)
    (b11P : K.lookup cdaP = some ⟨cxP, ceP, .fields vsP, czP⟩)
    (b12P : vsP[2]? = some (.str fileP tfP))
    (b13P : ((l.prog.main.file : Str) == fileP) = true)
    (b15P : PySem.W.findIn K (.ref NO) "name" = some none)
    (b17P : PySem.W.findIn K (.ref NO) "__getattribute__" = some (some (.builtin "BaseException.__getattribute__")))
    (b18P : PySem.W.findIn K (.ref NO) "__getattr__" = some none)
    (b19P : PySem.W.hasDictIn K NO = true)
    (b25P : PySem.W.findIn K (.ref NO) "__class__" = some (some (.builtin "object.__class__")))
    (b26P : PySem.W.mroIn K NO (.type "object") = some true)
    (aC : PySem.W.nsIn K mainGlobals "CoreError" = some (some (.ref CE)))
    (q1C : PySem.W.subIn K (.ref CE) (.type "BaseException") = some true)
    (q2C : PySem.W.isClsIn K CE = true)
    (q3C : PySem.W.typeIn K (.ref CE) = some (.type "type"))
    (s11 : PySem.W.subIn K (.ref BC) (.ref BC) = some true)
    (s21 : PySem.W.subIn K (.ref NO) (.ref BC) = some false)
    (s22 : PySem.W.subIn K (.ref NO) (.ref NO) = some true)
    (s1C : PySem.W.subIn K (.ref BC) (.ref CE) = some true)
    (s2C : PySem.W.subIn K (.ref NO) (.ref CE) = some true)
    (s12 : PySem.W.subIn K (.ref BC) (.ref NO) = some false)
    (n1C : ((Value.ref BC) == (Value.ref CE)) = false)
    (n2C : ((Value.ref NO) == (Value.ref CE)) = false)
    (n12 : ((Value.ref BC) == (Value.ref NO)) = false) :
    ∃ fd : FuncData, (∀ (s : Shared) (v : Value), BindsTo s fd ⟨[v], []⟩ [("_law_script", v)]) ∧ ∀ base : Heap, K.In base → base.Ns mainGlobals mg → FnOk l.prog w K mg base CX0 7 fa fd ["_law_script"] (spLaw K) := by
  cases hfa.symm.trans (PySem.W.mg_of X G a17)
  subst eL
  refine ⟨PySem.W.fnOf "law" "law" (defArgs s_law) (defBody s_law) (defScope s_law) .none kV17 dc17 pm17 an17 cd17 ct17, fun s v => .of_eq rfl, fun base _ _ => ?_⟩
  have TA : BtA mg tL tX3 tX4 tX6 := ⟨(PySem.W.mg_none_of X G z_isinstance), (PySem.W.mg_none_of X G z_str), (PySem.W.mg_none_of X G z_bool), (PySem.W.mg_none_of X G z_tuple), (PySem.W.mg_none_of X G z_len), (PySem.W.mg_none_of X G z_all), (PySem.W.mg_none_of X G z_set), (PySem.W.mg_of X G gL), (PySem.W.mg_of X G gX3), (PySem.W.mg_of X G gX4), (PySem.W.mg_of X G gX6)⟩
  have TB : BtB mg tL tX3 tX4 tX6 := ⟨TA, (PySem.W.mg_none_of X G z_enumerate)⟩
  have TC : BtC mg := ⟨(PySem.W.mg_none_of X G z_len), (PySem.W.mg_none_of X G z_int), (PySem.W.mg_none_of X G z_abs), (PySem.W.mg_none_of X G z_range)⟩
  have TE : BtE mg := ⟨TC, (PySem.W.mg_none_of X G z_isinstance), (PySem.W.mg_none_of X G z_tuple), (PySem.W.mg_none_of X G z_bool), (PySem.W.mg_none_of X G z_list)⟩
  have TG : BtG mg := ⟨TE⟩
  have TH : BtH mg := ⟨TG⟩
  have TI : BtI mg := ⟨TH⟩
  have TO : BtO mg := ⟨(PySem.W.mg_none_of X G z_tuple)⟩
  have OXB : OexC K BC := ⟨⟨nmB, qnB, NB, bsB, bmB, snB, sbB, abB, coB, ddB, m0B, m1B, m2B, m3B, m5B, xB, rB⟩, b1B, q1B, q3B, b4B⟩
  have ECB : ErrC K BC := ⟨OXB, b7B, b8B, b9, b10B⟩
  have CFB : CodeF K l.prog cdaB := ⟨⟨cxB, ceB, vsB, czB, fileB, tfB, b11B, b12B, b13B⟩, b14⟩
  have FXB : FunX K "__init__" "BadClient.__init__" s_BadClient_init feB _ ccB cdaB BC := ⟨⟨ocB, odB, kVB, dcB, pmB, anB, ctB, slB, rfl, lB, cB⟩, ⟨clB, cdB, csB, eB⟩, kB⟩
  have KTB : KitC K BC := ⟨q2B, b17B, b18B, q1B, b25B, p12, p13, b26B⟩
  have GXB := ok_BadClient_init (P := l.prog) (w := w) (base := base) (mg := mg) (CX := L2.CX l.prog w) (Pf := SmallI) FXB ECB CFB (PySem.W.mg_none_of X G z_super) b15B (fun v h => smallI_log h)
  have ERB : Er1 l.prog w K mg base "BadClient" "caller" BC feB _ ["self", "caller"] SmallI := ⟨(PySem.W.mg_of X G aB), OXB, b5B, b6B, .all fun us hl => match us, hl with | [_, _], _ => rfl, GXB⟩
  have OXP : OexC K NO := ⟨⟨nmP, qnP, NP, bsP, bmP, snP, sbP, abP, coP, ddP, m0P, m1P, m2P, m3P, m5P, xP, rP⟩, b1P, q1P, q3P, b4P⟩
  have ECP : ErrC K NO := ⟨OXP, b7P, b8P, b9, b10P⟩
  have CFP : CodeF K l.prog cdaP := ⟨⟨cxP, ceP, vsP, czP, fileP, tfP, b11P, b12P, b13P⟩, b14⟩
  have FXP : FunX K "__init__" "NoOperation.__init__" s_NoOperation_init feP _ ccP cdaP NO := ⟨⟨ocP, odP, kVP, dcP, pmP, anP, ctP, slP, rfl, lP, cP⟩, ⟨clP, cdP, csP, eP⟩, kP⟩
  have KTP : KitC K NO := ⟨q2P, b17P, b18P, q1P, b25P, p12, p13, b26P⟩
  have GXP := ok_NoOperation_init (P := l.prog) (w := w) (base := base) (mg := mg) (CX := L2.CX l.prog w) (Pf := (fun _ => True)) FXP ECP CFP (PySem.W.mg_none_of X G z_super) b15P
  have ERP : Er1 l.prog w K mg base "NoOperation" "name" NO feP _ ["self", "name"] (fun _ => True) := ⟨(PySem.W.mg_of X G aP), OXP, b5P, b6P, .all fun us hl => match us, hl with | [_, _], _ => rfl, GXP⟩
  have TF : BtF K mg CE BC NO := ⟨(PySem.W.mg_of X G aC), (PySem.W.mg_of X G aB), (PySem.W.mg_of X G aP), ⟨b17B, b18B, q1B, b19B⟩, b15B, ⟨b17P, b18P, q1P, b19P⟩, b15P, exm_sub q1B q2B q3B s11, exm_sub q1B q2B q3B s21, exm_sub q1P q2P q3P s22, exm_sub q1C q2C q3C s1C, exm_sub q1C q2C q3C s2C, KTB, KTP, kit_sub n1C q2C q3C s1C, kit_ty b31 b8B, kit_sub n12 q2P q3P s12, kit_sub n2C q2C q3C s2C, kit_ty b31 b8P, (PySem.W.mg_none_of X G z_isinstance), (PySem.W.mg_none_of X G z_ValueError), (PySem.W.mg_none_of X G z_int), (PySem.W.mg_none_of X G z_bool), (PySem.W.mg_none_of X G z_str)⟩
  have F0 := fun_mk (st := s_is_name) l0 c0 k0
  have D0 : Df K mg "is_name" s_is_name ["value"] f0 _ := ⟨F0, PySem.W.mg_of X G a0, F0.binds (ps := ["value"]) fun _ _ _ _ _ _ us hl => match us, hl with | [_], _ => rfl⟩
  have F1 := fun_mk (st := s_is_menu) l1 c1 k1
  have D1 : Df K mg "is_menu" s_is_menu ["value"] f1 _ := ⟨F1, PySem.W.mg_of X G a1, F1.binds (ps := ["value"]) fun _ _ _ _ _ _ us hl => match us, hl with | [_], _ => rfl⟩
  have F2 := fun_mk (st := s_is_caller) l2 c2 k2
  have D2 : Df K mg "is_caller" s_is_caller ["value"] f2 _ := ⟨F2, PySem.W.mg_of X G a2, F2.binds (ps := ["value"]) fun _ _ _ _ _ _ us hl => match us, hl with | [_], _ => rfl⟩
  have F3 := fun_mk (st := s_check_callers) l3 c3 k3
  have D3 : Df K mg "check_callers" s_check_callers ["client"] f3 _ := ⟨F3, PySem.W.mg_of X G a3, F3.binds (ps := ["client"]) fun _ _ _ _ _ _ us hl => match us, hl with | [_], _ => rfl⟩
  have F4 := fun_mk (st := s_check_client) l4 c4 k4
  have D4 : Df K mg "check_client" s_check_client ["client", "names"] f4 _ := ⟨F4, PySem.W.mg_of X G a4, F4.binds (ps := ["client", "names"]) fun _ _ _ _ _ _ us hl => match us, hl with | [_, _], _ => rfl⟩
  have F5 := fun_mk (st := s_law_draw) l5 c5 k5
  have D5 : Df K mg "_law_draw" s_law_draw ["_law_script", "_law_k"] f5 _ := ⟨F5, PySem.W.mg_of X G a5, F5.binds (ps := ["_law_script", "_law_k"]) fun _ _ _ _ _ _ us hl => match us, hl with | [_, _], _ => rfl⟩
  have F6 := fun_mk (st := s_law_name) l6 c6 k6
  have D6 : Df K mg "_law_name" s_law_name ["_law_cell", "_law_more", "_law_names"] f6 _ := ⟨F6, PySem.W.mg_of X G a6, F6.binds (ps := ["_law_cell", "_law_more", "_law_names"]) fun _ _ _ _ _ _ us hl => match us, hl with | [_, _, _], _ => rfl⟩
  have F7 := fun_mk (st := s_law_once) l7 c7 k7
  have D7 : Df K mg "_law_once" s_law_once ["_law_row"] f7 _ := ⟨F7, PySem.W.mg_of X G a7, F7.binds (ps := ["_law_row"]) fun _ _ _ _ _ _ us hl => match us, hl with | [_], _ => rfl⟩
  have F8 := fun_mk (st := s_law_always) l8 c8 k8
  have D8 : Df K mg "_law_always" s_law_always ["_law_row"] f8 _ := ⟨F8, PySem.W.mg_of X G a8, F8.binds (ps := ["_law_row"]) fun _ _ _ _ _ _ us hl => match us, hl with | [_], _ => rfl⟩
  have F9 := fun_mk (st := s_law_is_caller) l9 c9 k9
  have D9 : Df K mg "_law_is_caller" s_law_is_caller ["_law_actual", "_law_menus", "_law_again"] f9 _ := ⟨F9, PySem.W.mg_of X G a9, F9.binds (ps := ["_law_actual", "_law_menus", "_law_again"]) fun _ _ _ _ _ _ us hl => match us, hl with | [_, _, _], _ => rfl⟩
  have F10 := fun_mk (st := s_law_with) l10 c10 k10
  have D10 : Df K mg "_law_with" s_law_with ["_law_menus", "_law_at", "_law_menu"] f10 _ := ⟨F10, PySem.W.mg_of X G a10, F10.binds (ps := ["_law_menus", "_law_at", "_law_menu"]) fun _ _ _ _ _ _ us hl => match us, hl with | [_, _, _], _ => rfl⟩
  have F11 := fun_mk (st := s_law_caller) l11 c11 k11
  have D11 : Df K mg "_law_caller" s_law_caller ["_law_names", "_law_cell", "_law_more"] f11 _ := ⟨F11, PySem.W.mg_of X G a11, F11.binds (ps := ["_law_names", "_law_cell", "_law_more"]) fun _ _ _ _ _ _ us hl => match us, hl with | [_, _, _], _ => rfl⟩
  have F12 := fun_mk (st := s_law_spoilt) l12 c12 k12
  have D12 : Df K mg "_law_spoilt" s_law_spoilt ["_law_caller_here", "_law_names", "_law_cell", "_law_more"] f12 _ := ⟨F12, PySem.W.mg_of X G a12, F12.binds (ps := ["_law_caller_here", "_law_names", "_law_cell", "_law_more"]) fun _ _ _ _ _ _ us hl => match us, hl with | [_, _, _, _], _ => rfl⟩
  have F13 := fun_mk (st := s_law_some) l13 c13 k13
  have D13 : Df K mg "_law_some" s_law_some ["_law_names", "_law_bits", "_law_place"] f13 _ := ⟨F13, PySem.W.mg_of X G a13, F13.binds (ps := ["_law_names", "_law_bits", "_law_place"]) fun _ _ _ _ _ _ us hl => match us, hl with | [_, _, _], _ => rfl⟩
  have F14 := fun_mk (st := s_law_due) l14 c14 k14
  have D14 : Df K mg "_law_due" s_law_due ["_law_client", "_law_spoilt_here", "_law_known"] f14 _ := ⟨F14, PySem.W.mg_of X G a14, F14.binds (ps := ["_law_client", "_law_spoilt_here", "_law_known"]) fun _ _ _ _ _ _ us hl => match us, hl with | [_, _, _], _ => rfl⟩
  have F15 := fun_mk (st := s_law_refused) l15 c15 k15
  have D15 : Df K mg "_law_refused" s_law_refused ["_law_client", "_law_known"] f15 _ := ⟨F15, PySem.W.mg_of X G a15, F15.binds (ps := ["_law_client", "_law_known"]) fun _ _ _ _ _ _ us hl => match us, hl with | [_, _], _ => rfl⟩
  have F16 := fun_mk (st := s_law_base) l16 c16 k16
  have D16 : Df K mg "_law_base" s_law_base ["_law_client", "_law_known"] f16 _ := ⟨F16, PySem.W.mg_of X G a16, F16.binds (ps := ["_law_client", "_law_known"]) fun _ _ _ _ _ _ us hl => match us, hl with | [_, _], _ => rfl⟩
  have F17 := fun_mk (st := s_law) l17 c17 k17
  have D17 : Df K mg "law" s_law ["_law_script"] fa _ := ⟨F17, PySem.W.mg_of X G a17, F17.binds (ps := ["_law_script"]) fun _ _ _ _ _ _ us hl => match us, hl with | [_], _ => rfl⟩
  have GO1 := ok_once (P := l.prog) (w := w) (base := base) (mg := mg) TO l18 c18
  have GO2 := ok_always (P := l.prog) (w := w) (base := base) (mg := mg) TO l19 c19
  have G0 := ok_is_name (P := l.prog) (w := w) (base := base) D0 TA
  have G1 := ok_is_menu (P := l.prog) (w := w) (base := base) D1 TA D0 G0
  have G2 := ok_is_caller (P := l.prog) (w := w) (base := base) D2 TA D1 G1
  have G3 := ok_check_callers (P := l.prog) (w := w) (base := base) D3 TB ERB D2 G2
  have G4 := ok_check_client (P := l.prog) (w := w) (base := base) D4 TB ERP D3 G3
  have G5 := ok_law_draw (P := l.prog) (w := w) (base := base) D5 TC
  have G6 := ok_law_name (P := l.prog) (w := w) (base := base) D6 TC
  have G7 := ok_law_once (P := l.prog) (w := w) (base := base) D7 TC (PySem.W.mg_of X G a18) k18 GO1
  have G8 := ok_law_always (P := l.prog) (w := w) (base := base) D8 TC (PySem.W.mg_of X G a19) k19 GO2
  have G9 := ok_law_is_caller (P := l.prog) (w := w) (base := base) D9 TE
  have G10 := ok_law_with (P := l.prog) (w := w) (base := base) D10 TG
  have G11 := ok_law_caller (P := l.prog) (w := w) (base := base) D11 TG
  have G12 := ok_law_spoilt (P := l.prog) (w := w) (base := base) D12 TH D10 G10
  have G13 := ok_law_some (P := l.prog) (w := w) (base := base) D13 TE
  have G14 := ok_law_due (P := l.prog) (w := w) (base := base) D14 TE
  have G15 := ok_law_refused (P := l.prog) (w := w) (base := base) D15 TF D4 G4
  have G16 := ok_law_base (P := l.prog) (w := w) (base := base) D16 TF D4 G4
  exact ok_law (P := l.prog) (w := w) (base := base) D17 TI D5 G5 D6 G6 D7 G7 D8 G8 D9 G9 D11 G11 D12 G12 D13 G13 D14 G14 D15 G15 D16 G16
theorem walk {l : PySem.W.OpenLaw} {q : Program} {loose : List Str} {XP : (Str → Option Value) → Heap → Prop} {YP : World → Heap → Prop} {d : DefRec} {K : Params → PySem.W.Frag} (hn : l.most = some 63) (hdf : d.params.defaults = [])
    (hY : ∀ (w : World) (h : Heap), YP w h → (K w.params).In h)
    (F : ∀ (w : World) (mg : Str → Option Value) (fa : Addr) (h : Heap), (K w.params).In h → h.Ns mainGlobals mg → mg d.name = some (.ref fa) →
      ∃ fd : FuncData, (∀ (s : Shared) (u : Value), BindsTo s fd ⟨[u], []⟩ [("_law_script", u)]) ∧ ∀ base : Heap, (K w.params).In base → base.Ns mainGlobals mg → FnOk l.prog w (K w.params) mg base CX0 7 fa fd ["_law_script"] (spLaw (K w.params))) :
    PySem.W.WalkO q loose XP YP l.row.toRowW d [] (fun f vs => PySem.call f vs) :=
  L2.walk_of (n := 63) (k := 7) (x := "_law_script") (CX := fun _ => CX0) (sp := fun w => spLaw (K w.params)) hn (by decide) hdf ⟨rfl, by decide, by decide⟩ hY F (fun _ _ a ns hl _ hS => ⟨a, ns, rfl, hS, hl, fun _ _ => rfl⟩) fun _ _ _ _ _ z => z
end My
open PySem PySem.W PyProof.Rows in
set_option maxRecDepth 100000 in
set_option maxHeartbeats 0 in
theorem PySem.Challenge.cw_coretower_k59_callers_are_checked_holds : PySem.Challenge.rw_coretower_k59_callers_are_checked.Holds := by
  w_on; o_law; k_head; (case hw => w_witness2)
  k_fill
  refine My.walk (l := PySem.Challenge.rw_coretower_k59_callers_are_checked) rfl rfl (fun w h Y => PySem.W.kIn_of Y) ?F
  case F =>
    intro w mg fa h KX G hmg
    refine' My.all_mk KX G hmg ?a0 ?l0 ?c0 ?k0 ?a1 ?l1 ?c1 ?k1 ?a2 ?l2 ?c2 ?k2 ?a3 ?l3 ?c3 ?k3 ?a4 ?l4 ?c4 ?k4 ?a5 ?l5 ?c5 ?k5 ?a6 ?l6 ?c6 ?k6 ?a7 ?l7 ?c7 ?k7 ?a8 ?l8 ?c8 ?k8 ?a9 ?l9 ?c9 ?k9 ?a10 ?l10 ?c10 ?k10 ?a11 ?l11 ?c11 ?k11 ?a12 ?l12 ?c12 ?k12 ?a13 ?l13 ?c13 ?k13 ?a14 ?l14 ?c14 ?k14 ?a15 ?l15 ?c15 ?k15 ?a16 ?l16 ?c16 ?k16 ?a17 ?l17 ?c17 ?k17 ?a18 ?l18 ?c18 ?k18 ?a19 ?l19 ?c19 ?k19 ?z_isinstance ?z_str ?z_bool ?z_tuple ?z_len ?z_all ?z_set ?z_enumerate ?z_int ?z_abs ?z_range ?z_list ?z_ValueError ?z_super ?gL ?eL ?gX3 ?gX4 ?gX6 ?aB ?xB ?rB ?b1B ?q1B ?q2B ?q3B ?b4B ?b5B ?b6B ?lB ?cB ?kB ?eB ?b7B ?b8B ?b9 ?b14 ?b31 ?p12 ?p13 ?b10B ?b11B ?b12B ?b13B ?b15B ?b17B ?b18B ?b19B ?b25B ?b26B ?aP ?xP ?rP ?b1P ?q1P ?q2P ?q3P ?b4P ?b5P ?b6P ?lP ?cP ?kP ?eP ?b7P ?b8P ?b10P ?b11P ?b12P ?b13P ?b15P ?b17P ?b18P ?b19P ?b25P ?b26P ?aC ?q1C ?q2C ?q3C ?s11 ?s21 ?s22 ?s1C ?s2C ?s12 ?n1C ?n2C ?n12
    (case a0 => k_is)
    (case l0 => k_is)
    (case c0 => k_is)
    (case k0 => k_is)
    (case a1 => k_is)
    (case l1 => k_is)
    (case c1 => k_is)
    (case k1 => k_is)
    (case a2 => k_is)
    (case l2 => k_is)
    (case c2 => k_is)
    (case k2 => k_is)
    (case a3 => k_is)
    (case l3 => k_is)
    (case c3 => k_is)
    (case k3 => k_is)
    (case a4 => k_is)
    (case l4 => k_is)
    (case c4 => k_is)
    (case k4 => k_is)
    (case a5 => k_is)
    (case l5 => k_is)
    (case c5 => k_is)
    (case k5 => k_is)
    (case a6 => k_is)
    (case l6 => k_is)
    (case c6 => k_is)
    (case k6 => k_is)
    (case a7 => k_is)
    (case l7 => k_is)
    (case c7 => k_is)
    (case k7 => k_is)
    (case a8 => k_is)
    (case l8 => k_is)
    (case c8 => k_is)
    (case k8 => k_is)
    (case a9 => k_is)
    (case l9 => k_is)
    (case c9 => k_is)
    (case k9 => k_is)
    (case a10 => k_is)
    (case l10 => k_is)
    (case c10 => k_is)
    (case k10 => k_is)
    (case a11 => k_is)
    (case l11 => k_is)
    (case c11 => k_is)
    (case k11 => k_is)
    (case a12 => k_is)
    (case l12 => k_is)
    (case c12 => k_is)
    (case k12 => k_is)
    (case a13 => k_is)
    (case l13 => k_is)
    (case c13 => k_is)
    (case k13 => k_is)
    (case a14 => k_is)
    (case l14 => k_is)
    (case c14 => k_is)
    (case k14 => k_is)
    (case a15 => k_is)
    (case l15 => k_is)
    (case c15 => k_is)
    (case k15 => k_is)
    (case a16 => k_is)
    (case l16 => k_is)
    (case c16 => k_is)
    (case k16 => k_is)
    (case a17 => k_is)
    (case l17 => k_is)
    (case c17 => k_is)
    (case k17 => k_is)
    (case a18 => k_is)
    (case l18 => k_is)
    (case c18 => k_is)
    (case k18 => k_is)
    (case a19 => k_is)
    (case l19 => k_is)
    (case c19 => k_is)
    (case k19 => k_is)
    (case z_isinstance => k_is)
    (case z_str => k_is)
    (case z_bool => k_is)
    (case z_tuple => k_is)
    (case z_len => k_is)
    (case z_all => k_is)
    (case z_set => k_is)
    (case z_enumerate => k_is)
    (case z_int => k_is)
    (case z_abs => k_is)
    (case z_range => k_is)
    (case z_list => k_is)
    (case z_ValueError => k_is)
    (case z_super => k_is)
    (case gL => k_is)
    (case eL => decide +kernel)
    (case gX3 => k_is)
    (case gX4 => k_is)
    (case gX6 => k_is)
    (case aB => k_is)
    (case xB => k_is)
    (case rB => decide +kernel)
    (case b1B => k_is)
    (case q1B => k_is)
    (case q2B => k_is)
    (case q3B => k_is)
    (case b4B => k_is)
    (case b5B => k_is)
    (case b6B => k_is)
    (case lB => k_is)
    (case cB => k_is)
    (case kB => k_is)
    (case eB => k_is)
    (case b7B => ks_is)
    (case b8B => k_is)
    (case b9 => k_is)
    (case b14 => first | rfl | decide +kernel)
    (case b31 => decide +kernel)
    (case p12 => k_is)
    (case p13 => k_is)
    (case b10B => k_is)
    (case b11B => k_is)
    (case b12B => rfl)
    (case b13B => first | rfl | decide +kernel)
    (case b15B => k_is)
    (case b17B => k_is)
    (case b18B => k_is)
    (case b19B => k_is)
    (case b25B => k_is)
    (case b26B => k_is)
    (case aP => k_is)
    (case xP => k_is)
    (case rP => decide +kernel)
    (case b1P => k_is)
    (case q1P => k_is)
    (case q2P => k_is)
    (case q3P => k_is)
    (case b4P => k_is)
    (case b5P => k_is)
    (case b6P => k_is)
    (case lP => k_is)
    (case cP => k_is)
    (case kP => k_is)
    (case eP => k_is)
    (case b7P => ks_is)
    (case b8P => k_is)
    (case b10P => k_is)
    (case b11P => k_is)
    (case b12P => rfl)
    (case b13P => first | rfl | decide +kernel)
    (case b15P => k_is)
    (case b17P => k_is)
    (case b18P => k_is)
    (case b19P => k_is)
    (case b25P => k_is)
    (case b26P => k_is)
    (case aC => k_is)
    (case q1C => k_is)
    (case q2C => k_is)
    (case q3C => k_is)
    (case s11 => first | rfl | k_is)
    (case s21 => first | rfl | k_is)
    (case s22 => first | rfl | k_is)
    (case s1C => first | rfl | k_is)
    (case s2C => first | rfl | k_is)
    (case s12 => first | rfl | k_is)
    (case n1C => decide +kernel)
    (case n2C => decide +kernel)
    (case n12 => decide +kernel)

