/- Small facts that every walk wants: all of them lie in Base. -/
import Derived.Test.YtpophfeommlajaaMP03

