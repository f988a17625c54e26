/- What the statements of layer 6 ask of the program's Unpack, Pack and Most: all of it, met. -/
import Derived.Test.YtpfhkbagapodoaaLzpack
